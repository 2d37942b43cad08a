/-
  Package predicate: Valid.
  Package predicate: formatMask, Format.
-/
import Derived.Deep.QuietTactic
import Derived.BigQuiet
import Derived.Test.YtpodgmmgphibfaaDoorPk3
import Derived.Test.YtpodgmmgphibfaaDoorShelf
import Derived.Test.YtpodgmmgphibfaaDoorPk5
import Derived.Test.YtpodgmmgphibfaaDoorPk0
namespace Go.Proofs.YtpodgmmgphibfaaDoor
open Go Go.RowKit Sh Leaf

/-- The six cells of a predicate. -/
theorem pcells {w : World} {g : Nat} {t : TypeId} {a b c d e f : Value} (h : Whole w g t #[a, b, c, d, e, f]) :
    w.cell? ⟨g, 0, none⟩ = some a ∧ w.cell? ⟨g, 1, none⟩ = some b ∧ w.cell? ⟨g, 2, none⟩ = some c ∧ w.cell? ⟨g, 3, none⟩ = some d ∧ w.cell? ⟨g, 4, none⟩ = some e ∧ w.cell? ⟨g, 5, none⟩ = some f :=
  ⟨h.cell 0, h.cell 1, h.cell 2, h.cell 3, h.cell 4, h.cell 5⟩
theorem bitLen_iff (m : Nat) (hm : m < 18446744073709551616) (k : Nat) : Lib.bitLen m ≤ k ↔ m < 2 ^ k := by
  constructor
  · intro h
    by_cases h0 : m = 0
    · subst h0; exact Nat.two_pow_pos k
    · have := (Lib.bitLenAux_bounds 64 m (by omega) h0).2.2
      exact Nat.lt_of_lt_of_le this (Nat.pow_le_pow_right (by omega) h)
  · intro h
    by_cases h0 : m = 0
    · subst h0; exact Nat.zero_le _
    · have := (Lib.bitLenAux_bounds 64 m (by omega) h0).2.1
      have h2 : 2 ^ (Lib.bitLenAux 64 m - 1) < 2 ^ k := Nat.lt_of_le_of_lt this h
      have := (Nat.pow_lt_pow_iff_right (by omega : 1 < 2)).1 h2
      show Lib.bitLenAux 64 m ≤ k
      omega
theorem len64 (m : Nat) (hm : m < 18446744073709551616) (w : World) : Calls Tryd.prog 32 #[.int .u64 (m : Int)] w fun e w' => e = .returned (.int .i64 (Lib.bitLen m : Int)) ∧ w' = w := by
  have h := Tryd.bits_Len64 (m : Int) w (by omega) (by omega)
  rw [Int.toNat_natCast] at h
  exact h
/-- n is from 0 to most. -/
@[irreducible] def inr (n most : Int) : Bool := decide (0 ≤ n ∧ n ≤ most)
theorem inr_true {n most : Int} (h : 0 ≤ n ∧ n ≤ most) : inr n most = true := by unfold inr; exact decide_eq_true h
theorem inr_false {n most : Int} (h : ¬ (0 ≤ n ∧ n ≤ most)) : inr n most = false := by unfold inr; exact decide_eq_false h
theorem up_to (most n : Int) (w : World) : Calls Tryd.prog 33 #[.int .i64 most, .int .i64 n] w fun e w' => e = .returned (.bool (inr n most)) ∧ w = w' := by
  by_cases h0 : 0 ≤ n
  · by_cases h1 : n ≤ most
    · have HD := Lib.hid (inr_true ⟨h0, h1⟩)
      go_enter Tryd.func33, Tryd.ntmps33
      go_wp2
      go_ret
      exact ⟨by rw [HD.out]; rfl, rfl⟩
    · have HD := Lib.hid (inr_false (fun h => h1 h.2))
      go_enter Tryd.func33, Tryd.ntmps33
      go_wp2
      go_ret
      exact ⟨by rw [HD.out]; rfl, rfl⟩
  · have HD := Lib.hid (inr_false (n := n) (most := most) (fun h => h0 h.1))
    go_enter Tryd.func33, Tryd.ntmps33
    go_wp2
    go_ret
    exact ⟨by rw [HD.out]; simp, rfl⟩
/-- What the call leaves below. -/
theorem pv_below {w w1 : World} {o o1 o2 : Obj} (h : Below (w.alloc o).heap.size (w.alloc o) w1) (n : Nat) : Below w.heap.size w (((w1.alloc o1).alloc o2).drewN n) := by
  have h1 := ((Below.refl w.heap.size w).alloc (Nat.le_refl _) o).trans (h.mono (by simp))
  have hs := h1.size
  exact below_drewN ((h1.alloc hs _).alloc (by simp; omega) _) n
set_option linter.unusedVariables false in
set_option maxHeartbeats 1000000 in
theorem pvalid1 (m : Nat) (lo hi nu : Int) (nm : List B8) (hm : m < 18446744073709551616) (hn : nm.length ≤ 9223372036854775807) (w : World) :
    Calls Tryd.prog 12 #[pv ⟨1, m, lo, hi, nm, nu⟩] w fun e w' => e = .returned (.bool (decide (pok ⟨1, m, lo, hi, nm, nu⟩))) ∧ Below w.heap.size w w' := by
  unfold pv
  simp only
  have hlen := fun W => len64 m hm W
  have hbl := bitLen_iff m hm 64
  have HQ := Lib.hid (fun W => run_eql_prd0 1 (m : Int) lo hi nu 1 (m : Int) 0 0 0 nm W)
  have hbn : ((Lib.bitLen m : Nat) : Int) ≤ 64 ↔ m < 18446744073709551616 := by
    rw [show ((64 : Int)) = ((64 : Nat) : Int) from rfl, Int.ofNat_le]; exact hbl
  clear hbl
  generalize Lib.bitLen m = L at hlen hbn
  by_cases h0 : m = 0
  · have HD : Hid (decide (pok ⟨1, m, lo, hi, nm, nu⟩) = false) := Lib.hid (decide_eq_false (by unfold pok; simp [h0]))
    clear hbn hlen
    have h0b : ((m : Int) != 0) = false := by simp [h0]
    go_enter Tryd.func12, Tryd.ntmps12
    go_wp2_with fail
    refine (describe _ _).mono ?_
    rintro e w1 ⟨rfl, hb1⟩
    rw [dsv_1]
    have hW := (Whole.here w 24 _).below hb1 (by simp)
    obtain ⟨c0, c1, c2, c3, c4, c5⟩ := pcells hW
    have hg := hW.lt
    have HB := Lib.hid hb1
    clear hW hb1
    go_wp2_with fail
    go_quiet (fail)
    go_wp2
    go_ret
    exact ⟨by rw [HD.out]; rfl, pv_below HB.out nq⟩
  have h0b : ((m : Int) != 0) = true := by simp; exact h0
  by_cases h1 : m < 18446744073709551616
  · have hle := hbn.2 h1
    have hq := HQ.out
    obtain ⟨B, hB⟩ : ∃ B, B = decide ((1 : Int) = 1 ∧ (m : Int) = m ∧ lo = 0 ∧ hi = 0 ∧ nm = [] ∧ nu = 0) := ⟨_, rfl⟩
    rw [← hB] at hq
    have HD : Hid (decide (pok ⟨1, m, lo, hi, nm, nu⟩) = B) := Lib.hid (by rw [hB, Bool.eq_iff_iff, decide_eq_true_iff, decide_eq_true_iff]; unfold pok; simp [h0])
    clear hB HQ hbn h0 h1
    go_enter Tryd.func12, Tryd.ntmps12
    go_wp2_with fail
    refine (describe _ _).mono ?_
    rintro e w1 ⟨rfl, hb1⟩
    rw [dsv_1]
    have hW := (Whole.here w 24 _).below hb1 (by simp)
    obtain ⟨c0, c1, c2, c3, c4, c5⟩ := pcells hW
    have hg := hW.lt
    have HB := Lib.hid hb1
    clear hW hb1
    go_wp2_with fail
    go_quiet ((go_at_call 32; exact Calls.quiet_of_same (hlen _)))
    go_wp2
    go_ret
    exact ⟨by rw [HD.out]; rfl, pv_below HB.out nq⟩
  · exact absurd hm h1
set_option linter.unusedVariables false in
set_option maxHeartbeats 1000000 in
theorem pvalid2 (m : Nat) (lo hi nu : Int) (nm : List B8) (hm : m < 18446744073709551616) (hn : nm.length ≤ 9223372036854775807) (w : World) :
    Calls Tryd.prog 12 #[pv ⟨2, m, lo, hi, nm, nu⟩] w fun e w' => e = .returned (.bool (decide (pok ⟨2, m, lo, hi, nm, nu⟩))) ∧ Below w.heap.size w w' := by
  unfold pv
  simp only
  have hlen := fun W => len64 m hm W
  have hbl := bitLen_iff m hm 32
  have HQ := Lib.hid (fun W => run_eql_prd0 2 (m : Int) lo hi nu 2 (m : Int) 0 0 0 nm W)
  have hbn : ((Lib.bitLen m : Nat) : Int) ≤ 32 ↔ m < 4294967296 := by
    rw [show ((32 : Int)) = ((32 : Nat) : Int) from rfl, Int.ofNat_le]; exact hbl
  clear hbl
  generalize Lib.bitLen m = L at hlen hbn
  by_cases h0 : m = 0
  · have HD : Hid (decide (pok ⟨2, m, lo, hi, nm, nu⟩) = false) := Lib.hid (decide_eq_false (by unfold pok; simp [h0]))
    clear hbn hlen
    have h0b : ((m : Int) != 0) = false := by simp [h0]
    go_enter Tryd.func12, Tryd.ntmps12
    go_wp2_with fail
    refine (describe _ _).mono ?_
    rintro e w1 ⟨rfl, hb1⟩
    rw [dsv_2]
    have hW := (Whole.here w 24 _).below hb1 (by simp)
    obtain ⟨c0, c1, c2, c3, c4, c5⟩ := pcells hW
    have hg := hW.lt
    have HB := Lib.hid hb1
    clear hW hb1
    go_wp2_with fail
    go_quiet (fail)
    go_wp2
    go_ret
    exact ⟨by rw [HD.out]; rfl, pv_below HB.out nq⟩
  have h0b : ((m : Int) != 0) = true := by simp; exact h0
  by_cases h1 : m < 4294967296
  · have hle := hbn.2 h1
    have hq := HQ.out
    obtain ⟨B, hB⟩ : ∃ B, B = decide ((2 : Int) = 2 ∧ (m : Int) = m ∧ lo = 0 ∧ hi = 0 ∧ nm = [] ∧ nu = 0) := ⟨_, rfl⟩
    rw [← hB] at hq
    have HD : Hid (decide (pok ⟨2, m, lo, hi, nm, nu⟩) = B) := Lib.hid (by rw [hB, Bool.eq_iff_iff, decide_eq_true_iff, decide_eq_true_iff]; unfold pok; simp [h0]; omega)
    clear hB HQ hbn h0 h1
    go_enter Tryd.func12, Tryd.ntmps12
    go_wp2_with fail
    refine (describe _ _).mono ?_
    rintro e w1 ⟨rfl, hb1⟩
    rw [dsv_2]
    have hW := (Whole.here w 24 _).below hb1 (by simp)
    obtain ⟨c0, c1, c2, c3, c4, c5⟩ := pcells hW
    have hg := hW.lt
    have HB := Lib.hid hb1
    clear hW hb1
    go_wp2_with fail
    go_quiet ((go_at_call 32; exact Calls.quiet_of_same (hlen _)))
    go_wp2
    go_ret
    exact ⟨by rw [HD.out]; rfl, pv_below HB.out nq⟩
  · have hgt : (32 : Int) < (L : Int) := by omega
    have HD : Hid (decide (pok ⟨2, m, lo, hi, nm, nu⟩) = false) := Lib.hid (decide_eq_false (by unfold pok; simp; omega))
    clear HQ hbn h0 h1
    go_enter Tryd.func12, Tryd.ntmps12
    go_wp2_with fail
    refine (describe _ _).mono ?_
    rintro e w1 ⟨rfl, hb1⟩
    rw [dsv_2]
    have hW := (Whole.here w 24 _).below hb1 (by simp)
    obtain ⟨c0, c1, c2, c3, c4, c5⟩ := pcells hW
    have hg := hW.lt
    have HB := Lib.hid hb1
    clear hW hb1
    go_wp2_with fail
    go_quiet ((go_at_call 32; exact Calls.quiet_of_same (hlen _)))
    go_wp2
    go_ret
    exact ⟨by rw [HD.out]; rfl, pv_below HB.out nq⟩
set_option linter.unusedVariables false in
set_option maxHeartbeats 1000000 in
theorem pvalid3 (m : Nat) (lo hi nu : Int) (nm : List B8) (hm : m < 18446744073709551616) (hn : nm.length ≤ 9223372036854775807) (w : World) :
    Calls Tryd.prog 12 #[pv ⟨3, m, lo, hi, nm, nu⟩] w fun e w' => e = .returned (.bool (decide (pok ⟨3, m, lo, hi, nm, nu⟩))) ∧ Below w.heap.size w w' := by
  unfold pv
  simp only
  have hlen := fun W => len64 m hm W
  have hbl := bitLen_iff m hm 7
  have HQ := Lib.hid (fun W => run_eql_prd0 3 (m : Int) lo hi nu 3 (m : Int) 0 0 0 nm W)
  have hbn : ((Lib.bitLen m : Nat) : Int) ≤ 7 ↔ m < 128 := by
    rw [show ((7 : Int)) = ((7 : Nat) : Int) from rfl, Int.ofNat_le]; exact hbl
  clear hbl
  generalize Lib.bitLen m = L at hlen hbn
  by_cases h0 : m = 0
  · have HD : Hid (decide (pok ⟨3, m, lo, hi, nm, nu⟩) = false) := Lib.hid (decide_eq_false (by unfold pok; simp [h0]))
    clear hbn hlen
    have h0b : ((m : Int) != 0) = false := by simp [h0]
    go_enter Tryd.func12, Tryd.ntmps12
    go_wp2_with fail
    refine (describe _ _).mono ?_
    rintro e w1 ⟨rfl, hb1⟩
    rw [dsv_3]
    have hW := (Whole.here w 24 _).below hb1 (by simp)
    obtain ⟨c0, c1, c2, c3, c4, c5⟩ := pcells hW
    have hg := hW.lt
    have HB := Lib.hid hb1
    clear hW hb1
    go_wp2_with fail
    go_quiet (fail)
    go_wp2
    go_ret
    exact ⟨by rw [HD.out]; rfl, pv_below HB.out nq⟩
  have h0b : ((m : Int) != 0) = true := by simp; exact h0
  by_cases h1 : m < 128
  · have hle := hbn.2 h1
    have hq := HQ.out
    obtain ⟨B, hB⟩ : ∃ B, B = decide ((3 : Int) = 3 ∧ (m : Int) = m ∧ lo = 0 ∧ hi = 0 ∧ nm = [] ∧ nu = 0) := ⟨_, rfl⟩
    rw [← hB] at hq
    have HD : Hid (decide (pok ⟨3, m, lo, hi, nm, nu⟩) = B) := Lib.hid (by rw [hB, Bool.eq_iff_iff, decide_eq_true_iff, decide_eq_true_iff]; unfold pok; simp [h0]; omega)
    clear hB HQ hbn h0 h1
    go_enter Tryd.func12, Tryd.ntmps12
    go_wp2_with fail
    refine (describe _ _).mono ?_
    rintro e w1 ⟨rfl, hb1⟩
    rw [dsv_3]
    have hW := (Whole.here w 24 _).below hb1 (by simp)
    obtain ⟨c0, c1, c2, c3, c4, c5⟩ := pcells hW
    have hg := hW.lt
    have HB := Lib.hid hb1
    clear hW hb1
    go_wp2_with fail
    go_quiet ((go_at_call 32; exact Calls.quiet_of_same (hlen _)))
    go_wp2
    go_ret
    exact ⟨by rw [HD.out]; rfl, pv_below HB.out nq⟩
  · have hgt : (7 : Int) < (L : Int) := by omega
    have HD : Hid (decide (pok ⟨3, m, lo, hi, nm, nu⟩) = false) := Lib.hid (decide_eq_false (by unfold pok; simp; omega))
    clear HQ hbn h0 h1
    go_enter Tryd.func12, Tryd.ntmps12
    go_wp2_with fail
    refine (describe _ _).mono ?_
    rintro e w1 ⟨rfl, hb1⟩
    rw [dsv_3]
    have hW := (Whole.here w 24 _).below hb1 (by simp)
    obtain ⟨c0, c1, c2, c3, c4, c5⟩ := pcells hW
    have hg := hW.lt
    have HB := Lib.hid hb1
    clear hW hb1
    go_wp2_with fail
    go_quiet ((go_at_call 32; exact Calls.quiet_of_same (hlen _)))
    go_wp2
    go_ret
    exact ⟨by rw [HD.out]; rfl, pv_below HB.out nq⟩
set_option linter.unusedVariables false in
set_option maxHeartbeats 1000000 in
theorem pvalid4 (m : Nat) (lo hi nu : Int) (nm : List B8) (hm : m < 18446744073709551616) (hn : nm.length ≤ 9223372036854775807) (w : World) :
    Calls Tryd.prog 12 #[pv ⟨4, m, lo, hi, nm, nu⟩] w fun e w' => e = .returned (.bool (decide (pok ⟨4, m, lo, hi, nm, nu⟩))) ∧ Below w.heap.size w w' := by
  unfold pv
  simp only
  have HQ := Lib.hid (fun W => run_eql_prd0 4 (m : Int) lo hi nu 4 0 lo hi 0 nm W)
  by_cases h0 : 0 ≤ lo ∧ lo ≤ 67108864
  case neg =>
    have HD : Hid (decide (pok ⟨4, m, lo, hi, nm, nu⟩) = false) := Lib.hid (decide_eq_false (by unfold pok; simp; intros; omega))
    have i0 := inr_false h0
    clear HQ h0
    go_enter Tryd.func12, Tryd.ntmps12
    go_wp2_with fail
    refine (describe _ _).mono ?_
    rintro e w1 ⟨rfl, hb1⟩
    rw [dsv_4]
    have hW := (Whole.here w 24 _).below hb1 (by simp)
    obtain ⟨c0, c1, c2, c3, c4, c5⟩ := pcells hW
    have hg := hW.lt
    have HB := Lib.hid hb1
    clear hW hb1
    go_wp2_with fail
    go_region
    go_wp2_with (first | (go_at_call 33; refine (up_to _ _ _).mono ?_; rintro e w' ⟨rfl, rfl⟩))
    go_ret
    exact ⟨by rw [HD.out]; rfl, pv_below HB.out _⟩
  by_cases h1 : 0 ≤ hi ∧ hi ≤ 67108864
  case neg =>
    have HD : Hid (decide (pok ⟨4, m, lo, hi, nm, nu⟩) = false) := Lib.hid (decide_eq_false (by unfold pok; simp; intros; omega))
    have i0 := inr_true h0
    have i1 := inr_false h1
    clear HQ h0 h1
    go_enter Tryd.func12, Tryd.ntmps12
    go_wp2_with fail
    refine (describe _ _).mono ?_
    rintro e w1 ⟨rfl, hb1⟩
    rw [dsv_4]
    have hW := (Whole.here w 24 _).below hb1 (by simp)
    obtain ⟨c0, c1, c2, c3, c4, c5⟩ := pcells hW
    have hg := hW.lt
    have HB := Lib.hid hb1
    clear hW hb1
    go_wp2_with fail
    go_region
    go_wp2_with (first | (go_at_call 33; refine (up_to _ _ _).mono ?_; rintro e w' ⟨rfl, rfl⟩))
    go_ret
    exact ⟨by rw [HD.out]; rfl, pv_below HB.out _⟩
  by_cases h2 : lo ≤ hi
  case neg =>
    have HD : Hid (decide (pok ⟨4, m, lo, hi, nm, nu⟩) = false) := Lib.hid (decide_eq_false (by unfold pok; simp; intros; omega))
    have i0 := inr_true h0
    have i1 := inr_true h1
    have i2 : hi < lo := by omega
    clear HQ h0 h1 h2
    go_enter Tryd.func12, Tryd.ntmps12
    go_wp2_with fail
    refine (describe _ _).mono ?_
    rintro e w1 ⟨rfl, hb1⟩
    rw [dsv_4]
    have hW := (Whole.here w 24 _).below hb1 (by simp)
    obtain ⟨c0, c1, c2, c3, c4, c5⟩ := pcells hW
    have hg := hW.lt
    have HB := Lib.hid hb1
    clear hW hb1
    go_wp2_with fail
    go_region
    go_wp2_with (first | (go_at_call 33; refine (up_to _ _ _).mono ?_; rintro e w' ⟨rfl, rfl⟩))
    go_ret
    exact ⟨by rw [HD.out]; rfl, pv_below HB.out _⟩
  have hq := HQ.out
  obtain ⟨B, hB⟩ : ∃ B, B = decide ((4 : Int) = 4 ∧ (m : Int) = 0 ∧ lo = lo ∧ hi = hi ∧ nm = [] ∧ nu = 0) := ⟨_, rfl⟩
  rw [← hB] at hq
  have HD : Hid (decide (pok ⟨4, m, lo, hi, nm, nu⟩) = B) := Lib.hid (by rw [hB, Bool.eq_iff_iff, decide_eq_true_iff, decide_eq_true_iff]; unfold pok; have a1 := h0.1; have a2 := h1.2; have a3 := h1.1; simp [a1, a2, h2])
  have i0 := inr_true h0
  have i1 := inr_true h1
  clear hB HQ h0 h1
  go_enter Tryd.func12, Tryd.ntmps12
  go_wp2_with fail
  refine (describe _ _).mono ?_
  rintro e w1 ⟨rfl, hb1⟩
  rw [dsv_4]
  have hW := (Whole.here w 24 _).below hb1 (by simp)
  obtain ⟨c0, c1, c2, c3, c4, c5⟩ := pcells hW
  have hg := hW.lt
  have HB := Lib.hid hb1
  clear hW hb1
  go_wp2_with fail
  go_region
  go_wp2_with (first | (go_at_call 33; refine (up_to _ _ _).mono ?_; rintro e w' ⟨rfl, rfl⟩))
  go_ret
  exact ⟨by rw [HD.out]; rfl, pv_below HB.out _⟩
set_option linter.unusedVariables false in
set_option maxHeartbeats 1000000 in
theorem pvalid5 (m : Nat) (lo hi nu : Int) (nm : List B8) (hm : m < 18446744073709551616) (hn : nm.length ≤ 9223372036854775807) (w : World) :
    Calls Tryd.prog 12 #[pv ⟨5, m, lo, hi, nm, nu⟩] w fun e w' => e = .returned (.bool (decide (pok ⟨5, m, lo, hi, nm, nu⟩))) ∧ Below w.heap.size w w' := by
  unfold pv
  simp only
  have HQ := Lib.hid (fun W => run_eql_prd0 5 (m : Int) lo hi nu 5 0 lo hi 0 nm W)
  by_cases h0 : 0 ≤ lo ∧ lo ≤ 1439
  case neg =>
    have HD : Hid (decide (pok ⟨5, m, lo, hi, nm, nu⟩) = false) := Lib.hid (decide_eq_false (by unfold pok; simp; intros; omega))
    have i0 := inr_false h0
    clear HQ h0
    go_enter Tryd.func12, Tryd.ntmps12
    go_wp2_with fail
    refine (describe _ _).mono ?_
    rintro e w1 ⟨rfl, hb1⟩
    rw [dsv_5]
    have hW := (Whole.here w 24 _).below hb1 (by simp)
    obtain ⟨c0, c1, c2, c3, c4, c5⟩ := pcells hW
    have hg := hW.lt
    have HB := Lib.hid hb1
    clear hW hb1
    go_wp2_with fail
    go_region
    go_wp2_with (first | (go_at_call 33; refine (up_to _ _ _).mono ?_; rintro e w' ⟨rfl, rfl⟩))
    go_ret
    exact ⟨by rw [HD.out]; rfl, pv_below HB.out _⟩
  by_cases h1 : 0 ≤ hi ∧ hi ≤ 1439
  case neg =>
    have HD : Hid (decide (pok ⟨5, m, lo, hi, nm, nu⟩) = false) := Lib.hid (decide_eq_false (by unfold pok; simp; intros; omega))
    have i0 := inr_true h0
    have i1 := inr_false h1
    clear HQ h0 h1
    go_enter Tryd.func12, Tryd.ntmps12
    go_wp2_with fail
    refine (describe _ _).mono ?_
    rintro e w1 ⟨rfl, hb1⟩
    rw [dsv_5]
    have hW := (Whole.here w 24 _).below hb1 (by simp)
    obtain ⟨c0, c1, c2, c3, c4, c5⟩ := pcells hW
    have hg := hW.lt
    have HB := Lib.hid hb1
    clear hW hb1
    go_wp2_with fail
    go_region
    go_wp2_with (first | (go_at_call 33; refine (up_to _ _ _).mono ?_; rintro e w' ⟨rfl, rfl⟩))
    go_ret
    exact ⟨by rw [HD.out]; rfl, pv_below HB.out _⟩
  have hq := HQ.out
  obtain ⟨B, hB⟩ : ∃ B, B = decide ((5 : Int) = 5 ∧ (m : Int) = 0 ∧ lo = lo ∧ hi = hi ∧ nm = [] ∧ nu = 0) := ⟨_, rfl⟩
  rw [← hB] at hq
  have HD : Hid (decide (pok ⟨5, m, lo, hi, nm, nu⟩) = B) := Lib.hid (by rw [hB, Bool.eq_iff_iff, decide_eq_true_iff, decide_eq_true_iff]; unfold pok; have a1 := h0.1; have a2 := h1.2; have a3 := h1.1; have a4 : lo < 1440 := (by omega); have a5 : hi < 1440 := (by omega); simp [a1, a3, a4, a5])
  have i0 := inr_true h0
  have i1 := inr_true h1
  clear hB HQ h0 h1
  go_enter Tryd.func12, Tryd.ntmps12
  go_wp2_with fail
  refine (describe _ _).mono ?_
  rintro e w1 ⟨rfl, hb1⟩
  rw [dsv_5]
  have hW := (Whole.here w 24 _).below hb1 (by simp)
  obtain ⟨c0, c1, c2, c3, c4, c5⟩ := pcells hW
  have hg := hW.lt
  have HB := Lib.hid hb1
  clear hW hb1
  go_wp2_with fail
  go_region
  go_wp2_with (first | (go_at_call 33; refine (up_to _ _ _).mono ?_; rintro e w' ⟨rfl, rfl⟩))
  go_ret
  exact ⟨by rw [HD.out]; rfl, pv_below HB.out _⟩
set_option linter.unusedVariables false in
set_option maxHeartbeats 1000000 in
theorem pvalid6 (m : Nat) (lo hi nu : Int) (nm : List B8) (hm : m < 18446744073709551616) (hn : nm.length ≤ 9223372036854775807) (w : World) :
    Calls Tryd.prog 12 #[pv ⟨6, m, lo, hi, nm, nu⟩] w fun e w' => e = .returned (.bool (decide (pok ⟨6, m, lo, hi, nm, nu⟩))) ∧ Below w.heap.size w w' := by
  unfold pv
  simp only
  have HQ := Lib.hid (fun W => run_eql_prd 6 (m : Int) lo hi nu 6 0 0 0 0 nm nm W)
  have hn1 := fun W => is_name nm W hn
  by_cases h0 : nmok nm
  case neg =>
    have HD : Hid (decide (pok ⟨6, m, lo, hi, nm, nu⟩) = false) := Lib.hid (decide_eq_false (by unfold pok; simp [h0]))
    rw [decide_eq_false h0] at hn1
    clear HQ h0
    go_enter Tryd.func12, Tryd.ntmps12
    go_wp2_with fail
    refine (describe _ _).mono ?_
    rintro e w1 ⟨rfl, hb1⟩
    rw [dsv_6]
    have hW := (Whole.here w 24 _).below hb1 (by simp)
    obtain ⟨c0, c1, c2, c3, c4, c5⟩ := pcells hW
    have hg := hW.lt
    have HB := Lib.hid hb1
    clear hW hb1
    go_wp2_with (first | (go_at_call 34; refine (hn1 _).mono ?_; rintro e w' ⟨rfl, rfl⟩))
    go_ret
    exact ⟨by rw [HD.out]; rfl, pv_below HB.out 0⟩
  rw [decide_eq_true h0] at hn1
  have hq := HQ.out
  obtain ⟨B, hB⟩ : ∃ B, B = decide ((6 : Int) = 6 ∧ (m : Int) = 0 ∧ lo = 0 ∧ hi = 0 ∧ nm = nm ∧ nu = 0) := ⟨_, rfl⟩
  rw [← hB] at hq
  have HD : Hid (decide (pok ⟨6, m, lo, hi, nm, nu⟩) = B) := Lib.hid (by rw [hB, Bool.eq_iff_iff, decide_eq_true_iff, decide_eq_true_iff]; unfold pok; simp [h0])
  clear hB HQ h0
  go_enter Tryd.func12, Tryd.ntmps12
  go_wp2_with fail
  refine (describe _ _).mono ?_
  rintro e w1 ⟨rfl, hb1⟩
  rw [dsv_6]
  have hW := (Whole.here w 24 _).below hb1 (by simp)
  obtain ⟨c0, c1, c2, c3, c4, c5⟩ := pcells hW
  have hg := hW.lt
  have HB := Lib.hid hb1
  clear hW hb1
  go_wp2_with (first | (go_at_call 34; refine (hn1 _).mono ?_; rintro e w' ⟨rfl, rfl⟩))
  go_ret
  exact ⟨by rw [HD.out]; rfl, pv_below HB.out 0⟩
set_option linter.unusedVariables false in
set_option maxHeartbeats 1000000 in
theorem pvalid7 (m : Nat) (lo hi nu : Int) (nm : List B8) (hm : m < 18446744073709551616) (hn : nm.length ≤ 9223372036854775807) (w : World) :
    Calls Tryd.prog 12 #[pv ⟨7, m, lo, hi, nm, nu⟩] w fun e w' => e = .returned (.bool (decide (pok ⟨7, m, lo, hi, nm, nu⟩))) ∧ Below w.heap.size w w' := by
  unfold pv
  simp only
  have HQ := Lib.hid (fun W => run_eql_prd0 7 (m : Int) lo hi nu 7 0 0 0 nu nm W)
  by_cases h0 : 0 ≤ nu ∧ nu ≤ 1000000
  case neg =>
    have HD : Hid (decide (pok ⟨7, m, lo, hi, nm, nu⟩) = false) := Lib.hid (decide_eq_false (by unfold pok; simp; intros; omega))
    have i0 := inr_false h0
    clear HQ h0
    go_enter Tryd.func12, Tryd.ntmps12
    go_wp2_with fail
    refine (describe _ _).mono ?_
    rintro e w1 ⟨rfl, hb1⟩
    rw [dsv_7]
    have hW := (Whole.here w 24 _).below hb1 (by simp)
    obtain ⟨c0, c1, c2, c3, c4, c5⟩ := pcells hW
    have hg := hW.lt
    have HB := Lib.hid hb1
    clear hW hb1
    go_wp2_with (first | (go_at_call 33; refine (up_to _ _ _).mono ?_; rintro e w' ⟨rfl, rfl⟩))
    go_ret
    exact ⟨by rw [HD.out]; rfl, pv_below HB.out 0⟩
  have hq := HQ.out
  obtain ⟨B, hB⟩ : ∃ B, B = decide ((7 : Int) = 7 ∧ (m : Int) = 0 ∧ lo = 0 ∧ hi = 0 ∧ nm = [] ∧ nu = nu) := ⟨_, rfl⟩
  rw [← hB] at hq
  have HD : Hid (decide (pok ⟨7, m, lo, hi, nm, nu⟩) = B) := Lib.hid (by rw [hB, Bool.eq_iff_iff, decide_eq_true_iff, decide_eq_true_iff]; unfold pok; simp; omega)
  have i0 := inr_true h0
  clear hB HQ h0
  go_enter Tryd.func12, Tryd.ntmps12
  go_wp2_with fail
  refine (describe _ _).mono ?_
  rintro e w1 ⟨rfl, hb1⟩
  rw [dsv_7]
  have hW := (Whole.here w 24 _).below hb1 (by simp)
  obtain ⟨c0, c1, c2, c3, c4, c5⟩ := pcells hW
  have hg := hW.lt
  have HB := Lib.hid hb1
  clear hW hb1
  go_wp2_with (first | (go_at_call 33; refine (up_to _ _ _).mono ?_; rintro e w' ⟨rfl, rfl⟩))
  go_ret
  exact ⟨by rw [HD.out]; rfl, pv_below HB.out 0⟩
theorem pok_no {k : Int} {m : Nat} {lo hi nu : Int} {nm : List B8} (h : k < 1 ∨ 7 < k) : decide (pok ⟨k, m, lo, hi, nm, nu⟩) = false := decide_eq_false fun hp => by have := pok_kind hp; simp only at this; omega
theorem pvalid0 (k : Int) (hk : k < 1 ∨ 7 < k) (m : Nat) (lo hi nu : Int) (nm : List B8) (w : World) :
    Calls Tryd.prog 12 #[pv ⟨k, m, lo, hi, nm, nu⟩] w fun e w' => e = .returned (.bool (decide (pok ⟨k, m, lo, hi, nm, nu⟩))) ∧ Below w.heap.size w w' := by
  unfold pv
  simp only
  have HD := Lib.hid (pok_no (m := m) (lo := lo) (hi := hi) (nu := nu) (nm := nm) hk)
  have hd := dsv_no (k := k) (by omega) (by omega) (by omega) (by omega) (by omega) (by omega) (by omega)
  clear hk
  go_enter Tryd.func12, Tryd.ntmps12
  go_wp2_with fail
  refine (describe _ _).mono ?_
  rintro e w1 ⟨rfl, hb1⟩
  rw [hd]
  have hW := (Whole.here w 24 _).below hb1 (by simp)
  obtain ⟨c0, c1, c2, c3, c4, c5⟩ := pcells hW
  have hg := hW.lt
  have HB := Lib.hid hb1
  clear hW hb1
  go_wp2_with (first | (go_at_call 33; refine (up_to _ _ _).mono ?_; rintro e w' ⟨rfl, rfl⟩))
  go_ret
  exact ⟨by rw [HD.out]; rfl, pv_below HB.out 0⟩
theorem pvalid (p : Prd) (hm : p.mask < 18446744073709551616) (hn : p.name.length ≤ 9223372036854775807) (w : World) :
    Calls Tryd.prog 12 #[pv p] w fun e w' => e = .returned (.bool (decide (pok p))) ∧ Below w.heap.size w w' := by
  obtain ⟨k, m, lo, hi, nm, nu⟩ := p
  simp only at hm hn
  by_cases h : k < 1 ∨ 7 < k
  · exact pvalid0 k h m lo hi nu nm w
  · rcases kind_cases (k := k) (by omega) with rfl | rfl | rfl | rfl | rfl | rfl | rfl
    · exact pvalid1 m lo hi nu nm hm hn w
    · exact pvalid2 m lo hi nu nm hm hn w
    · exact pvalid3 m lo hi nu nm hm hn w
    · exact pvalid4 m lo hi nu nm hm hn w
    · exact pvalid5 m lo hi nu nm hm hn w
    · exact pvalid6 m lo hi nu nm hm hn w
    · exact pvalid7 m lo hi nu nm hm hn w
end Go.Proofs.YtpodgmmgphibfaaDoor
namespace Go.Proofs.YtpodgmmgphibfaaDoor
open Go Go.RowKit Sh Leaf

theorem bitl_zero (i : Nat) : bitl 0 i = [] := by
  unfold bitl
  rw [List.filter_eq_nil_iff]
  simp
theorem bitl_len (m : Nat) : (bitl m 64).length ≤ 64 := by
  unfold bitl
  exact Nat.le_trans (List.length_filter_le _ _) (by simp)
theorem joi_len : ∀ (ls : List (List B8)) (k : Nat), (∀ l ∈ ls, l.length ≤ k) → (joi 44 ls).length ≤ ls.length * (k + 1)
  | [], _, _ => by simp [joi]
  | [a], k, h => by have := h a (by simp); simp [joi]; omega
  | a :: b :: t, k, h => by
    have h1 := h a (by simp)
    have h2 := joi_len (b :: t) k (fun l hl => h l (List.mem_cons_of_mem _ hl))
    rw [joi_cons a (by simp), List.length_append, List.length_cons, List.length_cons, Nat.succ_mul]
    omega
theorem mask_len (m : Nat) : (joi 44 ((bitl m 64).map dcm)).length ≤ 192 := by
  have h := joi_len ((bitl m 64).map dcm) 2 (fun l hl => by
    obtain ⟨i, hi, rfl⟩ := List.mem_map.1 hl
    exact dcm_len 1 i (by have := bitl_lt hi; omega))
  have := bitl_len m
  rw [List.length_map] at h
  omega
theorem and_pred {x : Nat} (h0 : x ≠ 0) (h : x < 18446744073709551616) : bits .and .u64 (x : Int) ((x : Int) - 1) = ((x &&& (x - 1) : Nat) : Int) := by
  have e : (x : Int) - 1 = ((x - 1 : Nat) : Int) := by omega
  rw [e]
  exact bits_and_u64_nat x (x - 1) h (by omega)
set_option maxHeartbeats 1000000 in
theorem fmask (m : Nat) (hm : m < 18446744073709551616) (w : World) (hS : Std w) :
    Calls Tryd.prog 36 #[.int .u64 (m : Int)] w fun e w' => e = .returned (.string (sof (joi 44 ((bitl m 64).map dcm)))) ∧ Below w.heap.size w w' := by
  have hlen := mask_len m
  have hl64 := bitl_len m
  generalize hL : (bitl m 64).map dcm = L at hlen
  have hLl : L.length ≤ 64 := by rw [← hL, List.length_map]; exact hl64
  clear hl64
  go_enter Tryd.func36, Tryd.ntmps36
  go_wp2
  go_loopw [0, 3] (fun a b wr => ∃ (x : Nat) (ls : List (List B8)), x < 18446744073709551616 ∧ a = .int .u64 (x : Int) ∧ OwnS wr w.heap.size b ls ∧ ls ++ (bitl x 64).map dcm = L ∧ Below w.heap.size w wr) (fun a _ _ => (intOf a).toNat)
  case atStart => exact ⟨m, [], hm, rfl, ownS_nil _ _, hL, Below.refl _ _⟩
  case round =>
    obtain ⟨x, ls, hx, rfl, hown, hrel, hb⟩ := hrel
    by_cases h0 : x = 0
    · subst h0
      rw [bitl_zero, List.map_nil, List.append_nil] at hrel
      subst hrel
      have hj := join_own ls u3 w.heap.size ⟨#[44]⟩ rfl wr hown (by omega) (by omega)
      clear hL hx hm hS hown hlen hLl
      go_wp2_with (first | (go_at_call 61; refine hj.mono ?_; rintro e w5 ⟨rfl, hb5⟩))
      go_ret
      exact ⟨rfl, hb.trans (hb5.mono hb.size)⟩
    · obtain ⟨hk, hbl, hlt⟩ := bitl_low h0 hx
      have hand := and_pred h0 hx
      have hSr := hS.below hb (Nat.le_refl _)
      have hbs := hb.size
      have htz := tz64 x hx wr hSr
      rw [hbl] at hrel
      generalize hy : x &&& (x - 1) = y at hand hlt hrel hbl
      generalize Lib.ctz 64 x = t at *
      have hit := itoa_n t (by omega) wr hSr
      have hw1 : IntKind.u64.wrap ((x : Int) - 1) = (x : Int) - 1 := by rw [IntKind.wrap_u64]; omega
      have hyx : y < 18446744073709551616 := by omega
      have hll : ls.length ≤ 64 := by
        have := congrArg List.length hrel
        rw [List.length_append] at this
        omega
      have H1 := Lib.hid hown
      have H2 := Lib.hid hb
      have H3 := Lib.hid hyx
      have H4 := Lib.hid hrel
      have hx0 : ((x : Int) != 0) = true := by simp; exact h0
      have hx1 : ¬ (x : Int) = 0 := by omega
      clear hy hx hm hlen hLl hL hrel hbl hown hb hS hSr
      go_wp2_with (first
        | (go_at_call 60; refine htz.mono ?_; rintro e w5 ⟨rfl, rfl⟩)
        | (go_at_call 37; refine hit.mono ?_; rintro e w6 ⟨rfl, hb6⟩)
        | (at_builtin; go_must (refine wpList_append_str rfl _ _ rfl w.heap.size _ (ls.map fun l => Value.string (sof l)) rfl (own_below H1.out (hb6.alloc hb6.size _) (Nat.le_refl _)) (.string (sof (dcm t))) rfl _ 1 rfl ((Whole.here _ _ _).cell 0) (by simp; omega) (by have := hb6.size; simp; omega) ?_; intro v' w' h1 h2)))
      go_roundw
      case rel =>
        refine ⟨y, ls ++ [dcm t], H3.out, by first | rfl | simp [hand], ?_, ?_, ?_⟩
        · show World.ownsRow _ _ _ _ _ _ _
          rw [List.map_append]
          exact h1
        · rw [← H4.out]; simp
        · exact (H2.out.trans ((hb6.mono hbs).alloc (by have := hb6.size; omega) _)).trans h2
      case measure => simp [intOf]; omega
theorem wd_len (k : Int) : (wd k).length ≤ 6 := by unfold wd; repeat (first | (split; · decide) | decide)
theorem str_add (a b : List B8) (s t : ByteArray) (hs : s = sof a) (ht : t = sof b) : s ++ t = sof (a ++ b) := by subst hs ht; exact sof_append a b
set_option linter.unusedVariables false in
set_option maxRecDepth 100000 in
set_option maxHeartbeats 1000000 in
theorem pformat (p : Prd) (hm : p.mask < 18446744073709551616) (hn : p.name.length ≤ 9223372036854775807) (w : World) (hS : Std w) :
    Calls Tryd.prog 15 #[pv p] w fun e w' => e = .returned (.tuple #[.string (sof (fm p).1), .int .i64 ((fm p).2 : Int)]) ∧ Below w.heap.size w w' := by
  have hv := pvalid p hm hn
  by_cases hp : pok p
  case neg =>
    have hf : fm p = ([], 5) := by unfold fm; rw [if_neg hp]
    rw [hf, sof_none]
    have hv2 : ∀ W, Calls Tryd.prog 12 #[pv p] W fun e w' => e = .returned (.bool false) ∧ Below W.heap.size W w' := fun W => by have := hv W; rw [decide_eq_false hp] at this; exact this
    clear hf hv hp
    obtain ⟨k, m, lo, hi, nm, nu⟩ := p
    unfold pv at hv2 ⊢
    simp only at hm hn hv2 ⊢
    go_enter Tryd.func15, Tryd.ntmps15
    go_wp2_with (first | (go_at_call 12; refine (hv2 _).mono ?_; rintro e w1 ⟨rfl, hb1⟩))
    go_ret2
    exact ⟨rfl, ((Below.refl w.heap.size w).alloc (Nat.le_refl _) _).trans (hb1.mono (by simp))⟩
  have hf : fm p = (pfmt p, 0) := by unfold fm; rw [if_pos hp]
  rw [hf]
  have hv2 : ∀ W, Calls Tryd.prog 12 #[pv p] W fun e w' => e = .returned (.bool true) ∧ Below W.heap.size W w' := fun W => by have := hv W; rw [decide_eq_true hp] at this; exact this
  clear hf hv
  obtain ⟨k, m, lo, hi, nm, nu⟩ := p
  unfold pv at hv2 ⊢
  have hk := pok_kind hp
  unfold pok at hp
  simp only at hm hn hv2 hp hk ⊢
  rcases kind_cases hk with rfl | rfl | rfl | rfl | rfl | rfl | rfl
  · have hlen := mask_len m
    obtain ⟨T, hT⟩ : ∃ T, T = joi 44 ((bitl m 64).map dcm) := ⟨_, rfl⟩
    rw [← hT] at hlen
    have hfm := fun W h => fmask m hm W h
    rw [← hT] at hfm
    have HT : Hid (pfmt ⟨1, m, lo, hi, nm, nu⟩ = (wd 1) ++ [32] ++ T) := Lib.hid (by rw [hT]; rfl)
    clear hT hp hm hn hk
    go_enter Tryd.func15, Tryd.ntmps15
    go_wp2_with fail
    refine (hv2 _).mono ?_
    rintro e w1 ⟨rfl, hb1⟩
    have hW1 := (Whole.here w 24 _).below hb1 (by simp)
    obtain ⟨c0, c1, c2, c3, c4, c5⟩ := pcells hW1
    have HW1 := Lib.hid hW1
    have HB1 := Lib.hid (((Below.refl w.heap.size w).alloc (Nat.le_refl _) _).trans (hb1.mono (by simp)))
    have HS1 := Lib.hid (hS.below HB1.out (Nat.le_refl _))
    clear hW1 hb1 hS hv2
    go_wp2_with fail
    refine (describe _ _).mono ?_
    rintro e w2 ⟨rfl, hb2⟩
    rw [dsv_1]
    have hW2 := HW1.out.below hb2 HW1.out.lt
    obtain ⟨c0, c1, c2, c3, c4, c5⟩ := pcells hW2
    have hg2 := hW2.lt
    have HW2 := Lib.hid hW2
    have HB2 := Lib.hid (HB1.out.trans (hb2.mono HB1.out.size))
    have HS2 := Lib.hid (HS1.out.below hb2 (Nat.le_refl _))
    clear hW2 hb2 HS1 HW1 HB1
    go_wp2_with fail
    refine (hfm _ (HS2.out.below ((Below.refl w2.heap.size w2).alloc (Nat.le_refl _) _) (Nat.le_refl _))).mono ?_
    rintro e w3 ⟨rfl, hb3⟩
    clear hfm
    have hD := (Whole.here w2 58 _).below hb3 (by simp)
    have d0 := hD.cell 0
    simp only [List.getElem?_toArray, List.getElem?_cons_zero] at d0
    have HQ := Lib.hid (HB2.out.trans (((Below.refl w2.heap.size w2).alloc (Nat.le_refl _) _).trans (hb3.mono (by simp)) |>.mono HB2.out.size))
    clear hD hb3 HB2 HS2 HW2
    have hwl := wd_len 1
    have q1 := add_lit (wd 1) [32] { data := #[32] } (by unfold sof; rfl) (by simp; omega)
    obtain ⟨P, hP⟩ : ∃ P, P = wd 1 ++ [32] := ⟨_, rfl⟩
    have hPl : P.length ≤ 7 := by rw [hP, List.length_append, List.length_singleton]; omega
    rw [← hP] at q1
    have q2 := add_sof P T (by omega)
    have HT := Lib.hid HT.out
    rw [← hP] at HT
    clear hP
    go_wp2
    go_ret2
    refine ⟨?_, HQ.out⟩
    rw [HT.out]
    rfl
  · have hlen := mask_len m
    obtain ⟨T, hT⟩ : ∃ T, T = joi 44 ((bitl m 64).map dcm) := ⟨_, rfl⟩
    rw [← hT] at hlen
    have hfm := fun W h => fmask m hm W h
    rw [← hT] at hfm
    have HT : Hid (pfmt ⟨2, m, lo, hi, nm, nu⟩ = (wd 2) ++ [32] ++ T) := Lib.hid (by rw [hT]; rfl)
    clear hT hp hm hn hk
    go_enter Tryd.func15, Tryd.ntmps15
    go_wp2_with fail
    refine (hv2 _).mono ?_
    rintro e w1 ⟨rfl, hb1⟩
    have hW1 := (Whole.here w 24 _).below hb1 (by simp)
    obtain ⟨c0, c1, c2, c3, c4, c5⟩ := pcells hW1
    have HW1 := Lib.hid hW1
    have HB1 := Lib.hid (((Below.refl w.heap.size w).alloc (Nat.le_refl _) _).trans (hb1.mono (by simp)))
    have HS1 := Lib.hid (hS.below HB1.out (Nat.le_refl _))
    clear hW1 hb1 hS hv2
    go_wp2_with fail
    refine (describe _ _).mono ?_
    rintro e w2 ⟨rfl, hb2⟩
    rw [dsv_2]
    have hW2 := HW1.out.below hb2 HW1.out.lt
    obtain ⟨c0, c1, c2, c3, c4, c5⟩ := pcells hW2
    have hg2 := hW2.lt
    have HW2 := Lib.hid hW2
    have HB2 := Lib.hid (HB1.out.trans (hb2.mono HB1.out.size))
    have HS2 := Lib.hid (HS1.out.below hb2 (Nat.le_refl _))
    clear hW2 hb2 HS1 HW1 HB1
    go_wp2_with fail
    refine (hfm _ (HS2.out.below ((Below.refl w2.heap.size w2).alloc (Nat.le_refl _) _) (Nat.le_refl _))).mono ?_
    rintro e w3 ⟨rfl, hb3⟩
    clear hfm
    have hD := (Whole.here w2 58 _).below hb3 (by simp)
    have d0 := hD.cell 0
    simp only [List.getElem?_toArray, List.getElem?_cons_zero] at d0
    have HQ := Lib.hid (HB2.out.trans (((Below.refl w2.heap.size w2).alloc (Nat.le_refl _) _).trans (hb3.mono (by simp)) |>.mono HB2.out.size))
    clear hD hb3 HB2 HS2 HW2
    have hwl := wd_len 2
    have q1 := add_lit (wd 2) [32] { data := #[32] } (by unfold sof; rfl) (by simp; omega)
    obtain ⟨P, hP⟩ : ∃ P, P = wd 2 ++ [32] := ⟨_, rfl⟩
    have hPl : P.length ≤ 7 := by rw [hP, List.length_append, List.length_singleton]; omega
    rw [← hP] at q1
    have q2 := add_sof P T (by omega)
    have HT := Lib.hid HT.out
    rw [← hP] at HT
    clear hP
    go_wp2
    go_ret2
    refine ⟨?_, HQ.out⟩
    rw [HT.out]
    rfl
  · have hlen := mask_len m
    obtain ⟨T, hT⟩ : ∃ T, T = joi 44 ((bitl m 64).map dcm) := ⟨_, rfl⟩
    rw [← hT] at hlen
    have hfm := fun W h => fmask m hm W h
    rw [← hT] at hfm
    have HT : Hid (pfmt ⟨3, m, lo, hi, nm, nu⟩ = (wd 3) ++ [32] ++ T) := Lib.hid (by rw [hT]; rfl)
    clear hT hp hm hn hk
    go_enter Tryd.func15, Tryd.ntmps15
    go_wp2_with fail
    refine (hv2 _).mono ?_
    rintro e w1 ⟨rfl, hb1⟩
    have hW1 := (Whole.here w 24 _).below hb1 (by simp)
    obtain ⟨c0, c1, c2, c3, c4, c5⟩ := pcells hW1
    have HW1 := Lib.hid hW1
    have HB1 := Lib.hid (((Below.refl w.heap.size w).alloc (Nat.le_refl _) _).trans (hb1.mono (by simp)))
    have HS1 := Lib.hid (hS.below HB1.out (Nat.le_refl _))
    clear hW1 hb1 hS hv2
    go_wp2_with fail
    refine (describe _ _).mono ?_
    rintro e w2 ⟨rfl, hb2⟩
    rw [dsv_3]
    have hW2 := HW1.out.below hb2 HW1.out.lt
    obtain ⟨c0, c1, c2, c3, c4, c5⟩ := pcells hW2
    have hg2 := hW2.lt
    have HW2 := Lib.hid hW2
    have HB2 := Lib.hid (HB1.out.trans (hb2.mono HB1.out.size))
    have HS2 := Lib.hid (HS1.out.below hb2 (Nat.le_refl _))
    clear hW2 hb2 HS1 HW1 HB1
    go_wp2_with fail
    refine (hfm _ (HS2.out.below ((Below.refl w2.heap.size w2).alloc (Nat.le_refl _) _) (Nat.le_refl _))).mono ?_
    rintro e w3 ⟨rfl, hb3⟩
    clear hfm
    have hD := (Whole.here w2 58 _).below hb3 (by simp)
    have d0 := hD.cell 0
    simp only [List.getElem?_toArray, List.getElem?_cons_zero] at d0
    have HQ := Lib.hid (HB2.out.trans (((Below.refl w2.heap.size w2).alloc (Nat.le_refl _) _).trans (hb3.mono (by simp)) |>.mono HB2.out.size))
    clear hD hb3 HB2 HS2 HW2
    have hwl := wd_len 3
    have q1 := add_lit (wd 3) [32] { data := #[32] } (by unfold sof; rfl) (by simp; omega)
    obtain ⟨P, hP⟩ : ∃ P, P = wd 3 ++ [32] := ⟨_, rfl⟩
    have hPl : P.length ≤ 7 := by rw [hP, List.length_append, List.length_singleton]; omega
    rw [← hP] at q1
    have q2 := add_sof P T (by omega)
    have HT := Lib.hid HT.out
    rw [← hP] at HT
    clear hP
    go_wp2
    go_ret2
    refine ⟨?_, HQ.out⟩
    rw [HT.out]
    rfl
  · obtain ⟨a, rfl⟩ := Int.eq_ofNat_of_zero_le (show 0 ≤ lo by omega)
    obtain ⟨b, rfl⟩ := Int.eq_ofNat_of_zero_le (show 0 ≤ hi by omega)
    have ha : a ≤ 67108864 := by omega
    have hb : b ≤ 67108864 := by omega
    have ia := fun W h => itoa_n a (by omega) W h
    have ib := fun W h => itoa_n b (by omega) W h
    have la := dcm_len 15 a (by omega)
    have lb := dcm_len 15 b (by omega)
    have HT : Hid (pfmt ⟨4, m, (a : Int), (b : Int), nm, nu⟩ = wd 4 ++ [32] ++ (dcm a ++ [45] ++ dcm b)) := Lib.hid (by simp [pfmt, pbody])
    generalize dcm a = TA at *
    generalize dcm b = TB at *
    clear hp hm hn hk ha hb
    go_enter Tryd.func15, Tryd.ntmps15
    go_wp2_with fail
    refine (hv2 _).mono ?_
    rintro e w1 ⟨rfl, hb1⟩
    have hW1 := (Whole.here w 24 _).below hb1 (by simp)
    obtain ⟨c0, c1, c2, c3, c4, c5⟩ := pcells hW1
    have HW1 := Lib.hid hW1
    have HB1 := Lib.hid (((Below.refl w.heap.size w).alloc (Nat.le_refl _) _).trans (hb1.mono (by simp)))
    have HS1 := Lib.hid (hS.below HB1.out (Nat.le_refl _))
    clear hW1 hb1 hS hv2
    go_wp2_with fail
    refine (describe _ _).mono ?_
    rintro e w2 ⟨rfl, hb2⟩
    rw [dsv_4]
    have hW2 := HW1.out.below hb2 HW1.out.lt
    obtain ⟨c0, c1, c2, c3, c4, c5⟩ := pcells hW2
    have hg2 := hW2.lt
    have HW2 := Lib.hid hW2
    have HB2 := Lib.hid (HB1.out.trans (hb2.mono HB1.out.size))
    have HS2 := Lib.hid (HS1.out.below hb2 (Nat.le_refl _))
    clear hW2 hb2 HS1 HW1 HB1
    go_wp2_with fail
    obtain ⟨w3, hw3⟩ : ∃ w3, w3 = w2.alloc (.cells #[.string (sof (wd 4)), .int .i64 2, .int .i64 67108864, .bool false] 58) := ⟨_, rfl⟩
    rw [← hw3]
    have hd0 : Whole w3 w2.heap.size 58 #[.string (sof (wd 4)), .int .i64 2, .int .i64 67108864, .bool false] := by rw [hw3]; exact Whole.here _ _ _
    have hB3 : Below w.heap.size w w3 := by rw [hw3]; exact HB2.out.alloc HB2.out.size _
    have hS3 : Std w3 := by rw [hw3]; exact HS2.out.below ((Below.refl w2.heap.size w2).alloc (Nat.le_refl _) _) (Nat.le_refl _)
    have hW3 := HW2.out.alloc (.cells #[.string (sof (wd 4)), .int .i64 2, .int .i64 67108864, .bool false] 58)
    rw [← hw3] at hW3
    obtain ⟨c0, c1, c2, c3, c4, c5⟩ := pcells hW3
    have ia2 : ∀ W, Below w3.heap.size w3 W → Calls Tryd.prog 37 #[.int .i64 (a : Int)] W fun e w' => e = .returned (.string (sof TA)) ∧ Below w3.heap.size w3 w' := fun W h => (ia W (hS3.below h (Nat.le_refl _))).mono fun e w' ⟨h1, h2⟩ => ⟨h1, h.trans (h2.mono h.size)⟩
    have ib2 : ∀ W, Below w3.heap.size w3 W → Calls Tryd.prog 37 #[.int .i64 (b : Int)] W fun e w' => e = .returned (.string (sof TB)) ∧ Below w3.heap.size w3 w' := fun W h => (ib W (hS3.below h (Nat.le_refl _))).mono fun e w' ⟨h1, h2⟩ => ⟨h1, h.trans (h2.mono h.size)⟩
    have hcc : ∀ W, Below w3.heap.size w3 W → W.cell? ⟨w.heap.size, 2, none⟩ = some (.int .i64 (a : Int)) ∧ W.cell? ⟨w.heap.size, 3, none⟩ = some (.int .i64 (b : Int)) := fun W h => ⟨(h.cell (p := ⟨w.heap.size, 2, none⟩) hW3.lt).trans c2, (h.cell (p := ⟨w.heap.size, 3, none⟩) hW3.lt).trans c3⟩
    have q3 := add_lit TA [45] { data := #[45] } (by unfold sof; rfl) (by simp; omega)
    obtain ⟨D, hD⟩ : ∃ D, D = TA ++ [45] := ⟨_, rfl⟩
    have hDl : D.length ≤ 17 := by rw [hD, List.length_append, List.length_singleton]; omega
    rw [← hD] at q3 HT
    have q4 := add_sof D TB (by omega)
    obtain ⟨T, hT⟩ : ∃ T, T = D ++ TB := ⟨_, rfl⟩
    have hlen : T.length ≤ 40 := by rw [hT, List.length_append]; omega
    rw [← hT] at q4 HT
    clear hT hD
    have hwl := wd_len 4
    have q1 := add_lit (wd 4) [32] { data := #[32] } (by unfold sof; rfl) (by simp; omega)
    obtain ⟨P, hP⟩ : ∃ P, P = wd 4 ++ [32] := ⟨_, rfl⟩
    have hPl : P.length ≤ 7 := by rw [hP, List.length_append, List.length_singleton]; omega
    rw [← hP] at q1
    have q2 := add_sof P T (by omega)
    rw [← hP] at HT
    clear hP
    have HD0 := Lib.hid hd0
    have HB3 := Lib.hid hB3
    clear hw3 hd0 hB3 hS3 hW3 c0 c1 c4 c5 HB2 HS2 HW2 ia ib
    go_region_held3 (fun w' => w'.cell? ⟨w.heap.size, 2, none⟩ = some (.int .i64 (a : Int)) ∧ w'.cell? ⟨w.heap.size, 3, none⟩ = some (.int .i64 (b : Int))) (first | exact ⟨c2, c3⟩ | assumption | go_keep)
      (first
        | (go_at_call 37; refine (ia2 _ (by repeat (first | exact Below.refl _ _ | assumption | refine Below.drew ?_))).mono ?_; rintro e w5 ⟨rfl, hb5⟩; have hS5 := hcc w5 hb5)
        | (go_at_call 37; refine (ib2 _ (by repeat (first | exact Below.refl _ _ | assumption | refine Below.drew ?_))).mono ?_; rintro e w6 ⟨rfl, hb6⟩; have hS6 := hcc w6 hb6))
    all_goals
      first
        | (have hD := HD0.out.below hb6 HD0.out.lt; have d0 := hD.cell 0; simp only [List.getElem?_toArray, List.getElem?_cons_zero] at d0; have HQ := Lib.hid (HB3.out.trans (hb6.mono HB3.out.size)); clear hD; go_wp2; go_ret2; exact ⟨(by rw [HT.out]; rfl), HQ.out⟩)
        | (have hD := HD0.out.below hb5 HD0.out.lt; have d0 := hD.cell 0; simp only [List.getElem?_toArray, List.getElem?_cons_zero] at d0; have HQ := Lib.hid (HB3.out.trans (hb5.mono HB3.out.size)); clear hD; go_wp2; go_ret2; exact ⟨(by rw [HT.out]; rfl), HQ.out⟩)
  · obtain ⟨a, rfl⟩ := Int.eq_ofNat_of_zero_le (show 0 ≤ lo by omega)
    obtain ⟨b, rfl⟩ := Int.eq_ofNat_of_zero_le (show 0 ≤ hi by omega)
    have ha : a ≤ 67108864 := by omega
    have hb : b ≤ 67108864 := by omega
    have ia := fun W h => itoa_n a (by omega) W h
    have ib := fun W h => itoa_n b (by omega) W h
    have la := dcm_len 15 a (by omega)
    have lb := dcm_len 15 b (by omega)
    have HT : Hid (pfmt ⟨5, m, (a : Int), (b : Int), nm, nu⟩ = wd 5 ++ [32] ++ (dcm a ++ [45] ++ dcm b)) := Lib.hid (by simp [pfmt, pbody])
    generalize dcm a = TA at *
    generalize dcm b = TB at *
    clear hp hm hn hk ha hb
    go_enter Tryd.func15, Tryd.ntmps15
    go_wp2_with fail
    refine (hv2 _).mono ?_
    rintro e w1 ⟨rfl, hb1⟩
    have hW1 := (Whole.here w 24 _).below hb1 (by simp)
    obtain ⟨c0, c1, c2, c3, c4, c5⟩ := pcells hW1
    have HW1 := Lib.hid hW1
    have HB1 := Lib.hid (((Below.refl w.heap.size w).alloc (Nat.le_refl _) _).trans (hb1.mono (by simp)))
    have HS1 := Lib.hid (hS.below HB1.out (Nat.le_refl _))
    clear hW1 hb1 hS hv2
    go_wp2_with fail
    refine (describe _ _).mono ?_
    rintro e w2 ⟨rfl, hb2⟩
    rw [dsv_5]
    have hW2 := HW1.out.below hb2 HW1.out.lt
    obtain ⟨c0, c1, c2, c3, c4, c5⟩ := pcells hW2
    have hg2 := hW2.lt
    have HW2 := Lib.hid hW2
    have HB2 := Lib.hid (HB1.out.trans (hb2.mono HB1.out.size))
    have HS2 := Lib.hid (HS1.out.below hb2 (Nat.le_refl _))
    clear hW2 hb2 HS1 HW1 HB1
    go_wp2_with fail
    obtain ⟨w3, hw3⟩ : ∃ w3, w3 = w2.alloc (.cells #[.string (sof (wd 5)), .int .i64 2, .int .i64 1439, .bool true] 58) := ⟨_, rfl⟩
    rw [← hw3]
    have hd0 : Whole w3 w2.heap.size 58 #[.string (sof (wd 5)), .int .i64 2, .int .i64 1439, .bool true] := by rw [hw3]; exact Whole.here _ _ _
    have hB3 : Below w.heap.size w w3 := by rw [hw3]; exact HB2.out.alloc HB2.out.size _
    have hS3 : Std w3 := by rw [hw3]; exact HS2.out.below ((Below.refl w2.heap.size w2).alloc (Nat.le_refl _) _) (Nat.le_refl _)
    have hW3 := HW2.out.alloc (.cells #[.string (sof (wd 5)), .int .i64 2, .int .i64 1439, .bool true] 58)
    rw [← hw3] at hW3
    obtain ⟨c0, c1, c2, c3, c4, c5⟩ := pcells hW3
    have ia2 : ∀ W, Below w3.heap.size w3 W → Calls Tryd.prog 37 #[.int .i64 (a : Int)] W fun e w' => e = .returned (.string (sof TA)) ∧ Below w3.heap.size w3 w' := fun W h => (ia W (hS3.below h (Nat.le_refl _))).mono fun e w' ⟨h1, h2⟩ => ⟨h1, h.trans (h2.mono h.size)⟩
    have ib2 : ∀ W, Below w3.heap.size w3 W → Calls Tryd.prog 37 #[.int .i64 (b : Int)] W fun e w' => e = .returned (.string (sof TB)) ∧ Below w3.heap.size w3 w' := fun W h => (ib W (hS3.below h (Nat.le_refl _))).mono fun e w' ⟨h1, h2⟩ => ⟨h1, h.trans (h2.mono h.size)⟩
    have hcc : ∀ W, Below w3.heap.size w3 W → W.cell? ⟨w.heap.size, 2, none⟩ = some (.int .i64 (a : Int)) ∧ W.cell? ⟨w.heap.size, 3, none⟩ = some (.int .i64 (b : Int)) := fun W h => ⟨(h.cell (p := ⟨w.heap.size, 2, none⟩) hW3.lt).trans c2, (h.cell (p := ⟨w.heap.size, 3, none⟩) hW3.lt).trans c3⟩
    have q3 := add_lit TA [45] { data := #[45] } (by unfold sof; rfl) (by simp; omega)
    obtain ⟨D, hD⟩ : ∃ D, D = TA ++ [45] := ⟨_, rfl⟩
    have hDl : D.length ≤ 17 := by rw [hD, List.length_append, List.length_singleton]; omega
    rw [← hD] at q3 HT
    have q4 := add_sof D TB (by omega)
    obtain ⟨T, hT⟩ : ∃ T, T = D ++ TB := ⟨_, rfl⟩
    have hlen : T.length ≤ 40 := by rw [hT, List.length_append]; omega
    rw [← hT] at q4 HT
    clear hT hD
    have hwl := wd_len 5
    have q1 := add_lit (wd 5) [32] { data := #[32] } (by unfold sof; rfl) (by simp; omega)
    obtain ⟨P, hP⟩ : ∃ P, P = wd 5 ++ [32] := ⟨_, rfl⟩
    have hPl : P.length ≤ 7 := by rw [hP, List.length_append, List.length_singleton]; omega
    rw [← hP] at q1
    have q2 := add_sof P T (by omega)
    rw [← hP] at HT
    clear hP
    have HD0 := Lib.hid hd0
    have HB3 := Lib.hid hB3
    clear hw3 hd0 hB3 hS3 hW3 c0 c1 c4 c5 HB2 HS2 HW2 ia ib
    go_region_held3 (fun w' => w'.cell? ⟨w.heap.size, 2, none⟩ = some (.int .i64 (a : Int)) ∧ w'.cell? ⟨w.heap.size, 3, none⟩ = some (.int .i64 (b : Int))) (first | exact ⟨c2, c3⟩ | assumption | go_keep)
      (first
        | (go_at_call 37; refine (ia2 _ (by repeat (first | exact Below.refl _ _ | assumption | refine Below.drew ?_))).mono ?_; rintro e w5 ⟨rfl, hb5⟩; have hS5 := hcc w5 hb5)
        | (go_at_call 37; refine (ib2 _ (by repeat (first | exact Below.refl _ _ | assumption | refine Below.drew ?_))).mono ?_; rintro e w6 ⟨rfl, hb6⟩; have hS6 := hcc w6 hb6))
    all_goals
      first
        | (have hD := HD0.out.below hb6 HD0.out.lt; have d0 := hD.cell 0; simp only [List.getElem?_toArray, List.getElem?_cons_zero] at d0; have HQ := Lib.hid (HB3.out.trans (hb6.mono HB3.out.size)); clear hD; go_wp2; go_ret2; exact ⟨(by rw [HT.out]; rfl), HQ.out⟩)
        | (have hD := HD0.out.below hb5 HD0.out.lt; have d0 := hD.cell 0; simp only [List.getElem?_toArray, List.getElem?_cons_zero] at d0; have HQ := Lib.hid (HB3.out.trans (hb5.mono HB3.out.size)); clear hD; go_wp2; go_ret2; exact ⟨(by rw [HT.out]; rfl), HQ.out⟩)
  · have hlen : nm.length ≤ 16 := by simp [nmok] at hp; omega
    have HT : Hid (pfmt ⟨6, m, lo, hi, nm, nu⟩ = (wd 6) ++ [32] ++ nm) := Lib.hid (by simp [pfmt, pbody, wd])
    clear hp hm hn hk
    go_enter Tryd.func15, Tryd.ntmps15
    go_wp2_with fail
    refine (hv2 _).mono ?_
    rintro e w1 ⟨rfl, hb1⟩
    have hW1 := (Whole.here w 24 _).below hb1 (by simp)
    obtain ⟨c0, c1, c2, c3, c4, c5⟩ := pcells hW1
    have HW1 := Lib.hid hW1
    have HB1 := Lib.hid (((Below.refl w.heap.size w).alloc (Nat.le_refl _) _).trans (hb1.mono (by simp)))
    have HS1 := Lib.hid (hS.below HB1.out (Nat.le_refl _))
    clear hW1 hb1 hS hv2
    go_wp2_with fail
    refine (describe _ _).mono ?_
    rintro e w2 ⟨rfl, hb2⟩
    rw [dsv_6]
    have hW2 := HW1.out.below hb2 HW1.out.lt
    obtain ⟨c0, c1, c2, c3, c4, c5⟩ := pcells hW2
    have hg2 := hW2.lt
    have HW2 := Lib.hid hW2
    have HB2 := Lib.hid (HB1.out.trans (hb2.mono HB1.out.size))
    have HS2 := Lib.hid (HS1.out.below hb2 (Nat.le_refl _))
    clear hW2 hb2 HS1 HW1 HB1
    have hwl := wd_len 6
    have q1 := add_lit (wd 6) [32] { data := #[32] } (by unfold sof; rfl) (by simp; omega)
    obtain ⟨P, hP⟩ : ∃ P, P = wd 6 ++ [32] := ⟨_, rfl⟩
    have hPl : P.length ≤ 7 := by rw [hP, List.length_append, List.length_singleton]; omega
    rw [← hP] at q1
    have q2 := add_sof P nm (by omega)
    have HT := Lib.hid HT.out
    rw [← hP] at HT
    clear hP
    go_wp2
    go_ret2
    exact ⟨by rw [HT.out]; rfl, HB2.out.alloc HB2.out.size _⟩
  · obtain ⟨a, rfl⟩ := Int.eq_ofNat_of_zero_le (show 0 ≤ nu by omega)
    have ha : a ≤ 1000000 := by omega
    have hit := fun W h => itoa_n a (by omega) W h
    have hlen := dcm_len 15 a (by omega)
    have HT : Hid (pfmt ⟨7, m, lo, hi, nm, (a : Int)⟩ = (wd 7) ++ [32] ++ dcm a) := Lib.hid (by simp [pfmt, pbody, wd])
    generalize dcm a = T at *
    clear hp hm hn hk ha
    go_enter Tryd.func15, Tryd.ntmps15
    go_wp2_with fail
    refine (hv2 _).mono ?_
    rintro e w1 ⟨rfl, hb1⟩
    have hW1 := (Whole.here w 24 _).below hb1 (by simp)
    obtain ⟨c0, c1, c2, c3, c4, c5⟩ := pcells hW1
    have HW1 := Lib.hid hW1
    have HB1 := Lib.hid (((Below.refl w.heap.size w).alloc (Nat.le_refl _) _).trans (hb1.mono (by simp)))
    have HS1 := Lib.hid (hS.below HB1.out (Nat.le_refl _))
    clear hW1 hb1 hS hv2
    go_wp2_with fail
    refine (describe _ _).mono ?_
    rintro e w2 ⟨rfl, hb2⟩
    rw [dsv_7]
    have hW2 := HW1.out.below hb2 HW1.out.lt
    obtain ⟨c0, c1, c2, c3, c4, c5⟩ := pcells hW2
    have hg2 := hW2.lt
    have HW2 := Lib.hid hW2
    have HB2 := Lib.hid (HB1.out.trans (hb2.mono HB1.out.size))
    have HS2 := Lib.hid (HS1.out.below hb2 (Nat.le_refl _))
    clear hW2 hb2 HS1 HW1 HB1
    go_wp2_with fail
    refine (hit _ (HS2.out.below ((Below.refl w2.heap.size w2).alloc (Nat.le_refl _) _) (Nat.le_refl _))).mono ?_
    rintro e w3 ⟨rfl, hb3⟩
    clear hit
    have hD := (Whole.here w2 58 _).below hb3 (by simp)
    have d0 := hD.cell 0
    simp only [List.getElem?_toArray, List.getElem?_cons_zero] at d0
    have HQ := Lib.hid (HB2.out.trans (((Below.refl w2.heap.size w2).alloc (Nat.le_refl _) _).trans (hb3.mono (by simp)) |>.mono HB2.out.size))
    clear hD hb3 HB2 HS2 HW2
    have hwl := wd_len 7
    have q1 := add_lit (wd 7) [32] { data := #[32] } (by unfold sof; rfl) (by simp; omega)
    obtain ⟨P, hP⟩ : ∃ P, P = wd 7 ++ [32] := ⟨_, rfl⟩
    have hPl : P.length ≤ 7 := by rw [hP, List.length_append, List.length_singleton]; omega
    rw [← hP] at q1
    have q2 := add_sof P T (by omega)
    have HT := Lib.hid HT.out
    rw [← hP] at HT
    clear hP
    go_wp2
    go_ret2
    refine ⟨?_, HQ.out⟩
    rw [HT.out]
    rfl
end Go.Proofs.YtpodgmmgphibfaaDoor
