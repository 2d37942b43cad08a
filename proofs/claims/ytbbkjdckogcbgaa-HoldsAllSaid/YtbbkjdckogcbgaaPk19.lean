/-
  The reference's Valid: what is known ahead of its end.
  The reference's Valid: no kind.
  The reference's Valid: kind 1.
  The reference's Valid: kind 2.
  The reference's Valid: kind 3.
  The reference's Valid: kind 4.
  The reference's Valid: kind 5.
  The reference's Valid: kind 6.
  The reference's Valid: kind 7.
  The reference's Valid.
  The reference's Holds.
-/
import Derived.Deep.DeepCutAuto
import Derived.Deep.CutBlock
import Derived.BigRegion
import Derived.Test.YtbbkjdckogcbgaaPk5
import Derived.Test.YtbbkjdckogcbgaaPk6
import Derived.Test.YtbbkjdckogcbgaaPk15
namespace Go.Proofs.Ytbbkjdckogcbgaa
open Go Go.RowKit Sh Leaf

/-- What is known ahead of the end of Valid: its flag, and the other predicate. -/
def RvR (p : Prd) (w : World) (v : Value) (wx : World) : Prop := ∃ (b : Bool) (q : Prd), v = .bool b ∧ PRow wx w.heap.size p.kind p.mask p.lo p.hi p.name p.num ∧ PRow wx (w.heap.size + 1) q.kind q.mask q.lo q.hi q.name q.num ∧ Below w.heap.size w wx ∧ (b && decide (p = q)) = decide (pok p)
theorem geq_z (a b : Int) (B : Bool) (h : B = decide (b ≤ a)) (W : World) : (binOp .geq 3 (.int .i64 a) (.int .i64 b)).run Try.prog W = .ok (.bool B) W := by subst h; simp [go_sem]
theorem leq_z (a b : Int) (B : Bool) (h : B = decide (a ≤ b)) (W : World) : (binOp .leq 3 (.int .i64 a) (.int .i64 b)).run Try.prog W = .ok (.bool B) W := by subst h; simp [go_sem]
theorem lss_z (a b : Int) (B : Bool) (h : B = decide (a < b)) (W : World) : (binOp .lss 3 (.int .i64 a) (.int .i64 b)).run Try.prog W = .ok (.bool B) W := by subst h; simp [go_sem]
theorem lss_u (a b : Int) (B : Bool) (h : B = decide (a < b)) (W : World) : (binOp .lss 33 (.int .u64 a) (.int .u64 b)).run Try.prog W = .ok (.bool B) W := by subst h; simp [go_sem]
theorem neq_u (a b : Int) (B : Bool) (h : B = decide (a ≠ b)) (W : World) : (binOp .neq 33 (.int .u64 a) (.int .u64 b)).run Try.prog W = .ok (.bool B) W := by subst h; by_cases h : a = b <;> simp [go_sem, h]
end Go.Proofs.Ytbbkjdckogcbgaa
namespace Go.Proofs.Ytbbkjdckogcbgaa
open Go Go.RowKit Sh Leaf

set_option linter.unusedVariables false in
set_option maxRecDepth 100000 in
set_option maxHeartbeats 4000000 in
theorem rvalid0 (k : Int) (hk : k < 1 ∨ 7 < k) (m : Nat) (lo hi : Int) (nm : List B8) (nu : Int) (hm : m < 18446744073709551616) (hn : nm.length ≤ 9223372036854775807) (w : World) :
    Calls Try.prog 31 #[pv ⟨k, m, lo, hi, nm, nu⟩] w fun e w' => e = .returned (.bool (decide (pok ⟨k, m, lo, hi, nm, nu⟩))) ∧ Below w.heap.size w w' := by
  unfold pv
  simp only
  have hb1 : ∀ o o1, Below w.heap.size w ((w.alloc o).alloc o1) := fun o o1 => ((Below.refl w.heap.size w).alloc (Nat.le_refl _) _).alloc (by simp) _
  have hp1 : ∀ o o1, o = .cells (prow k (m : Int) lo hi nm nu) 35 → PRow ((w.alloc o).alloc o1) w.heap.size k m lo hi nm nu := fun o o1 h => by subst h; exact (Whole.here w _ _).alloc _
  have hq1 : ∀ o o1, o1 = .cells #[.int .i64 k, .int .u64 0, .int .i64 0, .int .i64 0, .string { data := #[] }, .int .i64 0] 35 → PRow ((w.alloc o).alloc o1) (w.heap.size + 1) k 0 0 0 [] 0 := fun o o1 h => by subst h; exact PRow.of_zero (Whole.at_ _ _ _ _ (by simp))
  go_enter Try.func31, Try.ntmps31
  go_upto_block 0 with fail
  go_cut [4] (fun v wx => RvR ⟨k, m, lo, hi, nm, nu⟩ w v wx)
  case first =>
    have hP := hp1 _ (.cells #[.int .i64 k, .int .u64 0, .int .i64 0, .int .i64 0, .string { data := #[] }, .int .i64 0] 35) rfl
    have hQ := hq1 (.cells (prow k (m : Int) lo hi nm nu) 35) _ rfl
    have hB := hb1 (.cells (prow k (m : Int) lo hi nm nu) 35) (.cells #[.int .i64 k, .int .u64 0, .int .i64 0, .int .i64 0, .string { data := #[] }, .int .i64 0] 35)
    clear hb1 hp1 hq1
    generalize (w.alloc (.cells (prow k (m : Int) lo hi nm nu) 35)).alloc (.cells #[.int .i64 k, .int .u64 0, .int .i64 0, .int .i64 0, .string { data := #[] }, .int .i64 0] 35) = w1 at *
    have HP := Lib.hid hP
    have HQ := Lib.hid hQ
    have HB := Lib.hid hB
    obtain ⟨c0, c1, c2, c3, c4, c5⟩ := hP.cells
    obtain ⟨d0, d1, d2, d3, d4, d5⟩ := hQ.cells
    obtain ⟨y0, y1, y2, y3, y4, y5⟩ := hQ.frees
    clear hP hQ hB
    have g1 : ¬ k = 1 := by omega
    have g2 : ¬ k = 2 := by omega
    have g3 : ¬ k = 3 := by omega
    have g4 : ¬ k = 4 := by omega
    have g5 : ¬ k = 5 := by omega
    have g6 : ¬ k = 6 := by omega
    have g7 : ¬ k = 7 := by omega
    have HD : Hid ((false && decide ((⟨k, m, lo, hi, nm, nu⟩ : Prd) = ⟨k, 0, 0, 0, [], 0⟩)) = decide (pok ⟨k, m, lo, hi, nm, nu⟩)) := Lib.hid (by rw [Bool.false_and]; refine (decide_eq_false fun h => ?_).symm; have := pok_kind h; simp only at this; omega)
    go_wp2_with fail
    go_meet
    exact ⟨false, ⟨k, 0, 0, 0, [], 0⟩, rfl, HP.out, HQ.out, HB.out, HD.out⟩
  case rest =>
    obtain ⟨b, ⟨k', m', lo', hi', nm', nu'⟩, rfl, hP, hQ, hB, hD⟩ := hcut
    clear hb1 hp1 hq1
    have HD := Lib.hid hD
    clear hD
    simp only at hP hQ
    obtain ⟨c0, c1, c2, c3, c4, c5⟩ := hP.cells
    obtain ⟨d0, d1, d2, d3, d4, d5⟩ := hQ.cells
    have HB := Lib.hid hB
    clear hP hQ hB
    have hq := fun W => run_eql_prd k (m : Int) lo hi nu k' (m' : Int) lo' hi' nu' nm nm' W
    obtain ⟨E, hE⟩ : ∃ E, E = decide (k = k' ∧ (m : Int) = m' ∧ lo = lo' ∧ hi = hi' ∧ nm = nm' ∧ nu = nu') := ⟨_, rfl⟩
    rw [← hE] at hq
    have HE : Hid (decide ((⟨k, m, lo, hi, nm, nu⟩ : Prd) = ⟨k', m', lo', hi', nm', nu'⟩) = E) := Lib.hid (by rw [hE]; simp only [Prd.mk.injEq, Int.natCast_inj])
    clear hE
    cases b
    · go_wp2
      go_ret
      exact ⟨by rw [← HD.out]; rfl, HB.out⟩
    · go_wp2
      go_ret
      exact ⟨by rw [← HD.out, Bool.true_and, HE.out]; rfl, HB.out⟩
end Go.Proofs.Ytbbkjdckogcbgaa
namespace Go.Proofs.Ytbbkjdckogcbgaa
open Go Go.RowKit Sh Leaf

set_option linter.unusedVariables false in
set_option maxRecDepth 100000 in
set_option maxHeartbeats 4000000 in
theorem rvalid1 (m : Nat) (lo hi : Int) (nm : List B8) (nu : Int) (hm : m < 18446744073709551616) (hn : nm.length ≤ 9223372036854775807) (w : World) :
    Calls Try.prog 31 #[pv ⟨1, m, lo, hi, nm, nu⟩] w fun e w' => e = .returned (.bool (decide (pok ⟨1, m, lo, hi, nm, nu⟩))) ∧ Below w.heap.size w w' := by
  unfold pv
  simp only
  have hb1 : ∀ o o1, Below w.heap.size w ((w.alloc o).alloc o1) := fun o o1 => ((Below.refl w.heap.size w).alloc (Nat.le_refl _) _).alloc (by simp) _
  have hp1 : ∀ o o1, o = .cells (prow 1 (m : Int) lo hi nm nu) 35 → PRow ((w.alloc o).alloc o1) w.heap.size 1 m lo hi nm nu := fun o o1 h => by subst h; exact (Whole.here w _ _).alloc _
  have hq1 : ∀ o o1, o1 = .cells #[.int .i64 1, .int .u64 0, .int .i64 0, .int .i64 0, .string { data := #[] }, .int .i64 0] 35 → PRow ((w.alloc o).alloc o1) (w.heap.size + 1) 1 0 0 0 [] 0 := fun o o1 h => by subst h; exact PRow.of_zero (Whole.at_ _ _ _ _ (by simp))
  go_enter Try.func31, Try.ntmps31
  go_upto_block 0 with fail
  go_cut [4] (fun v wx => RvR ⟨1, m, lo, hi, nm, nu⟩ w v wx)
  case first =>
    have hP := hp1 _ (.cells #[.int .i64 1, .int .u64 0, .int .i64 0, .int .i64 0, .string { data := #[] }, .int .i64 0] 35) rfl
    have hQ := hq1 (.cells (prow 1 (m : Int) lo hi nm nu) 35) _ rfl
    have hB := hb1 (.cells (prow 1 (m : Int) lo hi nm nu) 35) (.cells #[.int .i64 1, .int .u64 0, .int .i64 0, .int .i64 0, .string { data := #[] }, .int .i64 0] 35)
    clear hb1 hp1 hq1
    generalize (w.alloc (.cells (prow 1 (m : Int) lo hi nm nu) 35)).alloc (.cells #[.int .i64 1, .int .u64 0, .int .i64 0, .int .i64 0, .string { data := #[] }, .int .i64 0] 35) = w1 at *
    have HP := Lib.hid hP
    have HQ := Lib.hid hQ
    have HB := Lib.hid hB
    obtain ⟨c0, c1, c2, c3, c4, c5⟩ := hP.cells
    obtain ⟨d0, d1, d2, d3, d4, d5⟩ := hQ.cells
    obtain ⟨y0, y1, y2, y3, y4, y5⟩ := hQ.frees
    clear hP hQ hB
    obtain ⟨F, hF⟩ : ∃ F, F = ((m : Int) != 0) := ⟨_, rfl⟩
    have qF := Lib.hid hF.symm
    have HD : Hid (((F) && decide ((⟨1, m, lo, hi, nm, nu⟩ : Prd) = ⟨1, m, 0, 0, [], 0⟩)) = decide (pok ⟨1, m, lo, hi, nm, nu⟩)) := Lib.hid (by rw [hF, Bool.eq_iff_iff]; unfold pok; simp only [Bool.and_eq_true, decide_eq_true_eq, Prd.mk.injEq, bne_iff_ne, ne_eq, Int.natCast_eq_zero]; constructor <;> intro h <;> first | (obtain ⟨h1, h2⟩ := h; simp at h1 h2; simp [h1, h2]; omega) | (simp at h; simp [h]; omega) | (simp at h; simp [h]) | simp_all | (simp_all; omega))
    clear hF
    go_wp2_with fail
    have rF := qF.out
    go_region
    all_goals
      go_wp2_with fail
      go_meet
      first | exact ⟨F, ⟨1, m, 0, 0, [], 0⟩, rfl, Whole.drew (Whole.far HP.out (a := ⟨w.heap.size + 1, 1, none⟩) (by show w.heap.size ≠ w.heap.size + 1; omega) _), Whole.drew (PRow.set1 HQ.out (m : Int)), Below.drew (Below.setCell HB.out (p := ⟨w.heap.size + 1, 1, none⟩) (by show w.heap.size ≤ w.heap.size + 1; omega) _), HD.out⟩
  case rest =>
    obtain ⟨b, ⟨k', m', lo', hi', nm', nu'⟩, rfl, hP, hQ, hB, hD⟩ := hcut
    clear hb1 hp1 hq1
    have HD := Lib.hid hD
    clear hD
    simp only at hP hQ
    obtain ⟨c0, c1, c2, c3, c4, c5⟩ := hP.cells
    obtain ⟨d0, d1, d2, d3, d4, d5⟩ := hQ.cells
    have HB := Lib.hid hB
    clear hP hQ hB
    have hq := fun W => run_eql_prd 1 (m : Int) lo hi nu k' (m' : Int) lo' hi' nu' nm nm' W
    obtain ⟨E, hE⟩ : ∃ E, E = decide (1 = k' ∧ (m : Int) = m' ∧ lo = lo' ∧ hi = hi' ∧ nm = nm' ∧ nu = nu') := ⟨_, rfl⟩
    rw [← hE] at hq
    have HE : Hid (decide ((⟨1, m, lo, hi, nm, nu⟩ : Prd) = ⟨k', m', lo', hi', nm', nu'⟩) = E) := Lib.hid (by rw [hE]; simp only [Prd.mk.injEq, Int.natCast_inj])
    clear hE
    cases b
    · go_wp2
      go_ret
      exact ⟨by rw [← HD.out]; rfl, HB.out⟩
    · go_wp2
      go_ret
      exact ⟨by rw [← HD.out, Bool.true_and, HE.out]; rfl, HB.out⟩
end Go.Proofs.Ytbbkjdckogcbgaa
namespace Go.Proofs.Ytbbkjdckogcbgaa
open Go Go.RowKit Sh Leaf

set_option linter.unusedVariables false in
set_option maxRecDepth 100000 in
set_option maxHeartbeats 4000000 in
theorem rvalid2 (m : Nat) (lo hi : Int) (nm : List B8) (nu : Int) (hm : m < 18446744073709551616) (hn : nm.length ≤ 9223372036854775807) (w : World) :
    Calls Try.prog 31 #[pv ⟨2, m, lo, hi, nm, nu⟩] w fun e w' => e = .returned (.bool (decide (pok ⟨2, m, lo, hi, nm, nu⟩))) ∧ Below w.heap.size w w' := by
  unfold pv
  simp only
  have hb1 : ∀ o o1, Below w.heap.size w ((w.alloc o).alloc o1) := fun o o1 => ((Below.refl w.heap.size w).alloc (Nat.le_refl _) _).alloc (by simp) _
  have hp1 : ∀ o o1, o = .cells (prow 2 (m : Int) lo hi nm nu) 35 → PRow ((w.alloc o).alloc o1) w.heap.size 2 m lo hi nm nu := fun o o1 h => by subst h; exact (Whole.here w _ _).alloc _
  have hq1 : ∀ o o1, o1 = .cells #[.int .i64 2, .int .u64 0, .int .i64 0, .int .i64 0, .string { data := #[] }, .int .i64 0] 35 → PRow ((w.alloc o).alloc o1) (w.heap.size + 1) 2 0 0 0 [] 0 := fun o o1 h => by subst h; exact PRow.of_zero (Whole.at_ _ _ _ _ (by simp))
  go_enter Try.func31, Try.ntmps31
  go_upto_block 0 with fail
  go_cut [4] (fun v wx => RvR ⟨2, m, lo, hi, nm, nu⟩ w v wx)
  case first =>
    have hP := hp1 _ (.cells #[.int .i64 2, .int .u64 0, .int .i64 0, .int .i64 0, .string { data := #[] }, .int .i64 0] 35) rfl
    have hQ := hq1 (.cells (prow 2 (m : Int) lo hi nm nu) 35) _ rfl
    have hB := hb1 (.cells (prow 2 (m : Int) lo hi nm nu) 35) (.cells #[.int .i64 2, .int .u64 0, .int .i64 0, .int .i64 0, .string { data := #[] }, .int .i64 0] 35)
    clear hb1 hp1 hq1
    generalize (w.alloc (.cells (prow 2 (m : Int) lo hi nm nu) 35)).alloc (.cells #[.int .i64 2, .int .u64 0, .int .i64 0, .int .i64 0, .string { data := #[] }, .int .i64 0] 35) = w1 at *
    have HP := Lib.hid hP
    have HQ := Lib.hid hQ
    have HB := Lib.hid hB
    obtain ⟨c0, c1, c2, c3, c4, c5⟩ := hP.cells
    obtain ⟨d0, d1, d2, d3, d4, d5⟩ := hQ.cells
    obtain ⟨y0, y1, y2, y3, y4, y5⟩ := hQ.frees
    clear hP hQ hB
    obtain ⟨G0, hG0⟩ : ∃ G0, G0 = ((m : Int) != 0) := ⟨_, rfl⟩
    have qG0 := Lib.hid hG0.symm
    obtain ⟨F, hF⟩ : ∃ F, F = decide ((m : Int) < 4294967296) := ⟨_, rfl⟩
    have qF := Lib.hid hF.symm
    have HD : Hid (((G0 && F) && decide ((⟨2, m, lo, hi, nm, nu⟩ : Prd) = ⟨2, m, 0, 0, [], 0⟩)) = decide (pok ⟨2, m, lo, hi, nm, nu⟩)) := Lib.hid (by rw [hG0, hF, Bool.eq_iff_iff]; unfold pok; simp only [Bool.and_eq_true, decide_eq_true_eq, Prd.mk.injEq, bne_iff_ne, ne_eq, Int.natCast_eq_zero]; constructor <;> intro h <;> first | (obtain ⟨h1, h2⟩ := h; simp at h1 h2; simp [h1, h2]; omega) | (simp at h; simp [h]; omega) | (simp at h; simp [h]) | simp_all | (simp_all; omega))
    clear hG0
    clear hF
    cases G0
    · skip
      go_wp2_with fail
      have rG0 := qG0.out
      have rF := qF.out
      go_region
      all_goals
        go_wp2_with fail
        go_meet
        first | exact ⟨false, ⟨2, m, 0, 0, [], 0⟩, rfl, Whole.drew (Whole.far HP.out (a := ⟨w.heap.size + 1, 1, none⟩) (by show w.heap.size ≠ w.heap.size + 1; omega) _), Whole.drew (PRow.set1 HQ.out (m : Int)), Below.drew (Below.setCell HB.out (p := ⟨w.heap.size + 1, 1, none⟩) (by show w.heap.size ≤ w.heap.size + 1; omega) _), HD.out⟩
    · skip
      go_wp2_with fail
      have rG0 := qG0.out
      have rF := qF.out
      go_region
      all_goals
        go_wp2_with fail
        go_meet
        first | exact ⟨F, ⟨2, m, 0, 0, [], 0⟩, rfl, Whole.drew (Whole.far HP.out (a := ⟨w.heap.size + 1, 1, none⟩) (by show w.heap.size ≠ w.heap.size + 1; omega) _), Whole.drew (PRow.set1 HQ.out (m : Int)), Below.drew (Below.setCell HB.out (p := ⟨w.heap.size + 1, 1, none⟩) (by show w.heap.size ≤ w.heap.size + 1; omega) _), HD.out⟩
  case rest =>
    obtain ⟨b, ⟨k', m', lo', hi', nm', nu'⟩, rfl, hP, hQ, hB, hD⟩ := hcut
    clear hb1 hp1 hq1
    have HD := Lib.hid hD
    clear hD
    simp only at hP hQ
    obtain ⟨c0, c1, c2, c3, c4, c5⟩ := hP.cells
    obtain ⟨d0, d1, d2, d3, d4, d5⟩ := hQ.cells
    have HB := Lib.hid hB
    clear hP hQ hB
    have hq := fun W => run_eql_prd 2 (m : Int) lo hi nu k' (m' : Int) lo' hi' nu' nm nm' W
    obtain ⟨E, hE⟩ : ∃ E, E = decide (2 = k' ∧ (m : Int) = m' ∧ lo = lo' ∧ hi = hi' ∧ nm = nm' ∧ nu = nu') := ⟨_, rfl⟩
    rw [← hE] at hq
    have HE : Hid (decide ((⟨2, m, lo, hi, nm, nu⟩ : Prd) = ⟨k', m', lo', hi', nm', nu'⟩) = E) := Lib.hid (by rw [hE]; simp only [Prd.mk.injEq, Int.natCast_inj])
    clear hE
    cases b
    · go_wp2
      go_ret
      exact ⟨by rw [← HD.out]; rfl, HB.out⟩
    · go_wp2
      go_ret
      exact ⟨by rw [← HD.out, Bool.true_and, HE.out]; rfl, HB.out⟩
end Go.Proofs.Ytbbkjdckogcbgaa
namespace Go.Proofs.Ytbbkjdckogcbgaa
open Go Go.RowKit Sh Leaf

set_option linter.unusedVariables false in
set_option maxRecDepth 100000 in
set_option maxHeartbeats 4000000 in
theorem rvalid3 (m : Nat) (lo hi : Int) (nm : List B8) (nu : Int) (hm : m < 18446744073709551616) (hn : nm.length ≤ 9223372036854775807) (w : World) :
    Calls Try.prog 31 #[pv ⟨3, m, lo, hi, nm, nu⟩] w fun e w' => e = .returned (.bool (decide (pok ⟨3, m, lo, hi, nm, nu⟩))) ∧ Below w.heap.size w w' := by
  unfold pv
  simp only
  have hb1 : ∀ o o1, Below w.heap.size w ((w.alloc o).alloc o1) := fun o o1 => ((Below.refl w.heap.size w).alloc (Nat.le_refl _) _).alloc (by simp) _
  have hp1 : ∀ o o1, o = .cells (prow 3 (m : Int) lo hi nm nu) 35 → PRow ((w.alloc o).alloc o1) w.heap.size 3 m lo hi nm nu := fun o o1 h => by subst h; exact (Whole.here w _ _).alloc _
  have hq1 : ∀ o o1, o1 = .cells #[.int .i64 3, .int .u64 0, .int .i64 0, .int .i64 0, .string { data := #[] }, .int .i64 0] 35 → PRow ((w.alloc o).alloc o1) (w.heap.size + 1) 3 0 0 0 [] 0 := fun o o1 h => by subst h; exact PRow.of_zero (Whole.at_ _ _ _ _ (by simp))
  go_enter Try.func31, Try.ntmps31
  go_upto_block 0 with fail
  go_cut [4] (fun v wx => RvR ⟨3, m, lo, hi, nm, nu⟩ w v wx)
  case first =>
    have hP := hp1 _ (.cells #[.int .i64 3, .int .u64 0, .int .i64 0, .int .i64 0, .string { data := #[] }, .int .i64 0] 35) rfl
    have hQ := hq1 (.cells (prow 3 (m : Int) lo hi nm nu) 35) _ rfl
    have hB := hb1 (.cells (prow 3 (m : Int) lo hi nm nu) 35) (.cells #[.int .i64 3, .int .u64 0, .int .i64 0, .int .i64 0, .string { data := #[] }, .int .i64 0] 35)
    clear hb1 hp1 hq1
    generalize (w.alloc (.cells (prow 3 (m : Int) lo hi nm nu) 35)).alloc (.cells #[.int .i64 3, .int .u64 0, .int .i64 0, .int .i64 0, .string { data := #[] }, .int .i64 0] 35) = w1 at *
    have HP := Lib.hid hP
    have HQ := Lib.hid hQ
    have HB := Lib.hid hB
    obtain ⟨c0, c1, c2, c3, c4, c5⟩ := hP.cells
    obtain ⟨d0, d1, d2, d3, d4, d5⟩ := hQ.cells
    obtain ⟨y0, y1, y2, y3, y4, y5⟩ := hQ.frees
    clear hP hQ hB
    obtain ⟨G0, hG0⟩ : ∃ G0, G0 = ((m : Int) != 0) := ⟨_, rfl⟩
    have qG0 := Lib.hid hG0.symm
    obtain ⟨F, hF⟩ : ∃ F, F = decide ((m : Int) < 128) := ⟨_, rfl⟩
    have qF := Lib.hid hF.symm
    have HD : Hid (((G0 && F) && decide ((⟨3, m, lo, hi, nm, nu⟩ : Prd) = ⟨3, m, 0, 0, [], 0⟩)) = decide (pok ⟨3, m, lo, hi, nm, nu⟩)) := Lib.hid (by rw [hG0, hF, Bool.eq_iff_iff]; unfold pok; simp only [Bool.and_eq_true, decide_eq_true_eq, Prd.mk.injEq, bne_iff_ne, ne_eq, Int.natCast_eq_zero]; constructor <;> intro h <;> first | (obtain ⟨h1, h2⟩ := h; simp at h1 h2; simp [h1, h2]; omega) | (simp at h; simp [h]; omega) | (simp at h; simp [h]) | simp_all | (simp_all; omega))
    clear hG0
    clear hF
    cases G0
    · skip
      go_wp2_with fail
      have rG0 := qG0.out
      have rF := qF.out
      go_region
      all_goals
        go_wp2_with fail
        go_meet
        first | exact ⟨false, ⟨3, m, 0, 0, [], 0⟩, rfl, Whole.drew (Whole.far HP.out (a := ⟨w.heap.size + 1, 1, none⟩) (by show w.heap.size ≠ w.heap.size + 1; omega) _), Whole.drew (PRow.set1 HQ.out (m : Int)), Below.drew (Below.setCell HB.out (p := ⟨w.heap.size + 1, 1, none⟩) (by show w.heap.size ≤ w.heap.size + 1; omega) _), HD.out⟩
    · skip
      go_wp2_with fail
      have rG0 := qG0.out
      have rF := qF.out
      go_region
      all_goals
        go_wp2_with fail
        go_meet
        first | exact ⟨F, ⟨3, m, 0, 0, [], 0⟩, rfl, Whole.drew (Whole.far HP.out (a := ⟨w.heap.size + 1, 1, none⟩) (by show w.heap.size ≠ w.heap.size + 1; omega) _), Whole.drew (PRow.set1 HQ.out (m : Int)), Below.drew (Below.setCell HB.out (p := ⟨w.heap.size + 1, 1, none⟩) (by show w.heap.size ≤ w.heap.size + 1; omega) _), HD.out⟩
  case rest =>
    obtain ⟨b, ⟨k', m', lo', hi', nm', nu'⟩, rfl, hP, hQ, hB, hD⟩ := hcut
    clear hb1 hp1 hq1
    have HD := Lib.hid hD
    clear hD
    simp only at hP hQ
    obtain ⟨c0, c1, c2, c3, c4, c5⟩ := hP.cells
    obtain ⟨d0, d1, d2, d3, d4, d5⟩ := hQ.cells
    have HB := Lib.hid hB
    clear hP hQ hB
    have hq := fun W => run_eql_prd 3 (m : Int) lo hi nu k' (m' : Int) lo' hi' nu' nm nm' W
    obtain ⟨E, hE⟩ : ∃ E, E = decide (3 = k' ∧ (m : Int) = m' ∧ lo = lo' ∧ hi = hi' ∧ nm = nm' ∧ nu = nu') := ⟨_, rfl⟩
    rw [← hE] at hq
    have HE : Hid (decide ((⟨3, m, lo, hi, nm, nu⟩ : Prd) = ⟨k', m', lo', hi', nm', nu'⟩) = E) := Lib.hid (by rw [hE]; simp only [Prd.mk.injEq, Int.natCast_inj])
    clear hE
    cases b
    · go_wp2
      go_ret
      exact ⟨by rw [← HD.out]; rfl, HB.out⟩
    · go_wp2
      go_ret
      exact ⟨by rw [← HD.out, Bool.true_and, HE.out]; rfl, HB.out⟩
end Go.Proofs.Ytbbkjdckogcbgaa
namespace Go.Proofs.Ytbbkjdckogcbgaa
open Go Go.RowKit Sh Leaf

set_option linter.unusedVariables false in
set_option maxRecDepth 100000 in
set_option maxHeartbeats 4000000 in
theorem rvalid4 (m : Nat) (lo hi : Int) (nm : List B8) (nu : Int) (hm : m < 18446744073709551616) (hn : nm.length ≤ 9223372036854775807) (w : World) :
    Calls Try.prog 31 #[pv ⟨4, m, lo, hi, nm, nu⟩] w fun e w' => e = .returned (.bool (decide (pok ⟨4, m, lo, hi, nm, nu⟩))) ∧ Below w.heap.size w w' := by
  unfold pv
  simp only
  have hb1 : ∀ o o1, Below w.heap.size w ((w.alloc o).alloc o1) := fun o o1 => ((Below.refl w.heap.size w).alloc (Nat.le_refl _) _).alloc (by simp) _
  have hp1 : ∀ o o1, o = .cells (prow 4 (m : Int) lo hi nm nu) 35 → PRow ((w.alloc o).alloc o1) w.heap.size 4 m lo hi nm nu := fun o o1 h => by subst h; exact (Whole.here w _ _).alloc _
  have hq1 : ∀ o o1, o1 = .cells #[.int .i64 4, .int .u64 0, .int .i64 0, .int .i64 0, .string { data := #[] }, .int .i64 0] 35 → PRow ((w.alloc o).alloc o1) (w.heap.size + 1) 4 0 0 0 [] 0 := fun o o1 h => by subst h; exact PRow.of_zero (Whole.at_ _ _ _ _ (by simp))
  go_enter Try.func31, Try.ntmps31
  go_upto_block 0 with fail
  go_cut [4] (fun v wx => RvR ⟨4, m, lo, hi, nm, nu⟩ w v wx)
  case first =>
    have hP := hp1 _ (.cells #[.int .i64 4, .int .u64 0, .int .i64 0, .int .i64 0, .string { data := #[] }, .int .i64 0] 35) rfl
    have hQ := hq1 (.cells (prow 4 (m : Int) lo hi nm nu) 35) _ rfl
    have hB := hb1 (.cells (prow 4 (m : Int) lo hi nm nu) 35) (.cells #[.int .i64 4, .int .u64 0, .int .i64 0, .int .i64 0, .string { data := #[] }, .int .i64 0] 35)
    clear hb1 hp1 hq1
    generalize (w.alloc (.cells (prow 4 (m : Int) lo hi nm nu) 35)).alloc (.cells #[.int .i64 4, .int .u64 0, .int .i64 0, .int .i64 0, .string { data := #[] }, .int .i64 0] 35) = w1 at *
    have HP := Lib.hid hP
    have HQ := Lib.hid hQ
    have HB := Lib.hid hB
    obtain ⟨c0, c1, c2, c3, c4, c5⟩ := hP.cells
    obtain ⟨d0, d1, d2, d3, d4, d5⟩ := hQ.cells
    obtain ⟨y0, y1, y2, y3, y4, y5⟩ := hQ.frees
    clear hP hQ hB
    obtain ⟨G0, hG0⟩ : ∃ G0, G0 = decide (0 ≤ lo) := ⟨_, rfl⟩
    have qG0 := Lib.hid hG0.symm
    obtain ⟨G1, hG1⟩ : ∃ G1, G1 = decide (lo ≤ hi) := ⟨_, rfl⟩
    have qG1 := Lib.hid hG1.symm
    obtain ⟨F, hF⟩ : ∃ F, F = decide (hi ≤ 67108864) := ⟨_, rfl⟩
    have qF := Lib.hid hF.symm
    have HD : Hid (((G0 && G1 && F) && decide ((⟨4, m, lo, hi, nm, nu⟩ : Prd) = ⟨4, 0, lo, hi, [], 0⟩)) = decide (pok ⟨4, m, lo, hi, nm, nu⟩)) := Lib.hid (by rw [hG0, hG1, hF, Bool.eq_iff_iff]; unfold pok; simp only [Bool.and_eq_true, decide_eq_true_eq, Prd.mk.injEq]; constructor <;> intro h <;> first | (obtain ⟨h1, h2⟩ := h; simp at h1 h2; simp [h1, h2]; omega) | (simp at h; simp [h]; omega) | (simp at h; simp [h]) | simp_all | (simp_all; omega))
    clear hG0
    clear hG1
    clear hF
    cases G0
    · skip
      go_wp2_with fail
      have rG0 := qG0.out
      have rG1 := qG1.out
      have rF := qF.out
      go_region
      all_goals
        go_wp2_with fail
        go_meet
        first | exact ⟨false, ⟨4, 0, lo, hi, [], 0⟩, rfl, Whole.drew (Whole.far (Whole.far HP.out (a := ⟨w.heap.size + 1, 2, none⟩) (by show w.heap.size ≠ w.heap.size + 1; omega) _) (a := ⟨w.heap.size + 1, 3, none⟩) (by show w.heap.size ≠ w.heap.size + 1; omega) _), Whole.drew (PRow.set3 (PRow.set2 HQ.out lo) hi), Below.drew (Below.setCell (Below.setCell HB.out (p := ⟨w.heap.size + 1, 2, none⟩) (by show w.heap.size ≤ w.heap.size + 1; omega) _) (p := ⟨w.heap.size + 1, 3, none⟩) (by show w.heap.size ≤ w.heap.size + 1; omega) _), HD.out⟩ | exact ⟨false, ⟨4, 0, lo, hi, [], 0⟩, rfl, Whole.drew (Whole.far (Whole.far HP.out (a := ⟨w.heap.size + 1, 3, none⟩) (by show w.heap.size ≠ w.heap.size + 1; omega) _) (a := ⟨w.heap.size + 1, 2, none⟩) (by show w.heap.size ≠ w.heap.size + 1; omega) _), Whole.drew (PRow.set2 (PRow.set3 HQ.out hi) lo), Below.drew (Below.setCell (Below.setCell HB.out (p := ⟨w.heap.size + 1, 3, none⟩) (by show w.heap.size ≤ w.heap.size + 1; omega) _) (p := ⟨w.heap.size + 1, 2, none⟩) (by show w.heap.size ≤ w.heap.size + 1; omega) _), HD.out⟩
    · skip
      cases G1
      · skip
        go_wp2_with fail
        have rG0 := qG0.out
        have rG1 := qG1.out
        have rF := qF.out
        go_region
        all_goals
          go_wp2_with fail
          go_meet
          first | exact ⟨false, ⟨4, 0, lo, hi, [], 0⟩, rfl, Whole.drew (Whole.far (Whole.far HP.out (a := ⟨w.heap.size + 1, 2, none⟩) (by show w.heap.size ≠ w.heap.size + 1; omega) _) (a := ⟨w.heap.size + 1, 3, none⟩) (by show w.heap.size ≠ w.heap.size + 1; omega) _), Whole.drew (PRow.set3 (PRow.set2 HQ.out lo) hi), Below.drew (Below.setCell (Below.setCell HB.out (p := ⟨w.heap.size + 1, 2, none⟩) (by show w.heap.size ≤ w.heap.size + 1; omega) _) (p := ⟨w.heap.size + 1, 3, none⟩) (by show w.heap.size ≤ w.heap.size + 1; omega) _), HD.out⟩ | exact ⟨false, ⟨4, 0, lo, hi, [], 0⟩, rfl, Whole.drew (Whole.far (Whole.far HP.out (a := ⟨w.heap.size + 1, 3, none⟩) (by show w.heap.size ≠ w.heap.size + 1; omega) _) (a := ⟨w.heap.size + 1, 2, none⟩) (by show w.heap.size ≠ w.heap.size + 1; omega) _), Whole.drew (PRow.set2 (PRow.set3 HQ.out hi) lo), Below.drew (Below.setCell (Below.setCell HB.out (p := ⟨w.heap.size + 1, 3, none⟩) (by show w.heap.size ≤ w.heap.size + 1; omega) _) (p := ⟨w.heap.size + 1, 2, none⟩) (by show w.heap.size ≤ w.heap.size + 1; omega) _), HD.out⟩
      · skip
        go_wp2_with fail
        have rG0 := qG0.out
        have rG1 := qG1.out
        have rF := qF.out
        go_region
        all_goals
          go_wp2_with fail
          go_meet
          first | exact ⟨F, ⟨4, 0, lo, hi, [], 0⟩, rfl, Whole.drew (Whole.far (Whole.far HP.out (a := ⟨w.heap.size + 1, 2, none⟩) (by show w.heap.size ≠ w.heap.size + 1; omega) _) (a := ⟨w.heap.size + 1, 3, none⟩) (by show w.heap.size ≠ w.heap.size + 1; omega) _), Whole.drew (PRow.set3 (PRow.set2 HQ.out lo) hi), Below.drew (Below.setCell (Below.setCell HB.out (p := ⟨w.heap.size + 1, 2, none⟩) (by show w.heap.size ≤ w.heap.size + 1; omega) _) (p := ⟨w.heap.size + 1, 3, none⟩) (by show w.heap.size ≤ w.heap.size + 1; omega) _), HD.out⟩ | exact ⟨F, ⟨4, 0, lo, hi, [], 0⟩, rfl, Whole.drew (Whole.far (Whole.far HP.out (a := ⟨w.heap.size + 1, 3, none⟩) (by show w.heap.size ≠ w.heap.size + 1; omega) _) (a := ⟨w.heap.size + 1, 2, none⟩) (by show w.heap.size ≠ w.heap.size + 1; omega) _), Whole.drew (PRow.set2 (PRow.set3 HQ.out hi) lo), Below.drew (Below.setCell (Below.setCell HB.out (p := ⟨w.heap.size + 1, 3, none⟩) (by show w.heap.size ≤ w.heap.size + 1; omega) _) (p := ⟨w.heap.size + 1, 2, none⟩) (by show w.heap.size ≤ w.heap.size + 1; omega) _), HD.out⟩
  case rest =>
    obtain ⟨b, ⟨k', m', lo', hi', nm', nu'⟩, rfl, hP, hQ, hB, hD⟩ := hcut
    clear hb1 hp1 hq1
    have HD := Lib.hid hD
    clear hD
    simp only at hP hQ
    obtain ⟨c0, c1, c2, c3, c4, c5⟩ := hP.cells
    obtain ⟨d0, d1, d2, d3, d4, d5⟩ := hQ.cells
    have HB := Lib.hid hB
    clear hP hQ hB
    have hq := fun W => run_eql_prd 4 (m : Int) lo hi nu k' (m' : Int) lo' hi' nu' nm nm' W
    obtain ⟨E, hE⟩ : ∃ E, E = decide (4 = k' ∧ (m : Int) = m' ∧ lo = lo' ∧ hi = hi' ∧ nm = nm' ∧ nu = nu') := ⟨_, rfl⟩
    rw [← hE] at hq
    have HE : Hid (decide ((⟨4, m, lo, hi, nm, nu⟩ : Prd) = ⟨k', m', lo', hi', nm', nu'⟩) = E) := Lib.hid (by rw [hE]; simp only [Prd.mk.injEq, Int.natCast_inj])
    clear hE
    cases b
    · go_wp2
      go_ret
      exact ⟨by rw [← HD.out]; rfl, HB.out⟩
    · go_wp2
      go_ret
      exact ⟨by rw [← HD.out, Bool.true_and, HE.out]; rfl, HB.out⟩
end Go.Proofs.Ytbbkjdckogcbgaa
namespace Go.Proofs.Ytbbkjdckogcbgaa
open Go Go.RowKit Sh Leaf

set_option linter.unusedVariables false in
set_option maxRecDepth 100000 in
set_option maxHeartbeats 4000000 in
theorem rvalid5 (m : Nat) (lo hi : Int) (nm : List B8) (nu : Int) (hm : m < 18446744073709551616) (hn : nm.length ≤ 9223372036854775807) (w : World) :
    Calls Try.prog 31 #[pv ⟨5, m, lo, hi, nm, nu⟩] w fun e w' => e = .returned (.bool (decide (pok ⟨5, m, lo, hi, nm, nu⟩))) ∧ Below w.heap.size w w' := by
  unfold pv
  simp only
  have hb1 : ∀ o o1, Below w.heap.size w ((w.alloc o).alloc o1) := fun o o1 => ((Below.refl w.heap.size w).alloc (Nat.le_refl _) _).alloc (by simp) _
  have hp1 : ∀ o o1, o = .cells (prow 5 (m : Int) lo hi nm nu) 35 → PRow ((w.alloc o).alloc o1) w.heap.size 5 m lo hi nm nu := fun o o1 h => by subst h; exact (Whole.here w _ _).alloc _
  have hq1 : ∀ o o1, o1 = .cells #[.int .i64 5, .int .u64 0, .int .i64 0, .int .i64 0, .string { data := #[] }, .int .i64 0] 35 → PRow ((w.alloc o).alloc o1) (w.heap.size + 1) 5 0 0 0 [] 0 := fun o o1 h => by subst h; exact PRow.of_zero (Whole.at_ _ _ _ _ (by simp))
  go_enter Try.func31, Try.ntmps31
  go_upto_block 0 with fail
  go_cut [4] (fun v wx => RvR ⟨5, m, lo, hi, nm, nu⟩ w v wx)
  case first =>
    have hP := hp1 _ (.cells #[.int .i64 5, .int .u64 0, .int .i64 0, .int .i64 0, .string { data := #[] }, .int .i64 0] 35) rfl
    have hQ := hq1 (.cells (prow 5 (m : Int) lo hi nm nu) 35) _ rfl
    have hB := hb1 (.cells (prow 5 (m : Int) lo hi nm nu) 35) (.cells #[.int .i64 5, .int .u64 0, .int .i64 0, .int .i64 0, .string { data := #[] }, .int .i64 0] 35)
    clear hb1 hp1 hq1
    generalize (w.alloc (.cells (prow 5 (m : Int) lo hi nm nu) 35)).alloc (.cells #[.int .i64 5, .int .u64 0, .int .i64 0, .int .i64 0, .string { data := #[] }, .int .i64 0] 35) = w1 at *
    have HP := Lib.hid hP
    have HQ := Lib.hid hQ
    have HB := Lib.hid hB
    obtain ⟨c0, c1, c2, c3, c4, c5⟩ := hP.cells
    obtain ⟨d0, d1, d2, d3, d4, d5⟩ := hQ.cells
    obtain ⟨y0, y1, y2, y3, y4, y5⟩ := hQ.frees
    clear hP hQ hB
    obtain ⟨G0, hG0⟩ : ∃ G0, G0 = decide (0 ≤ lo) := ⟨_, rfl⟩
    have qG0 := Lib.hid hG0.symm
    obtain ⟨G1, hG1⟩ : ∃ G1, G1 = decide (lo < 1440) := ⟨_, rfl⟩
    have qG1 := Lib.hid hG1.symm
    obtain ⟨G2, hG2⟩ : ∃ G2, G2 = decide (0 ≤ hi) := ⟨_, rfl⟩
    have qG2 := Lib.hid hG2.symm
    obtain ⟨F, hF⟩ : ∃ F, F = decide (hi < 1440) := ⟨_, rfl⟩
    have qF := Lib.hid hF.symm
    have HD : Hid (((G0 && G1 && G2 && F) && decide ((⟨5, m, lo, hi, nm, nu⟩ : Prd) = ⟨5, 0, lo, hi, [], 0⟩)) = decide (pok ⟨5, m, lo, hi, nm, nu⟩)) := Lib.hid (by rw [hG0, hG1, hG2, hF, Bool.eq_iff_iff]; unfold pok; simp only [Bool.and_eq_true, decide_eq_true_eq, Prd.mk.injEq]; constructor <;> intro h <;> first | (obtain ⟨h1, h2⟩ := h; simp at h1 h2; simp [h1, h2]; omega) | (simp at h; simp [h]; omega) | (simp at h; simp [h]) | simp_all | (simp_all; omega))
    clear hG0
    clear hG1
    clear hG2
    clear hF
    cases G0
    · skip
      go_wp2_with fail
      have rG0 := qG0.out
      have rG1 := qG1.out
      have rG2 := qG2.out
      have rF := qF.out
      go_region
      all_goals
        go_wp2_with fail
        go_meet
        first | exact ⟨false, ⟨5, 0, lo, hi, [], 0⟩, rfl, Whole.drew (Whole.far (Whole.far HP.out (a := ⟨w.heap.size + 1, 2, none⟩) (by show w.heap.size ≠ w.heap.size + 1; omega) _) (a := ⟨w.heap.size + 1, 3, none⟩) (by show w.heap.size ≠ w.heap.size + 1; omega) _), Whole.drew (PRow.set3 (PRow.set2 HQ.out lo) hi), Below.drew (Below.setCell (Below.setCell HB.out (p := ⟨w.heap.size + 1, 2, none⟩) (by show w.heap.size ≤ w.heap.size + 1; omega) _) (p := ⟨w.heap.size + 1, 3, none⟩) (by show w.heap.size ≤ w.heap.size + 1; omega) _), HD.out⟩ | exact ⟨false, ⟨5, 0, lo, hi, [], 0⟩, rfl, Whole.drew (Whole.far (Whole.far HP.out (a := ⟨w.heap.size + 1, 3, none⟩) (by show w.heap.size ≠ w.heap.size + 1; omega) _) (a := ⟨w.heap.size + 1, 2, none⟩) (by show w.heap.size ≠ w.heap.size + 1; omega) _), Whole.drew (PRow.set2 (PRow.set3 HQ.out hi) lo), Below.drew (Below.setCell (Below.setCell HB.out (p := ⟨w.heap.size + 1, 3, none⟩) (by show w.heap.size ≤ w.heap.size + 1; omega) _) (p := ⟨w.heap.size + 1, 2, none⟩) (by show w.heap.size ≤ w.heap.size + 1; omega) _), HD.out⟩
    · skip
      cases G1
      · skip
        go_wp2_with fail
        have rG0 := qG0.out
        have rG1 := qG1.out
        have rG2 := qG2.out
        have rF := qF.out
        go_region
        all_goals
          go_wp2_with fail
          go_meet
          first | exact ⟨false, ⟨5, 0, lo, hi, [], 0⟩, rfl, Whole.drew (Whole.far (Whole.far HP.out (a := ⟨w.heap.size + 1, 2, none⟩) (by show w.heap.size ≠ w.heap.size + 1; omega) _) (a := ⟨w.heap.size + 1, 3, none⟩) (by show w.heap.size ≠ w.heap.size + 1; omega) _), Whole.drew (PRow.set3 (PRow.set2 HQ.out lo) hi), Below.drew (Below.setCell (Below.setCell HB.out (p := ⟨w.heap.size + 1, 2, none⟩) (by show w.heap.size ≤ w.heap.size + 1; omega) _) (p := ⟨w.heap.size + 1, 3, none⟩) (by show w.heap.size ≤ w.heap.size + 1; omega) _), HD.out⟩ | exact ⟨false, ⟨5, 0, lo, hi, [], 0⟩, rfl, Whole.drew (Whole.far (Whole.far HP.out (a := ⟨w.heap.size + 1, 3, none⟩) (by show w.heap.size ≠ w.heap.size + 1; omega) _) (a := ⟨w.heap.size + 1, 2, none⟩) (by show w.heap.size ≠ w.heap.size + 1; omega) _), Whole.drew (PRow.set2 (PRow.set3 HQ.out hi) lo), Below.drew (Below.setCell (Below.setCell HB.out (p := ⟨w.heap.size + 1, 3, none⟩) (by show w.heap.size ≤ w.heap.size + 1; omega) _) (p := ⟨w.heap.size + 1, 2, none⟩) (by show w.heap.size ≤ w.heap.size + 1; omega) _), HD.out⟩
      · skip
        cases G2
        · skip
          go_wp2_with fail
          have rG0 := qG0.out
          have rG1 := qG1.out
          have rG2 := qG2.out
          have rF := qF.out
          go_region
          all_goals
            go_wp2_with fail
            go_meet
            first | exact ⟨false, ⟨5, 0, lo, hi, [], 0⟩, rfl, Whole.drew (Whole.far (Whole.far HP.out (a := ⟨w.heap.size + 1, 2, none⟩) (by show w.heap.size ≠ w.heap.size + 1; omega) _) (a := ⟨w.heap.size + 1, 3, none⟩) (by show w.heap.size ≠ w.heap.size + 1; omega) _), Whole.drew (PRow.set3 (PRow.set2 HQ.out lo) hi), Below.drew (Below.setCell (Below.setCell HB.out (p := ⟨w.heap.size + 1, 2, none⟩) (by show w.heap.size ≤ w.heap.size + 1; omega) _) (p := ⟨w.heap.size + 1, 3, none⟩) (by show w.heap.size ≤ w.heap.size + 1; omega) _), HD.out⟩ | exact ⟨false, ⟨5, 0, lo, hi, [], 0⟩, rfl, Whole.drew (Whole.far (Whole.far HP.out (a := ⟨w.heap.size + 1, 3, none⟩) (by show w.heap.size ≠ w.heap.size + 1; omega) _) (a := ⟨w.heap.size + 1, 2, none⟩) (by show w.heap.size ≠ w.heap.size + 1; omega) _), Whole.drew (PRow.set2 (PRow.set3 HQ.out hi) lo), Below.drew (Below.setCell (Below.setCell HB.out (p := ⟨w.heap.size + 1, 3, none⟩) (by show w.heap.size ≤ w.heap.size + 1; omega) _) (p := ⟨w.heap.size + 1, 2, none⟩) (by show w.heap.size ≤ w.heap.size + 1; omega) _), HD.out⟩
        · skip
          go_wp2_with fail
          have rG0 := qG0.out
          have rG1 := qG1.out
          have rG2 := qG2.out
          have rF := qF.out
          go_region
          all_goals
            go_wp2_with fail
            go_meet
            first | exact ⟨F, ⟨5, 0, lo, hi, [], 0⟩, rfl, Whole.drew (Whole.far (Whole.far HP.out (a := ⟨w.heap.size + 1, 2, none⟩) (by show w.heap.size ≠ w.heap.size + 1; omega) _) (a := ⟨w.heap.size + 1, 3, none⟩) (by show w.heap.size ≠ w.heap.size + 1; omega) _), Whole.drew (PRow.set3 (PRow.set2 HQ.out lo) hi), Below.drew (Below.setCell (Below.setCell HB.out (p := ⟨w.heap.size + 1, 2, none⟩) (by show w.heap.size ≤ w.heap.size + 1; omega) _) (p := ⟨w.heap.size + 1, 3, none⟩) (by show w.heap.size ≤ w.heap.size + 1; omega) _), HD.out⟩ | exact ⟨F, ⟨5, 0, lo, hi, [], 0⟩, rfl, Whole.drew (Whole.far (Whole.far HP.out (a := ⟨w.heap.size + 1, 3, none⟩) (by show w.heap.size ≠ w.heap.size + 1; omega) _) (a := ⟨w.heap.size + 1, 2, none⟩) (by show w.heap.size ≠ w.heap.size + 1; omega) _), Whole.drew (PRow.set2 (PRow.set3 HQ.out hi) lo), Below.drew (Below.setCell (Below.setCell HB.out (p := ⟨w.heap.size + 1, 3, none⟩) (by show w.heap.size ≤ w.heap.size + 1; omega) _) (p := ⟨w.heap.size + 1, 2, none⟩) (by show w.heap.size ≤ w.heap.size + 1; omega) _), HD.out⟩
  case rest =>
    obtain ⟨b, ⟨k', m', lo', hi', nm', nu'⟩, rfl, hP, hQ, hB, hD⟩ := hcut
    clear hb1 hp1 hq1
    have HD := Lib.hid hD
    clear hD
    simp only at hP hQ
    obtain ⟨c0, c1, c2, c3, c4, c5⟩ := hP.cells
    obtain ⟨d0, d1, d2, d3, d4, d5⟩ := hQ.cells
    have HB := Lib.hid hB
    clear hP hQ hB
    have hq := fun W => run_eql_prd 5 (m : Int) lo hi nu k' (m' : Int) lo' hi' nu' nm nm' W
    obtain ⟨E, hE⟩ : ∃ E, E = decide (5 = k' ∧ (m : Int) = m' ∧ lo = lo' ∧ hi = hi' ∧ nm = nm' ∧ nu = nu') := ⟨_, rfl⟩
    rw [← hE] at hq
    have HE : Hid (decide ((⟨5, m, lo, hi, nm, nu⟩ : Prd) = ⟨k', m', lo', hi', nm', nu'⟩) = E) := Lib.hid (by rw [hE]; simp only [Prd.mk.injEq, Int.natCast_inj])
    clear hE
    cases b
    · go_wp2
      go_ret
      exact ⟨by rw [← HD.out]; rfl, HB.out⟩
    · go_wp2
      go_ret
      exact ⟨by rw [← HD.out, Bool.true_and, HE.out]; rfl, HB.out⟩
end Go.Proofs.Ytbbkjdckogcbgaa
namespace Go.Proofs.Ytbbkjdckogcbgaa
open Go Go.RowKit Sh Leaf

set_option linter.unusedVariables false in
set_option maxRecDepth 100000 in
set_option maxHeartbeats 4000000 in
theorem rvalid6 (m : Nat) (lo hi : Int) (nm : List B8) (nu : Int) (hm : m < 18446744073709551616) (hn : nm.length ≤ 9223372036854775807) (w : World) :
    Calls Try.prog 31 #[pv ⟨6, m, lo, hi, nm, nu⟩] w fun e w' => e = .returned (.bool (decide (pok ⟨6, m, lo, hi, nm, nu⟩))) ∧ Below w.heap.size w w' := by
  unfold pv
  simp only
  have hb1 : ∀ o o1, Below w.heap.size w ((w.alloc o).alloc o1) := fun o o1 => ((Below.refl w.heap.size w).alloc (Nat.le_refl _) _).alloc (by simp) _
  have hp1 : ∀ o o1, o = .cells (prow 6 (m : Int) lo hi nm nu) 35 → PRow ((w.alloc o).alloc o1) w.heap.size 6 m lo hi nm nu := fun o o1 h => by subst h; exact (Whole.here w _ _).alloc _
  have hq1 : ∀ o o1, o1 = .cells #[.int .i64 6, .int .u64 0, .int .i64 0, .int .i64 0, .string { data := #[] }, .int .i64 0] 35 → PRow ((w.alloc o).alloc o1) (w.heap.size + 1) 6 0 0 0 [] 0 := fun o o1 h => by subst h; exact PRow.of_zero (Whole.at_ _ _ _ _ (by simp))
  go_enter Try.func31, Try.ntmps31
  go_upto_block 0 with fail
  go_cut [4] (fun v wx => RvR ⟨6, m, lo, hi, nm, nu⟩ w v wx)
  case first =>
    have hP := hp1 _ (.cells #[.int .i64 6, .int .u64 0, .int .i64 0, .int .i64 0, .string { data := #[] }, .int .i64 0] 35) rfl
    have hQ := hq1 (.cells (prow 6 (m : Int) lo hi nm nu) 35) _ rfl
    have hB := hb1 (.cells (prow 6 (m : Int) lo hi nm nu) 35) (.cells #[.int .i64 6, .int .u64 0, .int .i64 0, .int .i64 0, .string { data := #[] }, .int .i64 0] 35)
    clear hb1 hp1 hq1
    generalize (w.alloc (.cells (prow 6 (m : Int) lo hi nm nu) 35)).alloc (.cells #[.int .i64 6, .int .u64 0, .int .i64 0, .int .i64 0, .string { data := #[] }, .int .i64 0] 35) = w1 at *
    have HP := Lib.hid hP
    have HQ := Lib.hid hQ
    have HB := Lib.hid hB
    obtain ⟨c0, c1, c2, c3, c4, c5⟩ := hP.cells
    obtain ⟨d0, d1, d2, d3, d4, d5⟩ := hQ.cells
    obtain ⟨y0, y1, y2, y3, y4, y5⟩ := hQ.frees
    clear hP hQ hB
    have hnm := fun W => name_ok nm W hn
    have HD : Hid ((decide (nmok nm) && decide ((⟨6, m, lo, hi, nm, nu⟩ : Prd) = ⟨6, 0, 0, 0, nm, 0⟩)) = decide (pok ⟨6, m, lo, hi, nm, nu⟩)) := Lib.hid (by rw [Bool.eq_iff_iff]; unfold pok; simp [and_comm, and_assoc, and_left_comm])
    generalize decide (nmok nm) = N at *
    go_wp2_with fail
    go_region_with ((go_at_call 26; refine (hnm _).mono ?_; rintro e wz ⟨rfl, rfl⟩))
    all_goals
      go_wp2_with fail
      go_meet
      first | exact ⟨N, ⟨6, 0, 0, 0, nm, 0⟩, rfl, Whole.drew (Whole.far HP.out (a := ⟨w.heap.size + 1, 4, none⟩) (by show w.heap.size ≠ w.heap.size + 1; omega) _), Whole.drew (PRow.set4 HQ.out nm), Below.drew (Below.setCell HB.out (p := ⟨w.heap.size + 1, 4, none⟩) (by show w.heap.size ≤ w.heap.size + 1; omega) _), HD.out⟩
  case rest =>
    obtain ⟨b, ⟨k', m', lo', hi', nm', nu'⟩, rfl, hP, hQ, hB, hD⟩ := hcut
    clear hb1 hp1 hq1
    have HD := Lib.hid hD
    clear hD
    simp only at hP hQ
    obtain ⟨c0, c1, c2, c3, c4, c5⟩ := hP.cells
    obtain ⟨d0, d1, d2, d3, d4, d5⟩ := hQ.cells
    have HB := Lib.hid hB
    clear hP hQ hB
    have hq := fun W => run_eql_prd 6 (m : Int) lo hi nu k' (m' : Int) lo' hi' nu' nm nm' W
    obtain ⟨E, hE⟩ : ∃ E, E = decide (6 = k' ∧ (m : Int) = m' ∧ lo = lo' ∧ hi = hi' ∧ nm = nm' ∧ nu = nu') := ⟨_, rfl⟩
    rw [← hE] at hq
    have HE : Hid (decide ((⟨6, m, lo, hi, nm, nu⟩ : Prd) = ⟨k', m', lo', hi', nm', nu'⟩) = E) := Lib.hid (by rw [hE]; simp only [Prd.mk.injEq, Int.natCast_inj])
    clear hE
    cases b
    · go_wp2
      go_ret
      exact ⟨by rw [← HD.out]; rfl, HB.out⟩
    · go_wp2
      go_ret
      exact ⟨by rw [← HD.out, Bool.true_and, HE.out]; rfl, HB.out⟩
end Go.Proofs.Ytbbkjdckogcbgaa
namespace Go.Proofs.Ytbbkjdckogcbgaa
open Go Go.RowKit Sh Leaf

set_option linter.unusedVariables false in
set_option maxRecDepth 100000 in
set_option maxHeartbeats 4000000 in
theorem rvalid7 (m : Nat) (lo hi : Int) (nm : List B8) (nu : Int) (hm : m < 18446744073709551616) (hn : nm.length ≤ 9223372036854775807) (w : World) :
    Calls Try.prog 31 #[pv ⟨7, m, lo, hi, nm, nu⟩] w fun e w' => e = .returned (.bool (decide (pok ⟨7, m, lo, hi, nm, nu⟩))) ∧ Below w.heap.size w w' := by
  unfold pv
  simp only
  have hb1 : ∀ o o1, Below w.heap.size w ((w.alloc o).alloc o1) := fun o o1 => ((Below.refl w.heap.size w).alloc (Nat.le_refl _) _).alloc (by simp) _
  have hp1 : ∀ o o1, o = .cells (prow 7 (m : Int) lo hi nm nu) 35 → PRow ((w.alloc o).alloc o1) w.heap.size 7 m lo hi nm nu := fun o o1 h => by subst h; exact (Whole.here w _ _).alloc _
  have hq1 : ∀ o o1, o1 = .cells #[.int .i64 7, .int .u64 0, .int .i64 0, .int .i64 0, .string { data := #[] }, .int .i64 0] 35 → PRow ((w.alloc o).alloc o1) (w.heap.size + 1) 7 0 0 0 [] 0 := fun o o1 h => by subst h; exact PRow.of_zero (Whole.at_ _ _ _ _ (by simp))
  go_enter Try.func31, Try.ntmps31
  go_upto_block 0 with fail
  go_cut [4] (fun v wx => RvR ⟨7, m, lo, hi, nm, nu⟩ w v wx)
  case first =>
    have hP := hp1 _ (.cells #[.int .i64 7, .int .u64 0, .int .i64 0, .int .i64 0, .string { data := #[] }, .int .i64 0] 35) rfl
    have hQ := hq1 (.cells (prow 7 (m : Int) lo hi nm nu) 35) _ rfl
    have hB := hb1 (.cells (prow 7 (m : Int) lo hi nm nu) 35) (.cells #[.int .i64 7, .int .u64 0, .int .i64 0, .int .i64 0, .string { data := #[] }, .int .i64 0] 35)
    clear hb1 hp1 hq1
    generalize (w.alloc (.cells (prow 7 (m : Int) lo hi nm nu) 35)).alloc (.cells #[.int .i64 7, .int .u64 0, .int .i64 0, .int .i64 0, .string { data := #[] }, .int .i64 0] 35) = w1 at *
    have HP := Lib.hid hP
    have HQ := Lib.hid hQ
    have HB := Lib.hid hB
    obtain ⟨c0, c1, c2, c3, c4, c5⟩ := hP.cells
    obtain ⟨d0, d1, d2, d3, d4, d5⟩ := hQ.cells
    obtain ⟨y0, y1, y2, y3, y4, y5⟩ := hQ.frees
    clear hP hQ hB
    obtain ⟨G0, hG0⟩ : ∃ G0, G0 = decide (0 ≤ nu) := ⟨_, rfl⟩
    have qG0 := Lib.hid hG0.symm
    obtain ⟨F, hF⟩ : ∃ F, F = decide (nu ≤ 1000000) := ⟨_, rfl⟩
    have qF := Lib.hid hF.symm
    have HD : Hid (((G0 && F) && decide ((⟨7, m, lo, hi, nm, nu⟩ : Prd) = ⟨7, 0, 0, 0, [], nu⟩)) = decide (pok ⟨7, m, lo, hi, nm, nu⟩)) := Lib.hid (by rw [hG0, hF, Bool.eq_iff_iff]; unfold pok; simp only [Bool.and_eq_true, decide_eq_true_eq, Prd.mk.injEq]; constructor <;> intro h <;> first | (obtain ⟨h1, h2⟩ := h; simp at h1 h2; simp [h1, h2]; omega) | (simp at h; simp [h]; omega) | (simp at h; simp [h]) | simp_all | (simp_all; omega))
    clear hG0
    clear hF
    cases G0
    · skip
      go_wp2_with fail
      have rG0 := qG0.out
      have rF := qF.out
      go_region
      all_goals
        go_wp2_with fail
        go_meet
        first | exact ⟨false, ⟨7, 0, 0, 0, [], nu⟩, rfl, Whole.drew (Whole.far HP.out (a := ⟨w.heap.size + 1, 5, none⟩) (by show w.heap.size ≠ w.heap.size + 1; omega) _), Whole.drew (PRow.set5 HQ.out nu), Below.drew (Below.setCell HB.out (p := ⟨w.heap.size + 1, 5, none⟩) (by show w.heap.size ≤ w.heap.size + 1; omega) _), HD.out⟩
    · skip
      go_wp2_with fail
      have rG0 := qG0.out
      have rF := qF.out
      go_region
      all_goals
        go_wp2_with fail
        go_meet
        first | exact ⟨F, ⟨7, 0, 0, 0, [], nu⟩, rfl, Whole.drew (Whole.far HP.out (a := ⟨w.heap.size + 1, 5, none⟩) (by show w.heap.size ≠ w.heap.size + 1; omega) _), Whole.drew (PRow.set5 HQ.out nu), Below.drew (Below.setCell HB.out (p := ⟨w.heap.size + 1, 5, none⟩) (by show w.heap.size ≤ w.heap.size + 1; omega) _), HD.out⟩
  case rest =>
    obtain ⟨b, ⟨k', m', lo', hi', nm', nu'⟩, rfl, hP, hQ, hB, hD⟩ := hcut
    clear hb1 hp1 hq1
    have HD := Lib.hid hD
    clear hD
    simp only at hP hQ
    obtain ⟨c0, c1, c2, c3, c4, c5⟩ := hP.cells
    obtain ⟨d0, d1, d2, d3, d4, d5⟩ := hQ.cells
    have HB := Lib.hid hB
    clear hP hQ hB
    have hq := fun W => run_eql_prd 7 (m : Int) lo hi nu k' (m' : Int) lo' hi' nu' nm nm' W
    obtain ⟨E, hE⟩ : ∃ E, E = decide (7 = k' ∧ (m : Int) = m' ∧ lo = lo' ∧ hi = hi' ∧ nm = nm' ∧ nu = nu') := ⟨_, rfl⟩
    rw [← hE] at hq
    have HE : Hid (decide ((⟨7, m, lo, hi, nm, nu⟩ : Prd) = ⟨k', m', lo', hi', nm', nu'⟩) = E) := Lib.hid (by rw [hE]; simp only [Prd.mk.injEq, Int.natCast_inj])
    clear hE
    cases b
    · go_wp2
      go_ret
      exact ⟨by rw [← HD.out]; rfl, HB.out⟩
    · go_wp2
      go_ret
      exact ⟨by rw [← HD.out, Bool.true_and, HE.out]; rfl, HB.out⟩
end Go.Proofs.Ytbbkjdckogcbgaa
namespace Go.Proofs.Ytbbkjdckogcbgaa
open Go Go.RowKit Sh Leaf

theorem rvalid (p : Prd) (hm : p.mask < 18446744073709551616) (hn : p.name.length ≤ 9223372036854775807) (w : World) :
    Calls Try.prog 31 #[pv p] w fun e w' => e = .returned (.bool (decide (pok p))) ∧ Below w.heap.size w w' := by
  obtain ⟨k, m, lo, hi, nm, nu⟩ := p
  simp only at hm hn
  rcases (by omega : k = 1 ∨ k = 2 ∨ k = 3 ∨ k = 4 ∨ k = 5 ∨ k = 6 ∨ k = 7 ∨ (k < 1 ∨ 7 < k)) with rfl | rfl | rfl | rfl | rfl | rfl | rfl | hk
  · exact rvalid1 m lo hi nm nu hm hn w
  · exact rvalid2 m lo hi nm nu hm hn w
  · exact rvalid3 m lo hi nm nu hm hn w
  · exact rvalid4 m lo hi nm nu hm hn w
  · exact rvalid5 m lo hi nm nu hm hn w
  · exact rvalid6 m lo hi nm nu hm hn w
  · exact rvalid7 m lo hi nm nu hm hn w
  · exact rvalid0 k hk m lo hi nm nu hm hn w
end Go.Proofs.Ytbbkjdckogcbgaa
namespace Go.Proofs.Ytbbkjdckogcbgaa
open Go Go.RowKit Sh Leaf

set_option maxRecDepth 100000 in
set_option maxHeartbeats 1000000 in
theorem rholds_bad (k : Int) (pm : Nat) (pl ph pu : Int) (pn : List B8) (z l mi : Int) (nm : List B8) (w : World)
    (hv : ∀ W, Calls Try.prog 31 #[.agg (prow k pm pl ph pn pu)] W fun e w' => e = .returned (.bool false) ∧ Below W.heap.size W w') :
    Calls Try.prog 16 #[.agg (prow k pm pl ph pn pu), .agg (crow z l mi nm)] w fun e w' => e = .returned (.bool false) ∧ Below w.heap.size w w' := by
  have HB0 : Hid (Below w.heap.size w ((w.alloc (.cells (prow k pm pl ph pn pu) 35)).alloc (.cells (crow z l mi nm) 23))) := Lib.hid (two_below _ _ _)
  have HP0 : Hid (PRow ((w.alloc (.cells (prow k pm pl ph pn pu) 35)).alloc (.cells (crow z l mi nm) 23)) w.heap.size k pm pl ph pn pu) := Lib.hid ((Whole.here w _ _).alloc _)
  have HC0 : Hid (CRow ((w.alloc (.cells (prow k pm pl ph pn pu) 35)).alloc (.cells (crow z l mi nm) 23)) (w.heap.size + 1) z l mi nm) := Lib.hid (Whole.at_ _ _ _ _ (by simp))
  go_enter Try.func16, Try.ntmps16
  go_wp2_with (first
    | (go_at_call 31; refine (hv _).mono ?_; rintro e w1 ⟨rfl, hb1⟩; have HP1 := Lib.hid (HP0.out.below hb1 HP0.out.lt); have HC1 := Lib.hid (HC0.out.below hb1 HC0.out.lt); obtain ⟨q0, q1, q2, q3⟩ := CRow.cells HC1.out; have HB1 := Lib.hid (HB0.out.trans (hb1.mono HB0.out.size)); clear hb1))
  go_ret
  exact ⟨rfl, HB1.out⟩
set_option maxRecDepth 100000 in
set_option maxHeartbeats 1000000 in
theorem rholds_off (k : Int) (pm : Nat) (pl ph pu : Int) (pn : List B8) (z l mi : Int) (nm : List B8) (w : World)
    (hv : ∀ W, Calls Try.prog 31 #[.agg (prow k pm pl ph pn pu)] W fun e w' => e = .returned (.bool true) ∧ Below W.heap.size W w')
    (hcv : ∀ W, Calls Try.prog 12 #[.agg (crow z l mi nm)] W fun e w' => e = .returned (.bool false) ∧ Below W.heap.size W w') :
    Calls Try.prog 16 #[.agg (prow k pm pl ph pn pu), .agg (crow z l mi nm)] w fun e w' => e = .returned (.bool false) ∧ Below w.heap.size w w' := by
  have HB0 : Hid (Below w.heap.size w ((w.alloc (.cells (prow k pm pl ph pn pu) 35)).alloc (.cells (crow z l mi nm) 23))) := Lib.hid (two_below _ _ _)
  have HP0 : Hid (PRow ((w.alloc (.cells (prow k pm pl ph pn pu) 35)).alloc (.cells (crow z l mi nm) 23)) w.heap.size k pm pl ph pn pu) := Lib.hid ((Whole.here w _ _).alloc _)
  have HC0 : Hid (CRow ((w.alloc (.cells (prow k pm pl ph pn pu) 35)).alloc (.cells (crow z l mi nm) 23)) (w.heap.size + 1) z l mi nm) := Lib.hid (Whole.at_ _ _ _ _ (by simp))
  go_enter Try.func16, Try.ntmps16
  go_wp2_with (first
    | (go_at_call 31; refine (hv _).mono ?_; rintro e w1 ⟨rfl, hb1⟩; have HP1 := Lib.hid (HP0.out.below hb1 HP0.out.lt); have HC1 := Lib.hid (HC0.out.below hb1 HC0.out.lt); obtain ⟨q0, q1, q2, q3⟩ := CRow.cells HC1.out; have HB1 := Lib.hid (HB0.out.trans (hb1.mono HB0.out.size)); clear hb1)
    | (go_at_call 12; refine (hcv _).mono ?_; rintro e w2 ⟨rfl, hb2⟩; have hP2 := HP1.out.below hb2 HP1.out.lt; have hC2 := HC1.out.below hb2 HC1.out.lt; obtain ⟨p0, p1, p2, p3, p4, p5⟩ := PRow.cells hP2; obtain ⟨q0, q1, q2, q3⟩ := CRow.cells hC2; have HB2 := Lib.hid (HB1.out.trans (hb2.mono HB1.out.size)); clear hb2 hP2 hC2))
  go_ret
  exact ⟨rfl, HB2.out⟩
set_option maxRecDepth 100000 in
set_option maxHeartbeats 1000000 in
theorem rholds1 (pm : Nat) (pl ph pu : Int) (pn : List B8) (z l mi : Int) (nm : List B8) (h0 : 0 ≤ z) (h1 : z < 64) (D : Bool) (hD : D = decide (hbit pm z)) (w : World)
    (hv : ∀ W, Calls Try.prog 31 #[.agg (prow 1 pm pl ph pn pu)] W fun e w' => e = .returned (.bool true) ∧ Below W.heap.size W w')
    (hcv : ∀ W, Calls Try.prog 12 #[.agg (crow z l mi nm)] W fun e w' => e = .returned (.bool true) ∧ Below W.heap.size W w') :
    Calls Try.prog 16 #[.agg (prow 1 pm pl ph pn pu), .agg (crow z l mi nm)] w fun e w' => e = .returned (.bool D) ∧ Below w.heap.size w w' := by
  have HB0 : Hid (Below w.heap.size w ((w.alloc (.cells (prow 1 pm pl ph pn pu) 35)).alloc (.cells (crow z l mi nm) 23))) := Lib.hid (two_below _ _ _)
  have HP0 : Hid (PRow ((w.alloc (.cells (prow 1 pm pl ph pn pu) 35)).alloc (.cells (crow z l mi nm) 23)) w.heap.size 1 pm pl ph pn pu) := Lib.hid ((Whole.here w _ _).alloc _)
  have HC0 : Hid (CRow ((w.alloc (.cells (prow 1 pm pl ph pn pu) 35)).alloc (.cells (crow z l mi nm) 23)) (w.heap.size + 1) z l mi nm) := Lib.hid (Whole.at_ _ _ _ _ (by simp))
  obtain ⟨i, rfl⟩ := Int.eq_ofNat_of_zero_le h0
  have hbv := bit_val pm i
  have hd : decide (pm / 2 ^ i % 2 = 1) = D := by rw [hD]; exact decide_eq_decide.2 (by unfold hbit; rw [Int.toNat_natCast])
  rw [hd] at hbv
  have hw : IntKind.u64.wrap (i : Int) = (i : Int) := by rw [IntKind.wrap_u64]; omega
  have hmn : min i 64 = i := by omega
  clear hd hD h1 h0
  go_enter Try.func16, Try.ntmps16
  go_wp2_with (first
    | (go_at_call 31; refine (hv _).mono ?_; rintro e w1 ⟨rfl, hb1⟩; have HP1 := Lib.hid (HP0.out.below hb1 HP0.out.lt); have HC1 := Lib.hid (HC0.out.below hb1 HC0.out.lt); obtain ⟨q0, q1, q2, q3⟩ := CRow.cells HC1.out; have HB1 := Lib.hid (HB0.out.trans (hb1.mono HB0.out.size)); clear hb1)
    | (go_at_call 12; refine (hcv _).mono ?_; rintro e w2 ⟨rfl, hb2⟩; have hP2 := HP1.out.below hb2 HP1.out.lt; have hC2 := HC1.out.below hb2 HC1.out.lt; obtain ⟨p0, p1, p2, p3, p4, p5⟩ := PRow.cells hP2; obtain ⟨q0, q1, q2, q3⟩ := CRow.cells hC2; have HB2 := Lib.hid (HB1.out.trans (hb2.mono HB1.out.size)); clear hb2 hP2 hC2))
  go_ret
  exact ⟨rfl, HB2.out⟩
set_option maxRecDepth 100000 in
set_option maxHeartbeats 1000000 in
theorem rholds2 (pm : Nat) (pl ph pu : Int) (pn : List B8) (z l mi : Int) (nm : List B8) (h0 : 0 ≤ l) (h1 : l < 64) (D : Bool) (hD : D = decide (hbit pm l)) (w : World)
    (hv : ∀ W, Calls Try.prog 31 #[.agg (prow 2 pm pl ph pn pu)] W fun e w' => e = .returned (.bool true) ∧ Below W.heap.size W w')
    (hcv : ∀ W, Calls Try.prog 12 #[.agg (crow z l mi nm)] W fun e w' => e = .returned (.bool true) ∧ Below W.heap.size W w') :
    Calls Try.prog 16 #[.agg (prow 2 pm pl ph pn pu), .agg (crow z l mi nm)] w fun e w' => e = .returned (.bool D) ∧ Below w.heap.size w w' := by
  have HB0 : Hid (Below w.heap.size w ((w.alloc (.cells (prow 2 pm pl ph pn pu) 35)).alloc (.cells (crow z l mi nm) 23))) := Lib.hid (two_below _ _ _)
  have HP0 : Hid (PRow ((w.alloc (.cells (prow 2 pm pl ph pn pu) 35)).alloc (.cells (crow z l mi nm) 23)) w.heap.size 2 pm pl ph pn pu) := Lib.hid ((Whole.here w _ _).alloc _)
  have HC0 : Hid (CRow ((w.alloc (.cells (prow 2 pm pl ph pn pu) 35)).alloc (.cells (crow z l mi nm) 23)) (w.heap.size + 1) z l mi nm) := Lib.hid (Whole.at_ _ _ _ _ (by simp))
  obtain ⟨i, rfl⟩ := Int.eq_ofNat_of_zero_le h0
  have hbv := bit_val pm i
  have hd : decide (pm / 2 ^ i % 2 = 1) = D := by rw [hD]; exact decide_eq_decide.2 (by unfold hbit; rw [Int.toNat_natCast])
  rw [hd] at hbv
  have hw : IntKind.u64.wrap (i : Int) = (i : Int) := by rw [IntKind.wrap_u64]; omega
  have hmn : min i 64 = i := by omega
  clear hd hD h1 h0
  go_enter Try.func16, Try.ntmps16
  go_wp2_with (first
    | (go_at_call 31; refine (hv _).mono ?_; rintro e w1 ⟨rfl, hb1⟩; have HP1 := Lib.hid (HP0.out.below hb1 HP0.out.lt); have HC1 := Lib.hid (HC0.out.below hb1 HC0.out.lt); obtain ⟨q0, q1, q2, q3⟩ := CRow.cells HC1.out; have HB1 := Lib.hid (HB0.out.trans (hb1.mono HB0.out.size)); clear hb1)
    | (go_at_call 12; refine (hcv _).mono ?_; rintro e w2 ⟨rfl, hb2⟩; have hP2 := HP1.out.below hb2 HP1.out.lt; have hC2 := HC1.out.below hb2 HC1.out.lt; obtain ⟨p0, p1, p2, p3, p4, p5⟩ := PRow.cells hP2; obtain ⟨q0, q1, q2, q3⟩ := CRow.cells hC2; have HB2 := Lib.hid (HB1.out.trans (hb2.mono HB1.out.size)); clear hb2 hP2 hC2))
  go_ret
  exact ⟨rfl, HB2.out⟩
set_option maxRecDepth 100000 in
set_option maxHeartbeats 1000000 in
theorem rholds3 (pm : Nat) (pl ph pu : Int) (pn : List B8) (z l mi : Int) (nm : List B8) (h0 : 0 ≤ mi) (h1 : mi ≤ 67108864) (D : Bool) (hD : D = decide (hbit pm (mi / 1440 % 7))) (w : World)
    (hv : ∀ W, Calls Try.prog 31 #[.agg (prow 3 pm pl ph pn pu)] W fun e w' => e = .returned (.bool true) ∧ Below W.heap.size W w')
    (hcv : ∀ W, Calls Try.prog 12 #[.agg (crow z l mi nm)] W fun e w' => e = .returned (.bool true) ∧ Below W.heap.size W w') :
    Calls Try.prog 16 #[.agg (prow 3 pm pl ph pn pu), .agg (crow z l mi nm)] w fun e w' => e = .returned (.bool D) ∧ Below w.heap.size w w' := by
  have HB0 : Hid (Below w.heap.size w ((w.alloc (.cells (prow 3 pm pl ph pn pu) 35)).alloc (.cells (crow z l mi nm) 23))) := Lib.hid (two_below _ _ _)
  have HP0 : Hid (PRow ((w.alloc (.cells (prow 3 pm pl ph pn pu) 35)).alloc (.cells (crow z l mi nm) 23)) w.heap.size 3 pm pl ph pn pu) := Lib.hid ((Whole.here w _ _).alloc _)
  have HC0 : Hid (CRow ((w.alloc (.cells (prow 3 pm pl ph pn pu) 35)).alloc (.cells (crow z l mi nm) 23)) (w.heap.size + 1) z l mi nm) := Lib.hid (Whole.at_ _ _ _ _ (by simp))
  have hq : mi.tdiv 1440 = mi / 1440 := Int.tdiv_eq_ediv_of_nonneg h0
  have hr : (mi / 1440).tmod 7 = mi / 1440 % 7 := Int.tmod_eq_emod_of_nonneg (by omega)
  have hw0 : IntKind.i64.wrap (mi / 1440) = mi / 1440 := by rw [IntKind.wrap_i64]; omega
  obtain ⟨i, hi⟩ := Int.eq_ofNat_of_zero_le (show 0 ≤ mi / 1440 % 7 by omega)
  have hi7 : i < 7 := by omega
  rw [hi] at hr hD
  have hbv := bit_val pm i
  have hd : decide (pm / 2 ^ i % 2 = 1) = D := by rw [hD]; exact decide_eq_decide.2 (by unfold hbit; rw [Int.toNat_natCast])
  rw [hd] at hbv
  have hw : IntKind.u64.wrap (i : Int) = (i : Int) := by rw [IntKind.wrap_u64]; omega
  have hmn : min i 64 = i := by omega
  have hi0 : (0 : Int) ≤ (i : Int) := by omega
  clear hd hD h1 h0 hi hi7
  generalize mi / 1440 = q at *
  go_enter Try.func16, Try.ntmps16
  go_wp2_with (first
    | (go_at_call 31; refine (hv _).mono ?_; rintro e w1 ⟨rfl, hb1⟩; have HP1 := Lib.hid (HP0.out.below hb1 HP0.out.lt); have HC1 := Lib.hid (HC0.out.below hb1 HC0.out.lt); obtain ⟨q0, q1, q2, q3⟩ := CRow.cells HC1.out; have HB1 := Lib.hid (HB0.out.trans (hb1.mono HB0.out.size)); clear hb1)
    | (go_at_call 12; refine (hcv _).mono ?_; rintro e w2 ⟨rfl, hb2⟩; have hP2 := HP1.out.below hb2 HP1.out.lt; have hC2 := HC1.out.below hb2 HC1.out.lt; obtain ⟨p0, p1, p2, p3, p4, p5⟩ := PRow.cells hP2; obtain ⟨q0, q1, q2, q3⟩ := CRow.cells hC2; have HB2 := Lib.hid (HB1.out.trans (hb2.mono HB1.out.size)); clear hb2 hP2 hC2))
  go_ret
  exact ⟨rfl, HB2.out⟩
set_option maxRecDepth 100000 in
set_option maxHeartbeats 1000000 in
theorem rholds4 (pm : Nat) (pl ph pu : Int) (pn : List B8) (z l mi : Int) (nm : List B8) (D : Bool) (hD : D = decide (pl ≤ mi ∧ mi ≤ ph)) (w : World)
    (hv : ∀ W, Calls Try.prog 31 #[.agg (prow 4 pm pl ph pn pu)] W fun e w' => e = .returned (.bool true) ∧ Below W.heap.size W w')
    (hcv : ∀ W, Calls Try.prog 12 #[.agg (crow z l mi nm)] W fun e w' => e = .returned (.bool true) ∧ Below W.heap.size W w') :
    Calls Try.prog 16 #[.agg (prow 4 pm pl ph pn pu), .agg (crow z l mi nm)] w fun e w' => e = .returned (.bool D) ∧ Below w.heap.size w w' := by
  have HB0 : Hid (Below w.heap.size w ((w.alloc (.cells (prow 4 pm pl ph pn pu) 35)).alloc (.cells (crow z l mi nm) 23))) := Lib.hid (two_below _ _ _)
  have HP0 : Hid (PRow ((w.alloc (.cells (prow 4 pm pl ph pn pu) 35)).alloc (.cells (crow z l mi nm) 23)) w.heap.size 4 pm pl ph pn pu) := Lib.hid ((Whole.here w _ _).alloc _)
  have HC0 : Hid (CRow ((w.alloc (.cells (prow 4 pm pl ph pn pu) 35)).alloc (.cells (crow z l mi nm) 23)) (w.heap.size + 1) z l mi nm) := Lib.hid (Whole.at_ _ _ _ _ (by simp))
  by_cases h1 : pl ≤ mi
  · by_cases h2 : mi ≤ ph
    · skip
      have hd := hD.trans (decide_eq_true (And.intro h1 h2))
      subst hd
      clear hD
      go_enter Try.func16, Try.ntmps16
      go_wp2_with (first
        | (go_at_call 31; refine (hv _).mono ?_; rintro e w1 ⟨rfl, hb1⟩; have HP1 := Lib.hid (HP0.out.below hb1 HP0.out.lt); have HC1 := Lib.hid (HC0.out.below hb1 HC0.out.lt); obtain ⟨q0, q1, q2, q3⟩ := CRow.cells HC1.out; have HB1 := Lib.hid (HB0.out.trans (hb1.mono HB0.out.size)); clear hb1)
        | (go_at_call 12; refine (hcv _).mono ?_; rintro e w2 ⟨rfl, hb2⟩; have hP2 := HP1.out.below hb2 HP1.out.lt; have hC2 := HC1.out.below hb2 HC1.out.lt; obtain ⟨p0, p1, p2, p3, p4, p5⟩ := PRow.cells hP2; obtain ⟨q0, q1, q2, q3⟩ := CRow.cells hC2; have HB2 := Lib.hid (HB1.out.trans (hb2.mono HB1.out.size)); clear hb2 hP2 hC2))
      go_ret
      exact ⟨by first | rfl | (refine congrArg (fun b : Bool => Ending.returned (Value.bool b)) (?_ : _ = false); simp; omega), HB2.out⟩
    · skip
      have hd := hD.trans (decide_eq_false (fun h : pl ≤ mi ∧ mi ≤ ph => h2 h.2))
      subst hd
      clear hD
      go_enter Try.func16, Try.ntmps16
      go_wp2_with (first
        | (go_at_call 31; refine (hv _).mono ?_; rintro e w1 ⟨rfl, hb1⟩; have HP1 := Lib.hid (HP0.out.below hb1 HP0.out.lt); have HC1 := Lib.hid (HC0.out.below hb1 HC0.out.lt); obtain ⟨q0, q1, q2, q3⟩ := CRow.cells HC1.out; have HB1 := Lib.hid (HB0.out.trans (hb1.mono HB0.out.size)); clear hb1)
        | (go_at_call 12; refine (hcv _).mono ?_; rintro e w2 ⟨rfl, hb2⟩; have hP2 := HP1.out.below hb2 HP1.out.lt; have hC2 := HC1.out.below hb2 HC1.out.lt; obtain ⟨p0, p1, p2, p3, p4, p5⟩ := PRow.cells hP2; obtain ⟨q0, q1, q2, q3⟩ := CRow.cells hC2; have HB2 := Lib.hid (HB1.out.trans (hb2.mono HB1.out.size)); clear hb2 hP2 hC2))
      go_ret
      exact ⟨by first | rfl | (refine congrArg (fun b : Bool => Ending.returned (Value.bool b)) (?_ : _ = false); simp; omega), HB2.out⟩
  · skip
    have hd := hD.trans (decide_eq_false (fun h : pl ≤ mi ∧ mi ≤ ph => h1 h.1))
    subst hd
    clear hD
    go_enter Try.func16, Try.ntmps16
    go_wp2_with (first
      | (go_at_call 31; refine (hv _).mono ?_; rintro e w1 ⟨rfl, hb1⟩; have HP1 := Lib.hid (HP0.out.below hb1 HP0.out.lt); have HC1 := Lib.hid (HC0.out.below hb1 HC0.out.lt); obtain ⟨q0, q1, q2, q3⟩ := CRow.cells HC1.out; have HB1 := Lib.hid (HB0.out.trans (hb1.mono HB0.out.size)); clear hb1)
      | (go_at_call 12; refine (hcv _).mono ?_; rintro e w2 ⟨rfl, hb2⟩; have hP2 := HP1.out.below hb2 HP1.out.lt; have hC2 := HC1.out.below hb2 HC1.out.lt; obtain ⟨p0, p1, p2, p3, p4, p5⟩ := PRow.cells hP2; obtain ⟨q0, q1, q2, q3⟩ := CRow.cells hC2; have HB2 := Lib.hid (HB1.out.trans (hb2.mono HB1.out.size)); clear hb2 hP2 hC2))
    go_ret
    exact ⟨by first | rfl | (refine congrArg (fun b : Bool => Ending.returned (Value.bool b)) (?_ : _ = false); simp; omega), HB2.out⟩
set_option maxRecDepth 100000 in
set_option maxHeartbeats 1000000 in
theorem rholds5 (pm : Nat) (pl ph pu : Int) (pn : List B8) (z l mi : Int) (nm : List B8) (h0 : 0 ≤ mi) (D : Bool) (hD : D = decide (if pl ≤ ph then pl ≤ mi % 1440 ∧ mi % 1440 ≤ ph else pl ≤ mi % 1440 ∨ mi % 1440 ≤ ph)) (w : World)
    (hv : ∀ W, Calls Try.prog 31 #[.agg (prow 5 pm pl ph pn pu)] W fun e w' => e = .returned (.bool true) ∧ Below W.heap.size W w')
    (hcv : ∀ W, Calls Try.prog 12 #[.agg (crow z l mi nm)] W fun e w' => e = .returned (.bool true) ∧ Below W.heap.size W w') :
    Calls Try.prog 16 #[.agg (prow 5 pm pl ph pn pu), .agg (crow z l mi nm)] w fun e w' => e = .returned (.bool D) ∧ Below w.heap.size w w' := by
  have HB0 : Hid (Below w.heap.size w ((w.alloc (.cells (prow 5 pm pl ph pn pu) 35)).alloc (.cells (crow z l mi nm) 23))) := Lib.hid (two_below _ _ _)
  have HP0 : Hid (PRow ((w.alloc (.cells (prow 5 pm pl ph pn pu) 35)).alloc (.cells (crow z l mi nm) 23)) w.heap.size 5 pm pl ph pn pu) := Lib.hid ((Whole.here w _ _).alloc _)
  have HC0 : Hid (CRow ((w.alloc (.cells (prow 5 pm pl ph pn pu) 35)).alloc (.cells (crow z l mi nm) 23)) (w.heap.size + 1) z l mi nm) := Lib.hid (Whole.at_ _ _ _ _ (by simp))
  have e1 : mi.tmod 1440 = mi % 1440 := Int.tmod_eq_emod_of_nonneg h0
  clear h0
  generalize mi % 1440 = r at *
  by_cases hle : pl ≤ ph
  · by_cases h1 : pl ≤ r
    · by_cases h2 : r ≤ ph
      · skip
        have hd := hD.trans (decide_eq_true ((if_pos hle).symm ▸ And.intro h1 h2))
        subst hd
        clear hD
        go_enter Try.func16, Try.ntmps16
        go_wp2_with (first
          | (go_at_call 31; refine (hv _).mono ?_; rintro e w1 ⟨rfl, hb1⟩; have HP1 := Lib.hid (HP0.out.below hb1 HP0.out.lt); have HC1 := Lib.hid (HC0.out.below hb1 HC0.out.lt); obtain ⟨q0, q1, q2, q3⟩ := CRow.cells HC1.out; have HB1 := Lib.hid (HB0.out.trans (hb1.mono HB0.out.size)); clear hb1)
          | (go_at_call 12; refine (hcv _).mono ?_; rintro e w2 ⟨rfl, hb2⟩; have hP2 := HP1.out.below hb2 HP1.out.lt; have hC2 := HC1.out.below hb2 HC1.out.lt; obtain ⟨p0, p1, p2, p3, p4, p5⟩ := PRow.cells hP2; obtain ⟨q0, q1, q2, q3⟩ := CRow.cells hC2; have HB2 := Lib.hid (HB1.out.trans (hb2.mono HB1.out.size)); clear hb2 hP2 hC2))
        go_ret
        exact ⟨by first | rfl | (refine congrArg (fun b : Bool => Ending.returned (Value.bool b)) (?_ : _ = false); simp; omega), HB2.out⟩
      · skip
        have hd := hD.trans (decide_eq_false (fun h => h2 ((iff_of_eq (if_pos hle)).1 h : pl ≤ r ∧ r ≤ ph).2))
        subst hd
        clear hD
        go_enter Try.func16, Try.ntmps16
        go_wp2_with (first
          | (go_at_call 31; refine (hv _).mono ?_; rintro e w1 ⟨rfl, hb1⟩; have HP1 := Lib.hid (HP0.out.below hb1 HP0.out.lt); have HC1 := Lib.hid (HC0.out.below hb1 HC0.out.lt); obtain ⟨q0, q1, q2, q3⟩ := CRow.cells HC1.out; have HB1 := Lib.hid (HB0.out.trans (hb1.mono HB0.out.size)); clear hb1)
          | (go_at_call 12; refine (hcv _).mono ?_; rintro e w2 ⟨rfl, hb2⟩; have hP2 := HP1.out.below hb2 HP1.out.lt; have hC2 := HC1.out.below hb2 HC1.out.lt; obtain ⟨p0, p1, p2, p3, p4, p5⟩ := PRow.cells hP2; obtain ⟨q0, q1, q2, q3⟩ := CRow.cells hC2; have HB2 := Lib.hid (HB1.out.trans (hb2.mono HB1.out.size)); clear hb2 hP2 hC2))
        go_ret
        exact ⟨by first | rfl | (refine congrArg (fun b : Bool => Ending.returned (Value.bool b)) (?_ : _ = false); simp; omega), HB2.out⟩
    · skip
      have hd := hD.trans (decide_eq_false (fun h => h1 ((iff_of_eq (if_pos hle)).1 h : pl ≤ r ∧ r ≤ ph).1))
      subst hd
      clear hD
      go_enter Try.func16, Try.ntmps16
      go_wp2_with (first
        | (go_at_call 31; refine (hv _).mono ?_; rintro e w1 ⟨rfl, hb1⟩; have HP1 := Lib.hid (HP0.out.below hb1 HP0.out.lt); have HC1 := Lib.hid (HC0.out.below hb1 HC0.out.lt); obtain ⟨q0, q1, q2, q3⟩ := CRow.cells HC1.out; have HB1 := Lib.hid (HB0.out.trans (hb1.mono HB0.out.size)); clear hb1)
        | (go_at_call 12; refine (hcv _).mono ?_; rintro e w2 ⟨rfl, hb2⟩; have hP2 := HP1.out.below hb2 HP1.out.lt; have hC2 := HC1.out.below hb2 HC1.out.lt; obtain ⟨p0, p1, p2, p3, p4, p5⟩ := PRow.cells hP2; obtain ⟨q0, q1, q2, q3⟩ := CRow.cells hC2; have HB2 := Lib.hid (HB1.out.trans (hb2.mono HB1.out.size)); clear hb2 hP2 hC2))
      go_ret
      exact ⟨by first | rfl | (refine congrArg (fun b : Bool => Ending.returned (Value.bool b)) (?_ : _ = false); simp; omega), HB2.out⟩
  · by_cases h1 : pl ≤ r
    · skip
      have hd := hD.trans (decide_eq_true ((if_neg hle).symm ▸ Or.inl h1))
      subst hd
      clear hD
      go_enter Try.func16, Try.ntmps16
      go_wp2_with (first
        | (go_at_call 31; refine (hv _).mono ?_; rintro e w1 ⟨rfl, hb1⟩; have HP1 := Lib.hid (HP0.out.below hb1 HP0.out.lt); have HC1 := Lib.hid (HC0.out.below hb1 HC0.out.lt); obtain ⟨q0, q1, q2, q3⟩ := CRow.cells HC1.out; have HB1 := Lib.hid (HB0.out.trans (hb1.mono HB0.out.size)); clear hb1)
        | (go_at_call 12; refine (hcv _).mono ?_; rintro e w2 ⟨rfl, hb2⟩; have hP2 := HP1.out.below hb2 HP1.out.lt; have hC2 := HC1.out.below hb2 HC1.out.lt; obtain ⟨p0, p1, p2, p3, p4, p5⟩ := PRow.cells hP2; obtain ⟨q0, q1, q2, q3⟩ := CRow.cells hC2; have HB2 := Lib.hid (HB1.out.trans (hb2.mono HB1.out.size)); clear hb2 hP2 hC2))
      go_ret
      exact ⟨by first | rfl | (refine congrArg (fun b : Bool => Ending.returned (Value.bool b)) (?_ : _ = false); simp; omega), HB2.out⟩
    · by_cases h2 : r ≤ ph
      · skip
        have hd := hD.trans (decide_eq_true ((if_neg hle).symm ▸ Or.inr h2))
        subst hd
        clear hD
        go_enter Try.func16, Try.ntmps16
        go_wp2_with (first
          | (go_at_call 31; refine (hv _).mono ?_; rintro e w1 ⟨rfl, hb1⟩; have HP1 := Lib.hid (HP0.out.below hb1 HP0.out.lt); have HC1 := Lib.hid (HC0.out.below hb1 HC0.out.lt); obtain ⟨q0, q1, q2, q3⟩ := CRow.cells HC1.out; have HB1 := Lib.hid (HB0.out.trans (hb1.mono HB0.out.size)); clear hb1)
          | (go_at_call 12; refine (hcv _).mono ?_; rintro e w2 ⟨rfl, hb2⟩; have hP2 := HP1.out.below hb2 HP1.out.lt; have hC2 := HC1.out.below hb2 HC1.out.lt; obtain ⟨p0, p1, p2, p3, p4, p5⟩ := PRow.cells hP2; obtain ⟨q0, q1, q2, q3⟩ := CRow.cells hC2; have HB2 := Lib.hid (HB1.out.trans (hb2.mono HB1.out.size)); clear hb2 hP2 hC2))
        go_ret
        exact ⟨by first | rfl | (refine congrArg (fun b : Bool => Ending.returned (Value.bool b)) (?_ : _ = false); simp; omega), HB2.out⟩
      · skip
        have hd := hD.trans (decide_eq_false (fun h => ((iff_of_eq (if_neg hle)).1 h : pl ≤ r ∨ r ≤ ph).elim h1 h2))
        subst hd
        clear hD
        go_enter Try.func16, Try.ntmps16
        go_wp2_with (first
          | (go_at_call 31; refine (hv _).mono ?_; rintro e w1 ⟨rfl, hb1⟩; have HP1 := Lib.hid (HP0.out.below hb1 HP0.out.lt); have HC1 := Lib.hid (HC0.out.below hb1 HC0.out.lt); obtain ⟨q0, q1, q2, q3⟩ := CRow.cells HC1.out; have HB1 := Lib.hid (HB0.out.trans (hb1.mono HB0.out.size)); clear hb1)
          | (go_at_call 12; refine (hcv _).mono ?_; rintro e w2 ⟨rfl, hb2⟩; have hP2 := HP1.out.below hb2 HP1.out.lt; have hC2 := HC1.out.below hb2 HC1.out.lt; obtain ⟨p0, p1, p2, p3, p4, p5⟩ := PRow.cells hP2; obtain ⟨q0, q1, q2, q3⟩ := CRow.cells hC2; have HB2 := Lib.hid (HB1.out.trans (hb2.mono HB1.out.size)); clear hb2 hP2 hC2))
        go_ret
        exact ⟨by first | rfl | (refine congrArg (fun b : Bool => Ending.returned (Value.bool b)) (?_ : _ = false); simp; omega), HB2.out⟩
set_option maxRecDepth 100000 in
set_option maxHeartbeats 1000000 in
theorem rholds6 (pm : Nat) (pl ph pu : Int) (pn : List B8) (z l mi : Int) (nm : List B8) (D : Bool) (hD : D = decide (nm = pn)) (w : World)
    (hv : ∀ W, Calls Try.prog 31 #[.agg (prow 6 pm pl ph pn pu)] W fun e w' => e = .returned (.bool true) ∧ Below W.heap.size W w')
    (hcv : ∀ W, Calls Try.prog 12 #[.agg (crow z l mi nm)] W fun e w' => e = .returned (.bool true) ∧ Below W.heap.size W w') :
    Calls Try.prog 16 #[.agg (prow 6 pm pl ph pn pu), .agg (crow z l mi nm)] w fun e w' => e = .returned (.bool D) ∧ Below w.heap.size w w' := by
  have HB0 : Hid (Below w.heap.size w ((w.alloc (.cells (prow 6 pm pl ph pn pu) 35)).alloc (.cells (crow z l mi nm) 23))) := Lib.hid (two_below _ _ _)
  have HP0 : Hid (PRow ((w.alloc (.cells (prow 6 pm pl ph pn pu) 35)).alloc (.cells (crow z l mi nm) 23)) w.heap.size 6 pm pl ph pn pu) := Lib.hid ((Whole.here w _ _).alloc _)
  have HC0 : Hid (CRow ((w.alloc (.cells (prow 6 pm pl ph pn pu) 35)).alloc (.cells (crow z l mi nm) 23)) (w.heap.size + 1) z l mi nm) := Lib.hid (Whole.at_ _ _ _ _ (by simp))
  have hs := sof_beq nm pn
  rw [← hD] at hs
  clear hD
  go_enter Try.func16, Try.ntmps16
  go_wp2_with (first
    | (go_at_call 31; refine (hv _).mono ?_; rintro e w1 ⟨rfl, hb1⟩; have HP1 := Lib.hid (HP0.out.below hb1 HP0.out.lt); have HC1 := Lib.hid (HC0.out.below hb1 HC0.out.lt); obtain ⟨q0, q1, q2, q3⟩ := CRow.cells HC1.out; have HB1 := Lib.hid (HB0.out.trans (hb1.mono HB0.out.size)); clear hb1)
    | (go_at_call 12; refine (hcv _).mono ?_; rintro e w2 ⟨rfl, hb2⟩; have hP2 := HP1.out.below hb2 HP1.out.lt; have hC2 := HC1.out.below hb2 HC1.out.lt; obtain ⟨p0, p1, p2, p3, p4, p5⟩ := PRow.cells hP2; obtain ⟨q0, q1, q2, q3⟩ := CRow.cells hC2; have HB2 := Lib.hid (HB1.out.trans (hb2.mono HB1.out.size)); clear hb2 hP2 hC2))
  go_ret
  exact ⟨rfl, HB2.out⟩
set_option maxRecDepth 100000 in
set_option maxHeartbeats 1000000 in
theorem rholds7 (pm : Nat) (pl ph pu : Int) (pn : List B8) (z l mi : Int) (nm : List B8) (w : World)
    (hv : ∀ W, Calls Try.prog 31 #[.agg (prow 7 pm pl ph pn pu)] W fun e w' => e = .returned (.bool true) ∧ Below W.heap.size W w')
    (hcv : ∀ W, Calls Try.prog 12 #[.agg (crow z l mi nm)] W fun e w' => e = .returned (.bool true) ∧ Below W.heap.size W w') :
    Calls Try.prog 16 #[.agg (prow 7 pm pl ph pn pu), .agg (crow z l mi nm)] w fun e w' => e = .returned (.bool true) ∧ Below w.heap.size w w' := by
  have HB0 : Hid (Below w.heap.size w ((w.alloc (.cells (prow 7 pm pl ph pn pu) 35)).alloc (.cells (crow z l mi nm) 23))) := Lib.hid (two_below _ _ _)
  have HP0 : Hid (PRow ((w.alloc (.cells (prow 7 pm pl ph pn pu) 35)).alloc (.cells (crow z l mi nm) 23)) w.heap.size 7 pm pl ph pn pu) := Lib.hid ((Whole.here w _ _).alloc _)
  have HC0 : Hid (CRow ((w.alloc (.cells (prow 7 pm pl ph pn pu) 35)).alloc (.cells (crow z l mi nm) 23)) (w.heap.size + 1) z l mi nm) := Lib.hid (Whole.at_ _ _ _ _ (by simp))
  go_enter Try.func16, Try.ntmps16
  go_wp2_with (first
    | (go_at_call 31; refine (hv _).mono ?_; rintro e w1 ⟨rfl, hb1⟩; have HP1 := Lib.hid (HP0.out.below hb1 HP0.out.lt); have HC1 := Lib.hid (HC0.out.below hb1 HC0.out.lt); obtain ⟨q0, q1, q2, q3⟩ := CRow.cells HC1.out; have HB1 := Lib.hid (HB0.out.trans (hb1.mono HB0.out.size)); clear hb1)
    | (go_at_call 12; refine (hcv _).mono ?_; rintro e w2 ⟨rfl, hb2⟩; have hP2 := HP1.out.below hb2 HP1.out.lt; have hC2 := HC1.out.below hb2 HC1.out.lt; obtain ⟨p0, p1, p2, p3, p4, p5⟩ := PRow.cells hP2; obtain ⟨q0, q1, q2, q3⟩ := CRow.cells hC2; have HB2 := Lib.hid (HB1.out.trans (hb2.mono HB1.out.size)); clear hb2 hP2 hC2))
  go_ret
  exact ⟨rfl, HB2.out⟩
/-- The reference's Holds. -/
theorem rholds (p : Prd) (c : Ctx) (hm : p.mask < 18446744073709551616) (hn : p.name.length ≤ 9223372036854775807) (hc : c.holder.length ≤ 9223372036854775807) (w : World) :
    Calls Try.prog 16 #[pv p, cv c] w fun e w' => e = .returned (.bool (decide (hd p c))) ∧ Below w.heap.size w w' := by
  have hv := fun W => rvalid p hm hn W
  have hcv := fun W => rctx c hc W
  obtain ⟨k, m, lo, hi, nm, nu⟩ := p
  obtain ⟨z, l, mi, h⟩ := c
  unfold pv at hv ⊢
  unfold cv at hcv ⊢
  simp only at hv hcv hm hn hc ⊢
  by_cases hp : pok ⟨k, m, lo, hi, nm, nu⟩
  case neg =>
    rw [decide_eq_false hp] at hv
    rw [decide_eq_false (fun q : hd _ _ => hp q.1)]
    exact rholds_bad k m lo hi nu nm z l mi h w hv
  rw [decide_eq_true hp] at hv
  by_cases hk : cok ⟨z, l, mi, h⟩
  case neg =>
    rw [decide_eq_false hk] at hcv
    rw [decide_eq_false (fun q : hd _ _ => hk q.2.1)]
    exact rholds_off k m lo hi nu nm z l mi h w hv hcv
  rw [decide_eq_true hk] at hcv
  obtain ⟨⟨z0, z1⟩, ⟨l0, l1⟩, ⟨m0, m1⟩, hnm⟩ := id hk
  simp only at z0 z1 l0 l1 m0 m1 hnm
  have hkk := pok_kind hp
  simp only at hkk
  have ha : decide (hd ⟨k, m, lo, hi, nm, nu⟩ ⟨z, l, mi, h⟩) = decide (asks ⟨k, m, lo, hi, nm, nu⟩ ⟨z, l, mi, h⟩) := decide_eq_decide.2 ⟨fun q => q.2.2, fun q => ⟨hp, hk, q⟩⟩
  rw [ha]
  clear ha
  rcases (by omega : k = 1 ∨ k = 2 ∨ k = 3 ∨ k = 4 ∨ k = 5 ∨ k = 6 ∨ k = 7) with rfl | rfl | rfl | rfl | rfl | rfl | rfl
  · exact rholds1 m lo hi nu nm z l mi h z0 (by omega) _ rfl w hv hcv
  · exact rholds2 m lo hi nu nm z l mi h l0 (by omega) _ rfl w hv hcv
  · exact rholds3 m lo hi nu nm z l mi h m0 m1 _ rfl w hv hcv
  · exact rholds4 m lo hi nu nm z l mi h _ rfl w hv hcv
  · exact rholds5 m lo hi nu nm z l mi h m0 _ rfl w hv hcv
  · exact rholds6 m lo hi nu nm z l mi h _ rfl w hv hcv
  · exact rholds7 m lo hi nu nm z l mi h w hv hcv
end Go.Proofs.Ytbbkjdckogcbgaa
