/-
  The reference's Valid: what is known ahead of its end.
  The reference's Valid: no kind.
  The reference's Valid: kind 1.
  The reference's Valid: kind 2.
  The reference's Valid: kind 3.
  The reference's Valid: kind 4.
  The reference's Valid: kind 5.
  The reference's Valid: kind 6.
  The reference's Valid: kind 7.
  The reference's Valid.
  Valid (the reference).
-/
import Derived.Deep.DeepCutAuto
import Derived.Deep.CutBlock
import Derived.BigRegion
import Derived.Test.YtodmfippjcfbbaaPk6
import Derived.Test.YtodmfippjcfbbaaPk8
namespace Go.Proofs.Ytodmfippjcfbbaa
open Go Go.RowKit Sh Leaf

/-- What is known ahead of the end of Valid: its flag, and the other predicate. -/
def RvR (p : Prd) (w : World) (v : Value) (wx : World) : Prop := ∃ (b : Bool) (q : Prd), v = .bool b ∧ PRow wx w.heap.size p.kind p.mask p.lo p.hi p.name p.num ∧ PRow wx (w.heap.size + 1) q.kind q.mask q.lo q.hi q.name q.num ∧ Below w.heap.size w wx ∧ (b && decide (p = q)) = decide (pok p)
theorem geq_z (a b : Int) (B : Bool) (h : B = decide (b ≤ a)) (W : World) : (binOp .geq 3 (.int .i64 a) (.int .i64 b)).run Try.prog W = .ok (.bool B) W := by subst h; simp [go_sem]
theorem leq_z (a b : Int) (B : Bool) (h : B = decide (a ≤ b)) (W : World) : (binOp .leq 3 (.int .i64 a) (.int .i64 b)).run Try.prog W = .ok (.bool B) W := by subst h; simp [go_sem]
theorem lss_z (a b : Int) (B : Bool) (h : B = decide (a < b)) (W : World) : (binOp .lss 3 (.int .i64 a) (.int .i64 b)).run Try.prog W = .ok (.bool B) W := by subst h; simp [go_sem]
theorem lss_u (a b : Int) (B : Bool) (h : B = decide (a < b)) (W : World) : (binOp .lss 22 (.int .u64 a) (.int .u64 b)).run Try.prog W = .ok (.bool B) W := by subst h; simp [go_sem]
theorem neq_u (a b : Int) (B : Bool) (h : B = decide (a ≠ b)) (W : World) : (binOp .neq 22 (.int .u64 a) (.int .u64 b)).run Try.prog W = .ok (.bool B) W := by subst h; by_cases h : a = b <;> simp [go_sem, h]
end Go.Proofs.Ytodmfippjcfbbaa
namespace Go.Proofs.Ytodmfippjcfbbaa
open Go Go.RowKit Sh Leaf

set_option linter.unusedVariables false in
set_option maxRecDepth 100000 in
set_option maxHeartbeats 4000000 in
theorem rvalid0 (k : Int) (hk : k < 1 ∨ 7 < k) (m : Nat) (lo hi : Int) (nm : List B8) (nu : Int) (hm : m < 18446744073709551616) (hn : nm.length ≤ 9223372036854775807) (w : World) :
    Calls Try.prog 22 #[pv ⟨k, m, lo, hi, nm, nu⟩] w fun e w' => e = .returned (.bool (decide (pok ⟨k, m, lo, hi, nm, nu⟩))) ∧ Below w.heap.size w w' := by
  unfold pv
  simp only
  have hb1 : ∀ o o1, Below w.heap.size w ((w.alloc o).alloc o1) := fun o o1 => ((Below.refl w.heap.size w).alloc (Nat.le_refl _) _).alloc (by simp) _
  have hp1 : ∀ o o1, o = .cells (prow k (m : Int) lo hi nm nu) 24 → PRow ((w.alloc o).alloc o1) w.heap.size k m lo hi nm nu := fun o o1 h => by subst h; exact (Whole.here w _ _).alloc _
  have hq1 : ∀ o o1, o1 = .cells #[.int .i64 k, .int .u64 0, .int .i64 0, .int .i64 0, .string { data := #[] }, .int .i64 0] 24 → PRow ((w.alloc o).alloc o1) (w.heap.size + 1) k 0 0 0 [] 0 := fun o o1 h => by subst h; exact PRow.of_zero (Whole.at_ _ _ _ _ (by simp))
  go_enter Try.func22, Try.ntmps22
  go_upto_block 0 with fail
  go_cut [4] (fun v wx => RvR ⟨k, m, lo, hi, nm, nu⟩ w v wx)
  case first =>
    have hP := hp1 _ (.cells #[.int .i64 k, .int .u64 0, .int .i64 0, .int .i64 0, .string { data := #[] }, .int .i64 0] 24) rfl
    have hQ := hq1 (.cells (prow k (m : Int) lo hi nm nu) 24) _ rfl
    have hB := hb1 (.cells (prow k (m : Int) lo hi nm nu) 24) (.cells #[.int .i64 k, .int .u64 0, .int .i64 0, .int .i64 0, .string { data := #[] }, .int .i64 0] 24)
    clear hb1 hp1 hq1
    generalize (w.alloc (.cells (prow k (m : Int) lo hi nm nu) 24)).alloc (.cells #[.int .i64 k, .int .u64 0, .int .i64 0, .int .i64 0, .string { data := #[] }, .int .i64 0] 24) = w1 at *
    have HP := Lib.hid hP
    have HQ := Lib.hid hQ
    have HB := Lib.hid hB
    obtain ⟨c0, c1, c2, c3, c4, c5⟩ := hP.cells
    obtain ⟨d0, d1, d2, d3, d4, d5⟩ := hQ.cells
    obtain ⟨y0, y1, y2, y3, y4, y5⟩ := hQ.frees
    clear hP hQ hB
    have g1 : ¬ k = 1 := by omega
    have g2 : ¬ k = 2 := by omega
    have g3 : ¬ k = 3 := by omega
    have g4 : ¬ k = 4 := by omega
    have g5 : ¬ k = 5 := by omega
    have g6 : ¬ k = 6 := by omega
    have g7 : ¬ k = 7 := by omega
    have HD : Hid ((false && decide ((⟨k, m, lo, hi, nm, nu⟩ : Prd) = ⟨k, 0, 0, 0, [], 0⟩)) = decide (pok ⟨k, m, lo, hi, nm, nu⟩)) := Lib.hid (by rw [Bool.false_and]; refine (decide_eq_false fun h => ?_).symm; have := pok_kind h; simp only at this; omega)
    go_wp2_with fail
    go_meet
    exact ⟨false, ⟨k, 0, 0, 0, [], 0⟩, rfl, HP.out, HQ.out, HB.out, HD.out⟩
  case rest =>
    obtain ⟨b, ⟨k', m', lo', hi', nm', nu'⟩, rfl, hP, hQ, hB, hD⟩ := hcut
    clear hb1 hp1 hq1
    have HD := Lib.hid hD
    clear hD
    simp only at hP hQ
    obtain ⟨c0, c1, c2, c3, c4, c5⟩ := hP.cells
    obtain ⟨d0, d1, d2, d3, d4, d5⟩ := hQ.cells
    have HB := Lib.hid hB
    clear hP hQ hB
    have hq := fun W => run_eql_prd k (m : Int) lo hi nu k' (m' : Int) lo' hi' nu' nm nm' W
    obtain ⟨E, hE⟩ : ∃ E, E = decide (k = k' ∧ (m : Int) = m' ∧ lo = lo' ∧ hi = hi' ∧ nm = nm' ∧ nu = nu') := ⟨_, rfl⟩
    rw [← hE] at hq
    have HE : Hid (decide ((⟨k, m, lo, hi, nm, nu⟩ : Prd) = ⟨k', m', lo', hi', nm', nu'⟩) = E) := Lib.hid (by rw [hE]; simp only [Prd.mk.injEq, Int.natCast_inj])
    clear hE
    cases b
    · go_wp2
      go_ret
      exact ⟨by rw [← HD.out]; rfl, HB.out⟩
    · go_wp2
      go_ret
      exact ⟨by rw [← HD.out, Bool.true_and, HE.out]; rfl, HB.out⟩
end Go.Proofs.Ytodmfippjcfbbaa
namespace Go.Proofs.Ytodmfippjcfbbaa
open Go Go.RowKit Sh Leaf

set_option linter.unusedVariables false in
set_option maxRecDepth 100000 in
set_option maxHeartbeats 4000000 in
theorem rvalid1 (m : Nat) (lo hi : Int) (nm : List B8) (nu : Int) (hm : m < 18446744073709551616) (hn : nm.length ≤ 9223372036854775807) (w : World) :
    Calls Try.prog 22 #[pv ⟨1, m, lo, hi, nm, nu⟩] w fun e w' => e = .returned (.bool (decide (pok ⟨1, m, lo, hi, nm, nu⟩))) ∧ Below w.heap.size w w' := by
  unfold pv
  simp only
  have hb1 : ∀ o o1, Below w.heap.size w ((w.alloc o).alloc o1) := fun o o1 => ((Below.refl w.heap.size w).alloc (Nat.le_refl _) _).alloc (by simp) _
  have hp1 : ∀ o o1, o = .cells (prow 1 (m : Int) lo hi nm nu) 24 → PRow ((w.alloc o).alloc o1) w.heap.size 1 m lo hi nm nu := fun o o1 h => by subst h; exact (Whole.here w _ _).alloc _
  have hq1 : ∀ o o1, o1 = .cells #[.int .i64 1, .int .u64 0, .int .i64 0, .int .i64 0, .string { data := #[] }, .int .i64 0] 24 → PRow ((w.alloc o).alloc o1) (w.heap.size + 1) 1 0 0 0 [] 0 := fun o o1 h => by subst h; exact PRow.of_zero (Whole.at_ _ _ _ _ (by simp))
  go_enter Try.func22, Try.ntmps22
  go_upto_block 0 with fail
  go_cut [4] (fun v wx => RvR ⟨1, m, lo, hi, nm, nu⟩ w v wx)
  case first =>
    have hP := hp1 _ (.cells #[.int .i64 1, .int .u64 0, .int .i64 0, .int .i64 0, .string { data := #[] }, .int .i64 0] 24) rfl
    have hQ := hq1 (.cells (prow 1 (m : Int) lo hi nm nu) 24) _ rfl
    have hB := hb1 (.cells (prow 1 (m : Int) lo hi nm nu) 24) (.cells #[.int .i64 1, .int .u64 0, .int .i64 0, .int .i64 0, .string { data := #[] }, .int .i64 0] 24)
    clear hb1 hp1 hq1
    generalize (w.alloc (.cells (prow 1 (m : Int) lo hi nm nu) 24)).alloc (.cells #[.int .i64 1, .int .u64 0, .int .i64 0, .int .i64 0, .string { data := #[] }, .int .i64 0] 24) = w1 at *
    have HP := Lib.hid hP
    have HQ := Lib.hid hQ
    have HB := Lib.hid hB
    obtain ⟨c0, c1, c2, c3, c4, c5⟩ := hP.cells
    obtain ⟨d0, d1, d2, d3, d4, d5⟩ := hQ.cells
    obtain ⟨y0, y1, y2, y3, y4, y5⟩ := hQ.frees
    clear hP hQ hB
    obtain ⟨F, hF⟩ : ∃ F, F = ((m : Int) != 0) := ⟨_, rfl⟩
    have qF := Lib.hid hF.symm
    have HD : Hid (((F) && decide ((⟨1, m, lo, hi, nm, nu⟩ : Prd) = ⟨1, m, 0, 0, [], 0⟩)) = decide (pok ⟨1, m, lo, hi, nm, nu⟩)) := Lib.hid (by rw [hF, Bool.eq_iff_iff]; unfold pok; simp only [Bool.and_eq_true, decide_eq_true_eq, Prd.mk.injEq, bne_iff_ne, ne_eq, Int.natCast_eq_zero]; constructor <;> intro h <;> first | (obtain ⟨h1, h2⟩ := h; simp at h1 h2; simp [h1, h2]; omega) | (simp at h; simp [h]; omega) | (simp at h; simp [h]) | simp_all | (simp_all; omega))
    clear hF
    go_wp2_with fail
    have rF := qF.out
    go_region
    all_goals
      go_wp2_with fail
      go_meet
      first | exact ⟨F, ⟨1, m, 0, 0, [], 0⟩, rfl, Whole.drew (Whole.far HP.out (a := ⟨w.heap.size + 1, 1, none⟩) (by show w.heap.size ≠ w.heap.size + 1; omega) _), Whole.drew (PRow.set1 HQ.out (m : Int)), Below.drew (Below.setCell HB.out (p := ⟨w.heap.size + 1, 1, none⟩) (by show w.heap.size ≤ w.heap.size + 1; omega) _), HD.out⟩
  case rest =>
    obtain ⟨b, ⟨k', m', lo', hi', nm', nu'⟩, rfl, hP, hQ, hB, hD⟩ := hcut
    clear hb1 hp1 hq1
    have HD := Lib.hid hD
    clear hD
    simp only at hP hQ
    obtain ⟨c0, c1, c2, c3, c4, c5⟩ := hP.cells
    obtain ⟨d0, d1, d2, d3, d4, d5⟩ := hQ.cells
    have HB := Lib.hid hB
    clear hP hQ hB
    have hq := fun W => run_eql_prd 1 (m : Int) lo hi nu k' (m' : Int) lo' hi' nu' nm nm' W
    obtain ⟨E, hE⟩ : ∃ E, E = decide (1 = k' ∧ (m : Int) = m' ∧ lo = lo' ∧ hi = hi' ∧ nm = nm' ∧ nu = nu') := ⟨_, rfl⟩
    rw [← hE] at hq
    have HE : Hid (decide ((⟨1, m, lo, hi, nm, nu⟩ : Prd) = ⟨k', m', lo', hi', nm', nu'⟩) = E) := Lib.hid (by rw [hE]; simp only [Prd.mk.injEq, Int.natCast_inj])
    clear hE
    cases b
    · go_wp2
      go_ret
      exact ⟨by rw [← HD.out]; rfl, HB.out⟩
    · go_wp2
      go_ret
      exact ⟨by rw [← HD.out, Bool.true_and, HE.out]; rfl, HB.out⟩
end Go.Proofs.Ytodmfippjcfbbaa
namespace Go.Proofs.Ytodmfippjcfbbaa
open Go Go.RowKit Sh Leaf

set_option linter.unusedVariables false in
set_option maxRecDepth 100000 in
set_option maxHeartbeats 4000000 in
theorem rvalid2 (m : Nat) (lo hi : Int) (nm : List B8) (nu : Int) (hm : m < 18446744073709551616) (hn : nm.length ≤ 9223372036854775807) (w : World) :
    Calls Try.prog 22 #[pv ⟨2, m, lo, hi, nm, nu⟩] w fun e w' => e = .returned (.bool (decide (pok ⟨2, m, lo, hi, nm, nu⟩))) ∧ Below w.heap.size w w' := by
  unfold pv
  simp only
  have hb1 : ∀ o o1, Below w.heap.size w ((w.alloc o).alloc o1) := fun o o1 => ((Below.refl w.heap.size w).alloc (Nat.le_refl _) _).alloc (by simp) _
  have hp1 : ∀ o o1, o = .cells (prow 2 (m : Int) lo hi nm nu) 24 → PRow ((w.alloc o).alloc o1) w.heap.size 2 m lo hi nm nu := fun o o1 h => by subst h; exact (Whole.here w _ _).alloc _
  have hq1 : ∀ o o1, o1 = .cells #[.int .i64 2, .int .u64 0, .int .i64 0, .int .i64 0, .string { data := #[] }, .int .i64 0] 24 → PRow ((w.alloc o).alloc o1) (w.heap.size + 1) 2 0 0 0 [] 0 := fun o o1 h => by subst h; exact PRow.of_zero (Whole.at_ _ _ _ _ (by simp))
  go_enter Try.func22, Try.ntmps22
  go_upto_block 0 with fail
  go_cut [4] (fun v wx => RvR ⟨2, m, lo, hi, nm, nu⟩ w v wx)
  case first =>
    have hP := hp1 _ (.cells #[.int .i64 2, .int .u64 0, .int .i64 0, .int .i64 0, .string { data := #[] }, .int .i64 0] 24) rfl
    have hQ := hq1 (.cells (prow 2 (m : Int) lo hi nm nu) 24) _ rfl
    have hB := hb1 (.cells (prow 2 (m : Int) lo hi nm nu) 24) (.cells #[.int .i64 2, .int .u64 0, .int .i64 0, .int .i64 0, .string { data := #[] }, .int .i64 0] 24)
    clear hb1 hp1 hq1
    generalize (w.alloc (.cells (prow 2 (m : Int) lo hi nm nu) 24)).alloc (.cells #[.int .i64 2, .int .u64 0, .int .i64 0, .int .i64 0, .string { data := #[] }, .int .i64 0] 24) = w1 at *
    have HP := Lib.hid hP
    have HQ := Lib.hid hQ
    have HB := Lib.hid hB
    obtain ⟨c0, c1, c2, c3, c4, c5⟩ := hP.cells
    obtain ⟨d0, d1, d2, d3, d4, d5⟩ := hQ.cells
    obtain ⟨y0, y1, y2, y3, y4, y5⟩ := hQ.frees
    clear hP hQ hB
    obtain ⟨G0, hG0⟩ : ∃ G0, G0 = ((m : Int) != 0) := ⟨_, rfl⟩
    have qG0 := Lib.hid hG0.symm
    obtain ⟨F, hF⟩ : ∃ F, F = decide ((m : Int) < 4294967296) := ⟨_, rfl⟩
    have qF := Lib.hid hF.symm
    have HD : Hid (((G0 && F) && decide ((⟨2, m, lo, hi, nm, nu⟩ : Prd) = ⟨2, m, 0, 0, [], 0⟩)) = decide (pok ⟨2, m, lo, hi, nm, nu⟩)) := Lib.hid (by rw [hG0, hF, Bool.eq_iff_iff]; unfold pok; simp only [Bool.and_eq_true, decide_eq_true_eq, Prd.mk.injEq, bne_iff_ne, ne_eq, Int.natCast_eq_zero]; constructor <;> intro h <;> first | (obtain ⟨h1, h2⟩ := h; simp at h1 h2; simp [h1, h2]; omega) | (simp at h; simp [h]; omega) | (simp at h; simp [h]) | simp_all | (simp_all; omega))
    clear hG0
    clear hF
    cases G0
    · skip
      go_wp2_with fail
      have rG0 := qG0.out
      have rF := qF.out
      go_region
      all_goals
        go_wp2_with fail
        go_meet
        first | exact ⟨false, ⟨2, m, 0, 0, [], 0⟩, rfl, Whole.drew (Whole.far HP.out (a := ⟨w.heap.size + 1, 1, none⟩) (by show w.heap.size ≠ w.heap.size + 1; omega) _), Whole.drew (PRow.set1 HQ.out (m : Int)), Below.drew (Below.setCell HB.out (p := ⟨w.heap.size + 1, 1, none⟩) (by show w.heap.size ≤ w.heap.size + 1; omega) _), HD.out⟩
    · skip
      go_wp2_with fail
      have rG0 := qG0.out
      have rF := qF.out
      go_region
      all_goals
        go_wp2_with fail
        go_meet
        first | exact ⟨F, ⟨2, m, 0, 0, [], 0⟩, rfl, Whole.drew (Whole.far HP.out (a := ⟨w.heap.size + 1, 1, none⟩) (by show w.heap.size ≠ w.heap.size + 1; omega) _), Whole.drew (PRow.set1 HQ.out (m : Int)), Below.drew (Below.setCell HB.out (p := ⟨w.heap.size + 1, 1, none⟩) (by show w.heap.size ≤ w.heap.size + 1; omega) _), HD.out⟩
  case rest =>
    obtain ⟨b, ⟨k', m', lo', hi', nm', nu'⟩, rfl, hP, hQ, hB, hD⟩ := hcut
    clear hb1 hp1 hq1
    have HD := Lib.hid hD
    clear hD
    simp only at hP hQ
    obtain ⟨c0, c1, c2, c3, c4, c5⟩ := hP.cells
    obtain ⟨d0, d1, d2, d3, d4, d5⟩ := hQ.cells
    have HB := Lib.hid hB
    clear hP hQ hB
    have hq := fun W => run_eql_prd 2 (m : Int) lo hi nu k' (m' : Int) lo' hi' nu' nm nm' W
    obtain ⟨E, hE⟩ : ∃ E, E = decide (2 = k' ∧ (m : Int) = m' ∧ lo = lo' ∧ hi = hi' ∧ nm = nm' ∧ nu = nu') := ⟨_, rfl⟩
    rw [← hE] at hq
    have HE : Hid (decide ((⟨2, m, lo, hi, nm, nu⟩ : Prd) = ⟨k', m', lo', hi', nm', nu'⟩) = E) := Lib.hid (by rw [hE]; simp only [Prd.mk.injEq, Int.natCast_inj])
    clear hE
    cases b
    · go_wp2
      go_ret
      exact ⟨by rw [← HD.out]; rfl, HB.out⟩
    · go_wp2
      go_ret
      exact ⟨by rw [← HD.out, Bool.true_and, HE.out]; rfl, HB.out⟩
end Go.Proofs.Ytodmfippjcfbbaa
namespace Go.Proofs.Ytodmfippjcfbbaa
open Go Go.RowKit Sh Leaf

set_option linter.unusedVariables false in
set_option maxRecDepth 100000 in
set_option maxHeartbeats 4000000 in
theorem rvalid3 (m : Nat) (lo hi : Int) (nm : List B8) (nu : Int) (hm : m < 18446744073709551616) (hn : nm.length ≤ 9223372036854775807) (w : World) :
    Calls Try.prog 22 #[pv ⟨3, m, lo, hi, nm, nu⟩] w fun e w' => e = .returned (.bool (decide (pok ⟨3, m, lo, hi, nm, nu⟩))) ∧ Below w.heap.size w w' := by
  unfold pv
  simp only
  have hb1 : ∀ o o1, Below w.heap.size w ((w.alloc o).alloc o1) := fun o o1 => ((Below.refl w.heap.size w).alloc (Nat.le_refl _) _).alloc (by simp) _
  have hp1 : ∀ o o1, o = .cells (prow 3 (m : Int) lo hi nm nu) 24 → PRow ((w.alloc o).alloc o1) w.heap.size 3 m lo hi nm nu := fun o o1 h => by subst h; exact (Whole.here w _ _).alloc _
  have hq1 : ∀ o o1, o1 = .cells #[.int .i64 3, .int .u64 0, .int .i64 0, .int .i64 0, .string { data := #[] }, .int .i64 0] 24 → PRow ((w.alloc o).alloc o1) (w.heap.size + 1) 3 0 0 0 [] 0 := fun o o1 h => by subst h; exact PRow.of_zero (Whole.at_ _ _ _ _ (by simp))
  go_enter Try.func22, Try.ntmps22
  go_upto_block 0 with fail
  go_cut [4] (fun v wx => RvR ⟨3, m, lo, hi, nm, nu⟩ w v wx)
  case first =>
    have hP := hp1 _ (.cells #[.int .i64 3, .int .u64 0, .int .i64 0, .int .i64 0, .string { data := #[] }, .int .i64 0] 24) rfl
    have hQ := hq1 (.cells (prow 3 (m : Int) lo hi nm nu) 24) _ rfl
    have hB := hb1 (.cells (prow 3 (m : Int) lo hi nm nu) 24) (.cells #[.int .i64 3, .int .u64 0, .int .i64 0, .int .i64 0, .string { data := #[] }, .int .i64 0] 24)
    clear hb1 hp1 hq1
    generalize (w.alloc (.cells (prow 3 (m : Int) lo hi nm nu) 24)).alloc (.cells #[.int .i64 3, .int .u64 0, .int .i64 0, .int .i64 0, .string { data := #[] }, .int .i64 0] 24) = w1 at *
    have HP := Lib.hid hP
    have HQ := Lib.hid hQ
    have HB := Lib.hid hB
    obtain ⟨c0, c1, c2, c3, c4, c5⟩ := hP.cells
    obtain ⟨d0, d1, d2, d3, d4, d5⟩ := hQ.cells
    obtain ⟨y0, y1, y2, y3, y4, y5⟩ := hQ.frees
    clear hP hQ hB
    obtain ⟨G0, hG0⟩ : ∃ G0, G0 = ((m : Int) != 0) := ⟨_, rfl⟩
    have qG0 := Lib.hid hG0.symm
    obtain ⟨F, hF⟩ : ∃ F, F = decide ((m : Int) < 128) := ⟨_, rfl⟩
    have qF := Lib.hid hF.symm
    have HD : Hid (((G0 && F) && decide ((⟨3, m, lo, hi, nm, nu⟩ : Prd) = ⟨3, m, 0, 0, [], 0⟩)) = decide (pok ⟨3, m, lo, hi, nm, nu⟩)) := Lib.hid (by rw [hG0, hF, Bool.eq_iff_iff]; unfold pok; simp only [Bool.and_eq_true, decide_eq_true_eq, Prd.mk.injEq, bne_iff_ne, ne_eq, Int.natCast_eq_zero]; constructor <;> intro h <;> first | (obtain ⟨h1, h2⟩ := h; simp at h1 h2; simp [h1, h2]; omega) | (simp at h; simp [h]; omega) | (simp at h; simp [h]) | simp_all | (simp_all; omega))
    clear hG0
    clear hF
    cases G0
    · skip
      go_wp2_with fail
      have rG0 := qG0.out
      have rF := qF.out
      go_region
      all_goals
        go_wp2_with fail
        go_meet
        first | exact ⟨false, ⟨3, m, 0, 0, [], 0⟩, rfl, Whole.drew (Whole.far HP.out (a := ⟨w.heap.size + 1, 1, none⟩) (by show w.heap.size ≠ w.heap.size + 1; omega) _), Whole.drew (PRow.set1 HQ.out (m : Int)), Below.drew (Below.setCell HB.out (p := ⟨w.heap.size + 1, 1, none⟩) (by show w.heap.size ≤ w.heap.size + 1; omega) _), HD.out⟩
    · skip
      go_wp2_with fail
      have rG0 := qG0.out
      have rF := qF.out
      go_region
      all_goals
        go_wp2_with fail
        go_meet
        first | exact ⟨F, ⟨3, m, 0, 0, [], 0⟩, rfl, Whole.drew (Whole.far HP.out (a := ⟨w.heap.size + 1, 1, none⟩) (by show w.heap.size ≠ w.heap.size + 1; omega) _), Whole.drew (PRow.set1 HQ.out (m : Int)), Below.drew (Below.setCell HB.out (p := ⟨w.heap.size + 1, 1, none⟩) (by show w.heap.size ≤ w.heap.size + 1; omega) _), HD.out⟩
  case rest =>
    obtain ⟨b, ⟨k', m', lo', hi', nm', nu'⟩, rfl, hP, hQ, hB, hD⟩ := hcut
    clear hb1 hp1 hq1
    have HD := Lib.hid hD
    clear hD
    simp only at hP hQ
    obtain ⟨c0, c1, c2, c3, c4, c5⟩ := hP.cells
    obtain ⟨d0, d1, d2, d3, d4, d5⟩ := hQ.cells
    have HB := Lib.hid hB
    clear hP hQ hB
    have hq := fun W => run_eql_prd 3 (m : Int) lo hi nu k' (m' : Int) lo' hi' nu' nm nm' W
    obtain ⟨E, hE⟩ : ∃ E, E = decide (3 = k' ∧ (m : Int) = m' ∧ lo = lo' ∧ hi = hi' ∧ nm = nm' ∧ nu = nu') := ⟨_, rfl⟩
    rw [← hE] at hq
    have HE : Hid (decide ((⟨3, m, lo, hi, nm, nu⟩ : Prd) = ⟨k', m', lo', hi', nm', nu'⟩) = E) := Lib.hid (by rw [hE]; simp only [Prd.mk.injEq, Int.natCast_inj])
    clear hE
    cases b
    · go_wp2
      go_ret
      exact ⟨by rw [← HD.out]; rfl, HB.out⟩
    · go_wp2
      go_ret
      exact ⟨by rw [← HD.out, Bool.true_and, HE.out]; rfl, HB.out⟩
end Go.Proofs.Ytodmfippjcfbbaa
namespace Go.Proofs.Ytodmfippjcfbbaa
open Go Go.RowKit Sh Leaf

set_option linter.unusedVariables false in
set_option maxRecDepth 100000 in
set_option maxHeartbeats 4000000 in
theorem rvalid4 (m : Nat) (lo hi : Int) (nm : List B8) (nu : Int) (hm : m < 18446744073709551616) (hn : nm.length ≤ 9223372036854775807) (w : World) :
    Calls Try.prog 22 #[pv ⟨4, m, lo, hi, nm, nu⟩] w fun e w' => e = .returned (.bool (decide (pok ⟨4, m, lo, hi, nm, nu⟩))) ∧ Below w.heap.size w w' := by
  unfold pv
  simp only
  have hb1 : ∀ o o1, Below w.heap.size w ((w.alloc o).alloc o1) := fun o o1 => ((Below.refl w.heap.size w).alloc (Nat.le_refl _) _).alloc (by simp) _
  have hp1 : ∀ o o1, o = .cells (prow 4 (m : Int) lo hi nm nu) 24 → PRow ((w.alloc o).alloc o1) w.heap.size 4 m lo hi nm nu := fun o o1 h => by subst h; exact (Whole.here w _ _).alloc _
  have hq1 : ∀ o o1, o1 = .cells #[.int .i64 4, .int .u64 0, .int .i64 0, .int .i64 0, .string { data := #[] }, .int .i64 0] 24 → PRow ((w.alloc o).alloc o1) (w.heap.size + 1) 4 0 0 0 [] 0 := fun o o1 h => by subst h; exact PRow.of_zero (Whole.at_ _ _ _ _ (by simp))
  go_enter Try.func22, Try.ntmps22
  go_upto_block 0 with fail
  go_cut [4] (fun v wx => RvR ⟨4, m, lo, hi, nm, nu⟩ w v wx)
  case first =>
    have hP := hp1 _ (.cells #[.int .i64 4, .int .u64 0, .int .i64 0, .int .i64 0, .string { data := #[] }, .int .i64 0] 24) rfl
    have hQ := hq1 (.cells (prow 4 (m : Int) lo hi nm nu) 24) _ rfl
    have hB := hb1 (.cells (prow 4 (m : Int) lo hi nm nu) 24) (.cells #[.int .i64 4, .int .u64 0, .int .i64 0, .int .i64 0, .string { data := #[] }, .int .i64 0] 24)
    clear hb1 hp1 hq1
    generalize (w.alloc (.cells (prow 4 (m : Int) lo hi nm nu) 24)).alloc (.cells #[.int .i64 4, .int .u64 0, .int .i64 0, .int .i64 0, .string { data := #[] }, .int .i64 0] 24) = w1 at *
    have HP := Lib.hid hP
    have HQ := Lib.hid hQ
    have HB := Lib.hid hB
    obtain ⟨c0, c1, c2, c3, c4, c5⟩ := hP.cells
    obtain ⟨d0, d1, d2, d3, d4, d5⟩ := hQ.cells
    obtain ⟨y0, y1, y2, y3, y4, y5⟩ := hQ.frees
    clear hP hQ hB
    obtain ⟨G0, hG0⟩ : ∃ G0, G0 = decide (0 ≤ lo) := ⟨_, rfl⟩
    have qG0 := Lib.hid hG0.symm
    obtain ⟨G1, hG1⟩ : ∃ G1, G1 = decide (lo ≤ hi) := ⟨_, rfl⟩
    have qG1 := Lib.hid hG1.symm
    obtain ⟨F, hF⟩ : ∃ F, F = decide (hi ≤ 67108864) := ⟨_, rfl⟩
    have qF := Lib.hid hF.symm
    have HD : Hid (((G0 && G1 && F) && decide ((⟨4, m, lo, hi, nm, nu⟩ : Prd) = ⟨4, 0, lo, hi, [], 0⟩)) = decide (pok ⟨4, m, lo, hi, nm, nu⟩)) := Lib.hid (by rw [hG0, hG1, hF, Bool.eq_iff_iff]; unfold pok; simp only [Bool.and_eq_true, decide_eq_true_eq, Prd.mk.injEq]; constructor <;> intro h <;> first | (obtain ⟨h1, h2⟩ := h; simp at h1 h2; simp [h1, h2]; omega) | (simp at h; simp [h]; omega) | (simp at h; simp [h]) | simp_all | (simp_all; omega))
    clear hG0
    clear hG1
    clear hF
    cases G0
    · skip
      go_wp2_with fail
      have rG0 := qG0.out
      have rG1 := qG1.out
      have rF := qF.out
      go_region
      all_goals
        go_wp2_with fail
        go_meet
        first | exact ⟨false, ⟨4, 0, lo, hi, [], 0⟩, rfl, Whole.drew (Whole.far (Whole.far HP.out (a := ⟨w.heap.size + 1, 2, none⟩) (by show w.heap.size ≠ w.heap.size + 1; omega) _) (a := ⟨w.heap.size + 1, 3, none⟩) (by show w.heap.size ≠ w.heap.size + 1; omega) _), Whole.drew (PRow.set3 (PRow.set2 HQ.out lo) hi), Below.drew (Below.setCell (Below.setCell HB.out (p := ⟨w.heap.size + 1, 2, none⟩) (by show w.heap.size ≤ w.heap.size + 1; omega) _) (p := ⟨w.heap.size + 1, 3, none⟩) (by show w.heap.size ≤ w.heap.size + 1; omega) _), HD.out⟩ | exact ⟨false, ⟨4, 0, lo, hi, [], 0⟩, rfl, Whole.drew (Whole.far (Whole.far HP.out (a := ⟨w.heap.size + 1, 3, none⟩) (by show w.heap.size ≠ w.heap.size + 1; omega) _) (a := ⟨w.heap.size + 1, 2, none⟩) (by show w.heap.size ≠ w.heap.size + 1; omega) _), Whole.drew (PRow.set2 (PRow.set3 HQ.out hi) lo), Below.drew (Below.setCell (Below.setCell HB.out (p := ⟨w.heap.size + 1, 3, none⟩) (by show w.heap.size ≤ w.heap.size + 1; omega) _) (p := ⟨w.heap.size + 1, 2, none⟩) (by show w.heap.size ≤ w.heap.size + 1; omega) _), HD.out⟩
    · skip
      cases G1
      · skip
        go_wp2_with fail
        have rG0 := qG0.out
        have rG1 := qG1.out
        have rF := qF.out
        go_region
        all_goals
          go_wp2_with fail
          go_meet
          first | exact ⟨false, ⟨4, 0, lo, hi, [], 0⟩, rfl, Whole.drew (Whole.far (Whole.far HP.out (a := ⟨w.heap.size + 1, 2, none⟩) (by show w.heap.size ≠ w.heap.size + 1; omega) _) (a := ⟨w.heap.size + 1, 3, none⟩) (by show w.heap.size ≠ w.heap.size + 1; omega) _), Whole.drew (PRow.set3 (PRow.set2 HQ.out lo) hi), Below.drew (Below.setCell (Below.setCell HB.out (p := ⟨w.heap.size + 1, 2, none⟩) (by show w.heap.size ≤ w.heap.size + 1; omega) _) (p := ⟨w.heap.size + 1, 3, none⟩) (by show w.heap.size ≤ w.heap.size + 1; omega) _), HD.out⟩ | exact ⟨false, ⟨4, 0, lo, hi, [], 0⟩, rfl, Whole.drew (Whole.far (Whole.far HP.out (a := ⟨w.heap.size + 1, 3, none⟩) (by show w.heap.size ≠ w.heap.size + 1; omega) _) (a := ⟨w.heap.size + 1, 2, none⟩) (by show w.heap.size ≠ w.heap.size + 1; omega) _), Whole.drew (PRow.set2 (PRow.set3 HQ.out hi) lo), Below.drew (Below.setCell (Below.setCell HB.out (p := ⟨w.heap.size + 1, 3, none⟩) (by show w.heap.size ≤ w.heap.size + 1; omega) _) (p := ⟨w.heap.size + 1, 2, none⟩) (by show w.heap.size ≤ w.heap.size + 1; omega) _), HD.out⟩
      · skip
        go_wp2_with fail
        have rG0 := qG0.out
        have rG1 := qG1.out
        have rF := qF.out
        go_region
        all_goals
          go_wp2_with fail
          go_meet
          first | exact ⟨F, ⟨4, 0, lo, hi, [], 0⟩, rfl, Whole.drew (Whole.far (Whole.far HP.out (a := ⟨w.heap.size + 1, 2, none⟩) (by show w.heap.size ≠ w.heap.size + 1; omega) _) (a := ⟨w.heap.size + 1, 3, none⟩) (by show w.heap.size ≠ w.heap.size + 1; omega) _), Whole.drew (PRow.set3 (PRow.set2 HQ.out lo) hi), Below.drew (Below.setCell (Below.setCell HB.out (p := ⟨w.heap.size + 1, 2, none⟩) (by show w.heap.size ≤ w.heap.size + 1; omega) _) (p := ⟨w.heap.size + 1, 3, none⟩) (by show w.heap.size ≤ w.heap.size + 1; omega) _), HD.out⟩ | exact ⟨F, ⟨4, 0, lo, hi, [], 0⟩, rfl, Whole.drew (Whole.far (Whole.far HP.out (a := ⟨w.heap.size + 1, 3, none⟩) (by show w.heap.size ≠ w.heap.size + 1; omega) _) (a := ⟨w.heap.size + 1, 2, none⟩) (by show w.heap.size ≠ w.heap.size + 1; omega) _), Whole.drew (PRow.set2 (PRow.set3 HQ.out hi) lo), Below.drew (Below.setCell (Below.setCell HB.out (p := ⟨w.heap.size + 1, 3, none⟩) (by show w.heap.size ≤ w.heap.size + 1; omega) _) (p := ⟨w.heap.size + 1, 2, none⟩) (by show w.heap.size ≤ w.heap.size + 1; omega) _), HD.out⟩
  case rest =>
    obtain ⟨b, ⟨k', m', lo', hi', nm', nu'⟩, rfl, hP, hQ, hB, hD⟩ := hcut
    clear hb1 hp1 hq1
    have HD := Lib.hid hD
    clear hD
    simp only at hP hQ
    obtain ⟨c0, c1, c2, c3, c4, c5⟩ := hP.cells
    obtain ⟨d0, d1, d2, d3, d4, d5⟩ := hQ.cells
    have HB := Lib.hid hB
    clear hP hQ hB
    have hq := fun W => run_eql_prd 4 (m : Int) lo hi nu k' (m' : Int) lo' hi' nu' nm nm' W
    obtain ⟨E, hE⟩ : ∃ E, E = decide (4 = k' ∧ (m : Int) = m' ∧ lo = lo' ∧ hi = hi' ∧ nm = nm' ∧ nu = nu') := ⟨_, rfl⟩
    rw [← hE] at hq
    have HE : Hid (decide ((⟨4, m, lo, hi, nm, nu⟩ : Prd) = ⟨k', m', lo', hi', nm', nu'⟩) = E) := Lib.hid (by rw [hE]; simp only [Prd.mk.injEq, Int.natCast_inj])
    clear hE
    cases b
    · go_wp2
      go_ret
      exact ⟨by rw [← HD.out]; rfl, HB.out⟩
    · go_wp2
      go_ret
      exact ⟨by rw [← HD.out, Bool.true_and, HE.out]; rfl, HB.out⟩
end Go.Proofs.Ytodmfippjcfbbaa
namespace Go.Proofs.Ytodmfippjcfbbaa
open Go Go.RowKit Sh Leaf

set_option linter.unusedVariables false in
set_option maxRecDepth 100000 in
set_option maxHeartbeats 4000000 in
theorem rvalid5 (m : Nat) (lo hi : Int) (nm : List B8) (nu : Int) (hm : m < 18446744073709551616) (hn : nm.length ≤ 9223372036854775807) (w : World) :
    Calls Try.prog 22 #[pv ⟨5, m, lo, hi, nm, nu⟩] w fun e w' => e = .returned (.bool (decide (pok ⟨5, m, lo, hi, nm, nu⟩))) ∧ Below w.heap.size w w' := by
  unfold pv
  simp only
  have hb1 : ∀ o o1, Below w.heap.size w ((w.alloc o).alloc o1) := fun o o1 => ((Below.refl w.heap.size w).alloc (Nat.le_refl _) _).alloc (by simp) _
  have hp1 : ∀ o o1, o = .cells (prow 5 (m : Int) lo hi nm nu) 24 → PRow ((w.alloc o).alloc o1) w.heap.size 5 m lo hi nm nu := fun o o1 h => by subst h; exact (Whole.here w _ _).alloc _
  have hq1 : ∀ o o1, o1 = .cells #[.int .i64 5, .int .u64 0, .int .i64 0, .int .i64 0, .string { data := #[] }, .int .i64 0] 24 → PRow ((w.alloc o).alloc o1) (w.heap.size + 1) 5 0 0 0 [] 0 := fun o o1 h => by subst h; exact PRow.of_zero (Whole.at_ _ _ _ _ (by simp))
  go_enter Try.func22, Try.ntmps22
  go_upto_block 0 with fail
  go_cut [4] (fun v wx => RvR ⟨5, m, lo, hi, nm, nu⟩ w v wx)
  case first =>
    have hP := hp1 _ (.cells #[.int .i64 5, .int .u64 0, .int .i64 0, .int .i64 0, .string { data := #[] }, .int .i64 0] 24) rfl
    have hQ := hq1 (.cells (prow 5 (m : Int) lo hi nm nu) 24) _ rfl
    have hB := hb1 (.cells (prow 5 (m : Int) lo hi nm nu) 24) (.cells #[.int .i64 5, .int .u64 0, .int .i64 0, .int .i64 0, .string { data := #[] }, .int .i64 0] 24)
    clear hb1 hp1 hq1
    generalize (w.alloc (.cells (prow 5 (m : Int) lo hi nm nu) 24)).alloc (.cells #[.int .i64 5, .int .u64 0, .int .i64 0, .int .i64 0, .string { data := #[] }, .int .i64 0] 24) = w1 at *
    have HP := Lib.hid hP
    have HQ := Lib.hid hQ
    have HB := Lib.hid hB
    obtain ⟨c0, c1, c2, c3, c4, c5⟩ := hP.cells
    obtain ⟨d0, d1, d2, d3, d4, d5⟩ := hQ.cells
    obtain ⟨y0, y1, y2, y3, y4, y5⟩ := hQ.frees
    clear hP hQ hB
    obtain ⟨G0, hG0⟩ : ∃ G0, G0 = decide (0 ≤ lo) := ⟨_, rfl⟩
    have qG0 := Lib.hid hG0.symm
    obtain ⟨G1, hG1⟩ : ∃ G1, G1 = decide (lo < 1440) := ⟨_, rfl⟩
    have qG1 := Lib.hid hG1.symm
    obtain ⟨G2, hG2⟩ : ∃ G2, G2 = decide (0 ≤ hi) := ⟨_, rfl⟩
    have qG2 := Lib.hid hG2.symm
    obtain ⟨F, hF⟩ : ∃ F, F = decide (hi < 1440) := ⟨_, rfl⟩
    have qF := Lib.hid hF.symm
    have HD : Hid (((G0 && G1 && G2 && F) && decide ((⟨5, m, lo, hi, nm, nu⟩ : Prd) = ⟨5, 0, lo, hi, [], 0⟩)) = decide (pok ⟨5, m, lo, hi, nm, nu⟩)) := Lib.hid (by rw [hG0, hG1, hG2, hF, Bool.eq_iff_iff]; unfold pok; simp only [Bool.and_eq_true, decide_eq_true_eq, Prd.mk.injEq]; constructor <;> intro h <;> first | (obtain ⟨h1, h2⟩ := h; simp at h1 h2; simp [h1, h2]; omega) | (simp at h; simp [h]; omega) | (simp at h; simp [h]) | simp_all | (simp_all; omega))
    clear hG0
    clear hG1
    clear hG2
    clear hF
    cases G0
    · skip
      go_wp2_with fail
      have rG0 := qG0.out
      have rG1 := qG1.out
      have rG2 := qG2.out
      have rF := qF.out
      go_region
      all_goals
        go_wp2_with fail
        go_meet
        first | exact ⟨false, ⟨5, 0, lo, hi, [], 0⟩, rfl, Whole.drew (Whole.far (Whole.far HP.out (a := ⟨w.heap.size + 1, 2, none⟩) (by show w.heap.size ≠ w.heap.size + 1; omega) _) (a := ⟨w.heap.size + 1, 3, none⟩) (by show w.heap.size ≠ w.heap.size + 1; omega) _), Whole.drew (PRow.set3 (PRow.set2 HQ.out lo) hi), Below.drew (Below.setCell (Below.setCell HB.out (p := ⟨w.heap.size + 1, 2, none⟩) (by show w.heap.size ≤ w.heap.size + 1; omega) _) (p := ⟨w.heap.size + 1, 3, none⟩) (by show w.heap.size ≤ w.heap.size + 1; omega) _), HD.out⟩ | exact ⟨false, ⟨5, 0, lo, hi, [], 0⟩, rfl, Whole.drew (Whole.far (Whole.far HP.out (a := ⟨w.heap.size + 1, 3, none⟩) (by show w.heap.size ≠ w.heap.size + 1; omega) _) (a := ⟨w.heap.size + 1, 2, none⟩) (by show w.heap.size ≠ w.heap.size + 1; omega) _), Whole.drew (PRow.set2 (PRow.set3 HQ.out hi) lo), Below.drew (Below.setCell (Below.setCell HB.out (p := ⟨w.heap.size + 1, 3, none⟩) (by show w.heap.size ≤ w.heap.size + 1; omega) _) (p := ⟨w.heap.size + 1, 2, none⟩) (by show w.heap.size ≤ w.heap.size + 1; omega) _), HD.out⟩
    · skip
      cases G1
      · skip
        go_wp2_with fail
        have rG0 := qG0.out
        have rG1 := qG1.out
        have rG2 := qG2.out
        have rF := qF.out
        go_region
        all_goals
          go_wp2_with fail
          go_meet
          first | exact ⟨false, ⟨5, 0, lo, hi, [], 0⟩, rfl, Whole.drew (Whole.far (Whole.far HP.out (a := ⟨w.heap.size + 1, 2, none⟩) (by show w.heap.size ≠ w.heap.size + 1; omega) _) (a := ⟨w.heap.size + 1, 3, none⟩) (by show w.heap.size ≠ w.heap.size + 1; omega) _), Whole.drew (PRow.set3 (PRow.set2 HQ.out lo) hi), Below.drew (Below.setCell (Below.setCell HB.out (p := ⟨w.heap.size + 1, 2, none⟩) (by show w.heap.size ≤ w.heap.size + 1; omega) _) (p := ⟨w.heap.size + 1, 3, none⟩) (by show w.heap.size ≤ w.heap.size + 1; omega) _), HD.out⟩ | exact ⟨false, ⟨5, 0, lo, hi, [], 0⟩, rfl, Whole.drew (Whole.far (Whole.far HP.out (a := ⟨w.heap.size + 1, 3, none⟩) (by show w.heap.size ≠ w.heap.size + 1; omega) _) (a := ⟨w.heap.size + 1, 2, none⟩) (by show w.heap.size ≠ w.heap.size + 1; omega) _), Whole.drew (PRow.set2 (PRow.set3 HQ.out hi) lo), Below.drew (Below.setCell (Below.setCell HB.out (p := ⟨w.heap.size + 1, 3, none⟩) (by show w.heap.size ≤ w.heap.size + 1; omega) _) (p := ⟨w.heap.size + 1, 2, none⟩) (by show w.heap.size ≤ w.heap.size + 1; omega) _), HD.out⟩
      · skip
        cases G2
        · skip
          go_wp2_with fail
          have rG0 := qG0.out
          have rG1 := qG1.out
          have rG2 := qG2.out
          have rF := qF.out
          go_region
          all_goals
            go_wp2_with fail
            go_meet
            first | exact ⟨false, ⟨5, 0, lo, hi, [], 0⟩, rfl, Whole.drew (Whole.far (Whole.far HP.out (a := ⟨w.heap.size + 1, 2, none⟩) (by show w.heap.size ≠ w.heap.size + 1; omega) _) (a := ⟨w.heap.size + 1, 3, none⟩) (by show w.heap.size ≠ w.heap.size + 1; omega) _), Whole.drew (PRow.set3 (PRow.set2 HQ.out lo) hi), Below.drew (Below.setCell (Below.setCell HB.out (p := ⟨w.heap.size + 1, 2, none⟩) (by show w.heap.size ≤ w.heap.size + 1; omega) _) (p := ⟨w.heap.size + 1, 3, none⟩) (by show w.heap.size ≤ w.heap.size + 1; omega) _), HD.out⟩ | exact ⟨false, ⟨5, 0, lo, hi, [], 0⟩, rfl, Whole.drew (Whole.far (Whole.far HP.out (a := ⟨w.heap.size + 1, 3, none⟩) (by show w.heap.size ≠ w.heap.size + 1; omega) _) (a := ⟨w.heap.size + 1, 2, none⟩) (by show w.heap.size ≠ w.heap.size + 1; omega) _), Whole.drew (PRow.set2 (PRow.set3 HQ.out hi) lo), Below.drew (Below.setCell (Below.setCell HB.out (p := ⟨w.heap.size + 1, 3, none⟩) (by show w.heap.size ≤ w.heap.size + 1; omega) _) (p := ⟨w.heap.size + 1, 2, none⟩) (by show w.heap.size ≤ w.heap.size + 1; omega) _), HD.out⟩
        · skip
          go_wp2_with fail
          have rG0 := qG0.out
          have rG1 := qG1.out
          have rG2 := qG2.out
          have rF := qF.out
          go_region
          all_goals
            go_wp2_with fail
            go_meet
            first | exact ⟨F, ⟨5, 0, lo, hi, [], 0⟩, rfl, Whole.drew (Whole.far (Whole.far HP.out (a := ⟨w.heap.size + 1, 2, none⟩) (by show w.heap.size ≠ w.heap.size + 1; omega) _) (a := ⟨w.heap.size + 1, 3, none⟩) (by show w.heap.size ≠ w.heap.size + 1; omega) _), Whole.drew (PRow.set3 (PRow.set2 HQ.out lo) hi), Below.drew (Below.setCell (Below.setCell HB.out (p := ⟨w.heap.size + 1, 2, none⟩) (by show w.heap.size ≤ w.heap.size + 1; omega) _) (p := ⟨w.heap.size + 1, 3, none⟩) (by show w.heap.size ≤ w.heap.size + 1; omega) _), HD.out⟩ | exact ⟨F, ⟨5, 0, lo, hi, [], 0⟩, rfl, Whole.drew (Whole.far (Whole.far HP.out (a := ⟨w.heap.size + 1, 3, none⟩) (by show w.heap.size ≠ w.heap.size + 1; omega) _) (a := ⟨w.heap.size + 1, 2, none⟩) (by show w.heap.size ≠ w.heap.size + 1; omega) _), Whole.drew (PRow.set2 (PRow.set3 HQ.out hi) lo), Below.drew (Below.setCell (Below.setCell HB.out (p := ⟨w.heap.size + 1, 3, none⟩) (by show w.heap.size ≤ w.heap.size + 1; omega) _) (p := ⟨w.heap.size + 1, 2, none⟩) (by show w.heap.size ≤ w.heap.size + 1; omega) _), HD.out⟩
  case rest =>
    obtain ⟨b, ⟨k', m', lo', hi', nm', nu'⟩, rfl, hP, hQ, hB, hD⟩ := hcut
    clear hb1 hp1 hq1
    have HD := Lib.hid hD
    clear hD
    simp only at hP hQ
    obtain ⟨c0, c1, c2, c3, c4, c5⟩ := hP.cells
    obtain ⟨d0, d1, d2, d3, d4, d5⟩ := hQ.cells
    have HB := Lib.hid hB
    clear hP hQ hB
    have hq := fun W => run_eql_prd 5 (m : Int) lo hi nu k' (m' : Int) lo' hi' nu' nm nm' W
    obtain ⟨E, hE⟩ : ∃ E, E = decide (5 = k' ∧ (m : Int) = m' ∧ lo = lo' ∧ hi = hi' ∧ nm = nm' ∧ nu = nu') := ⟨_, rfl⟩
    rw [← hE] at hq
    have HE : Hid (decide ((⟨5, m, lo, hi, nm, nu⟩ : Prd) = ⟨k', m', lo', hi', nm', nu'⟩) = E) := Lib.hid (by rw [hE]; simp only [Prd.mk.injEq, Int.natCast_inj])
    clear hE
    cases b
    · go_wp2
      go_ret
      exact ⟨by rw [← HD.out]; rfl, HB.out⟩
    · go_wp2
      go_ret
      exact ⟨by rw [← HD.out, Bool.true_and, HE.out]; rfl, HB.out⟩
end Go.Proofs.Ytodmfippjcfbbaa
namespace Go.Proofs.Ytodmfippjcfbbaa
open Go Go.RowKit Sh Leaf

set_option linter.unusedVariables false in
set_option maxRecDepth 100000 in
set_option maxHeartbeats 4000000 in
theorem rvalid6 (m : Nat) (lo hi : Int) (nm : List B8) (nu : Int) (hm : m < 18446744073709551616) (hn : nm.length ≤ 9223372036854775807) (w : World) :
    Calls Try.prog 22 #[pv ⟨6, m, lo, hi, nm, nu⟩] w fun e w' => e = .returned (.bool (decide (pok ⟨6, m, lo, hi, nm, nu⟩))) ∧ Below w.heap.size w w' := by
  unfold pv
  simp only
  have hb1 : ∀ o o1, Below w.heap.size w ((w.alloc o).alloc o1) := fun o o1 => ((Below.refl w.heap.size w).alloc (Nat.le_refl _) _).alloc (by simp) _
  have hp1 : ∀ o o1, o = .cells (prow 6 (m : Int) lo hi nm nu) 24 → PRow ((w.alloc o).alloc o1) w.heap.size 6 m lo hi nm nu := fun o o1 h => by subst h; exact (Whole.here w _ _).alloc _
  have hq1 : ∀ o o1, o1 = .cells #[.int .i64 6, .int .u64 0, .int .i64 0, .int .i64 0, .string { data := #[] }, .int .i64 0] 24 → PRow ((w.alloc o).alloc o1) (w.heap.size + 1) 6 0 0 0 [] 0 := fun o o1 h => by subst h; exact PRow.of_zero (Whole.at_ _ _ _ _ (by simp))
  go_enter Try.func22, Try.ntmps22
  go_upto_block 0 with fail
  go_cut [4] (fun v wx => RvR ⟨6, m, lo, hi, nm, nu⟩ w v wx)
  case first =>
    have hP := hp1 _ (.cells #[.int .i64 6, .int .u64 0, .int .i64 0, .int .i64 0, .string { data := #[] }, .int .i64 0] 24) rfl
    have hQ := hq1 (.cells (prow 6 (m : Int) lo hi nm nu) 24) _ rfl
    have hB := hb1 (.cells (prow 6 (m : Int) lo hi nm nu) 24) (.cells #[.int .i64 6, .int .u64 0, .int .i64 0, .int .i64 0, .string { data := #[] }, .int .i64 0] 24)
    clear hb1 hp1 hq1
    generalize (w.alloc (.cells (prow 6 (m : Int) lo hi nm nu) 24)).alloc (.cells #[.int .i64 6, .int .u64 0, .int .i64 0, .int .i64 0, .string { data := #[] }, .int .i64 0] 24) = w1 at *
    have HP := Lib.hid hP
    have HQ := Lib.hid hQ
    have HB := Lib.hid hB
    obtain ⟨c0, c1, c2, c3, c4, c5⟩ := hP.cells
    obtain ⟨d0, d1, d2, d3, d4, d5⟩ := hQ.cells
    obtain ⟨y0, y1, y2, y3, y4, y5⟩ := hQ.frees
    clear hP hQ hB
    have hnm := fun W => name_ok nm W hn
    have HD : Hid ((decide (nmok nm) && decide ((⟨6, m, lo, hi, nm, nu⟩ : Prd) = ⟨6, 0, 0, 0, nm, 0⟩)) = decide (pok ⟨6, m, lo, hi, nm, nu⟩)) := Lib.hid (by rw [Bool.eq_iff_iff]; unfold pok; simp [and_comm, and_assoc, and_left_comm])
    generalize decide (nmok nm) = N at *
    go_wp2_with fail
    go_region_with ((go_at_call 36; refine (hnm _).mono ?_; rintro e wz ⟨rfl, rfl⟩))
    all_goals
      go_wp2_with fail
      go_meet
      first | exact ⟨N, ⟨6, 0, 0, 0, nm, 0⟩, rfl, Whole.drew (Whole.far HP.out (a := ⟨w.heap.size + 1, 4, none⟩) (by show w.heap.size ≠ w.heap.size + 1; omega) _), Whole.drew (PRow.set4 HQ.out nm), Below.drew (Below.setCell HB.out (p := ⟨w.heap.size + 1, 4, none⟩) (by show w.heap.size ≤ w.heap.size + 1; omega) _), HD.out⟩
  case rest =>
    obtain ⟨b, ⟨k', m', lo', hi', nm', nu'⟩, rfl, hP, hQ, hB, hD⟩ := hcut
    clear hb1 hp1 hq1
    have HD := Lib.hid hD
    clear hD
    simp only at hP hQ
    obtain ⟨c0, c1, c2, c3, c4, c5⟩ := hP.cells
    obtain ⟨d0, d1, d2, d3, d4, d5⟩ := hQ.cells
    have HB := Lib.hid hB
    clear hP hQ hB
    have hq := fun W => run_eql_prd 6 (m : Int) lo hi nu k' (m' : Int) lo' hi' nu' nm nm' W
    obtain ⟨E, hE⟩ : ∃ E, E = decide (6 = k' ∧ (m : Int) = m' ∧ lo = lo' ∧ hi = hi' ∧ nm = nm' ∧ nu = nu') := ⟨_, rfl⟩
    rw [← hE] at hq
    have HE : Hid (decide ((⟨6, m, lo, hi, nm, nu⟩ : Prd) = ⟨k', m', lo', hi', nm', nu'⟩) = E) := Lib.hid (by rw [hE]; simp only [Prd.mk.injEq, Int.natCast_inj])
    clear hE
    cases b
    · go_wp2
      go_ret
      exact ⟨by rw [← HD.out]; rfl, HB.out⟩
    · go_wp2
      go_ret
      exact ⟨by rw [← HD.out, Bool.true_and, HE.out]; rfl, HB.out⟩
end Go.Proofs.Ytodmfippjcfbbaa
namespace Go.Proofs.Ytodmfippjcfbbaa
open Go Go.RowKit Sh Leaf

set_option linter.unusedVariables false in
set_option maxRecDepth 100000 in
set_option maxHeartbeats 4000000 in
theorem rvalid7 (m : Nat) (lo hi : Int) (nm : List B8) (nu : Int) (hm : m < 18446744073709551616) (hn : nm.length ≤ 9223372036854775807) (w : World) :
    Calls Try.prog 22 #[pv ⟨7, m, lo, hi, nm, nu⟩] w fun e w' => e = .returned (.bool (decide (pok ⟨7, m, lo, hi, nm, nu⟩))) ∧ Below w.heap.size w w' := by
  unfold pv
  simp only
  have hb1 : ∀ o o1, Below w.heap.size w ((w.alloc o).alloc o1) := fun o o1 => ((Below.refl w.heap.size w).alloc (Nat.le_refl _) _).alloc (by simp) _
  have hp1 : ∀ o o1, o = .cells (prow 7 (m : Int) lo hi nm nu) 24 → PRow ((w.alloc o).alloc o1) w.heap.size 7 m lo hi nm nu := fun o o1 h => by subst h; exact (Whole.here w _ _).alloc _
  have hq1 : ∀ o o1, o1 = .cells #[.int .i64 7, .int .u64 0, .int .i64 0, .int .i64 0, .string { data := #[] }, .int .i64 0] 24 → PRow ((w.alloc o).alloc o1) (w.heap.size + 1) 7 0 0 0 [] 0 := fun o o1 h => by subst h; exact PRow.of_zero (Whole.at_ _ _ _ _ (by simp))
  go_enter Try.func22, Try.ntmps22
  go_upto_block 0 with fail
  go_cut [4] (fun v wx => RvR ⟨7, m, lo, hi, nm, nu⟩ w v wx)
  case first =>
    have hP := hp1 _ (.cells #[.int .i64 7, .int .u64 0, .int .i64 0, .int .i64 0, .string { data := #[] }, .int .i64 0] 24) rfl
    have hQ := hq1 (.cells (prow 7 (m : Int) lo hi nm nu) 24) _ rfl
    have hB := hb1 (.cells (prow 7 (m : Int) lo hi nm nu) 24) (.cells #[.int .i64 7, .int .u64 0, .int .i64 0, .int .i64 0, .string { data := #[] }, .int .i64 0] 24)
    clear hb1 hp1 hq1
    generalize (w.alloc (.cells (prow 7 (m : Int) lo hi nm nu) 24)).alloc (.cells #[.int .i64 7, .int .u64 0, .int .i64 0, .int .i64 0, .string { data := #[] }, .int .i64 0] 24) = w1 at *
    have HP := Lib.hid hP
    have HQ := Lib.hid hQ
    have HB := Lib.hid hB
    obtain ⟨c0, c1, c2, c3, c4, c5⟩ := hP.cells
    obtain ⟨d0, d1, d2, d3, d4, d5⟩ := hQ.cells
    obtain ⟨y0, y1, y2, y3, y4, y5⟩ := hQ.frees
    clear hP hQ hB
    obtain ⟨G0, hG0⟩ : ∃ G0, G0 = decide (0 ≤ nu) := ⟨_, rfl⟩
    have qG0 := Lib.hid hG0.symm
    obtain ⟨F, hF⟩ : ∃ F, F = decide (nu ≤ 1000000) := ⟨_, rfl⟩
    have qF := Lib.hid hF.symm
    have HD : Hid (((G0 && F) && decide ((⟨7, m, lo, hi, nm, nu⟩ : Prd) = ⟨7, 0, 0, 0, [], nu⟩)) = decide (pok ⟨7, m, lo, hi, nm, nu⟩)) := Lib.hid (by rw [hG0, hF, Bool.eq_iff_iff]; unfold pok; simp only [Bool.and_eq_true, decide_eq_true_eq, Prd.mk.injEq]; constructor <;> intro h <;> first | (obtain ⟨h1, h2⟩ := h; simp at h1 h2; simp [h1, h2]; omega) | (simp at h; simp [h]; omega) | (simp at h; simp [h]) | simp_all | (simp_all; omega))
    clear hG0
    clear hF
    cases G0
    · skip
      go_wp2_with fail
      have rG0 := qG0.out
      have rF := qF.out
      go_region
      all_goals
        go_wp2_with fail
        go_meet
        first | exact ⟨false, ⟨7, 0, 0, 0, [], nu⟩, rfl, Whole.drew (Whole.far HP.out (a := ⟨w.heap.size + 1, 5, none⟩) (by show w.heap.size ≠ w.heap.size + 1; omega) _), Whole.drew (PRow.set5 HQ.out nu), Below.drew (Below.setCell HB.out (p := ⟨w.heap.size + 1, 5, none⟩) (by show w.heap.size ≤ w.heap.size + 1; omega) _), HD.out⟩
    · skip
      go_wp2_with fail
      have rG0 := qG0.out
      have rF := qF.out
      go_region
      all_goals
        go_wp2_with fail
        go_meet
        first | exact ⟨F, ⟨7, 0, 0, 0, [], nu⟩, rfl, Whole.drew (Whole.far HP.out (a := ⟨w.heap.size + 1, 5, none⟩) (by show w.heap.size ≠ w.heap.size + 1; omega) _), Whole.drew (PRow.set5 HQ.out nu), Below.drew (Below.setCell HB.out (p := ⟨w.heap.size + 1, 5, none⟩) (by show w.heap.size ≤ w.heap.size + 1; omega) _), HD.out⟩
  case rest =>
    obtain ⟨b, ⟨k', m', lo', hi', nm', nu'⟩, rfl, hP, hQ, hB, hD⟩ := hcut
    clear hb1 hp1 hq1
    have HD := Lib.hid hD
    clear hD
    simp only at hP hQ
    obtain ⟨c0, c1, c2, c3, c4, c5⟩ := hP.cells
    obtain ⟨d0, d1, d2, d3, d4, d5⟩ := hQ.cells
    have HB := Lib.hid hB
    clear hP hQ hB
    have hq := fun W => run_eql_prd 7 (m : Int) lo hi nu k' (m' : Int) lo' hi' nu' nm nm' W
    obtain ⟨E, hE⟩ : ∃ E, E = decide (7 = k' ∧ (m : Int) = m' ∧ lo = lo' ∧ hi = hi' ∧ nm = nm' ∧ nu = nu') := ⟨_, rfl⟩
    rw [← hE] at hq
    have HE : Hid (decide ((⟨7, m, lo, hi, nm, nu⟩ : Prd) = ⟨k', m', lo', hi', nm', nu'⟩) = E) := Lib.hid (by rw [hE]; simp only [Prd.mk.injEq, Int.natCast_inj])
    clear hE
    cases b
    · go_wp2
      go_ret
      exact ⟨by rw [← HD.out]; rfl, HB.out⟩
    · go_wp2
      go_ret
      exact ⟨by rw [← HD.out, Bool.true_and, HE.out]; rfl, HB.out⟩
end Go.Proofs.Ytodmfippjcfbbaa
namespace Go.Proofs.Ytodmfippjcfbbaa
open Go Go.RowKit Sh Leaf

theorem rvalid (p : Prd) (hm : p.mask < 18446744073709551616) (hn : p.name.length ≤ 9223372036854775807) (w : World) :
    Calls Try.prog 22 #[pv p] w fun e w' => e = .returned (.bool (decide (pok p))) ∧ Below w.heap.size w w' := by
  obtain ⟨k, m, lo, hi, nm, nu⟩ := p
  simp only at hm hn
  rcases (by omega : k = 1 ∨ k = 2 ∨ k = 3 ∨ k = 4 ∨ k = 5 ∨ k = 6 ∨ k = 7 ∨ (k < 1 ∨ 7 < k)) with rfl | rfl | rfl | rfl | rfl | rfl | rfl | hk
  · exact rvalid1 m lo hi nm nu hm hn w
  · exact rvalid2 m lo hi nm nu hm hn w
  · exact rvalid3 m lo hi nm nu hm hn w
  · exact rvalid4 m lo hi nm nu hm hn w
  · exact rvalid5 m lo hi nm nu hm hn w
  · exact rvalid6 m lo hi nm nu hm hn w
  · exact rvalid7 m lo hi nm nu hm hn w
  · exact rvalid0 k hk m lo hi nm nu hm hn w
end Go.Proofs.Ytodmfippjcfbbaa
namespace Go.Proofs.Ytodmfippjcfbbaa
open Go Go.RowKit Sh Leaf

set_option linter.unusedSimpArgs false in
set_option linter.unusedVariables false in
set_option maxRecDepth 100000 in
set_option maxHeartbeats 4000000 in
theorem rcvalid {w : World} {Q : Nat → Prop} {v : Value} {c : Cav} (h : CavV w Q v c) :
    Calls Try.prog 9 #[v] w fun e w' => e = .returned (.bool (decide (cvok c))) ∧ Below w.heap.size w w' := by
  obtain ⟨A1, c1, A2, c2, rfl, -, -, hm, hn, -, -⟩ := h
  obtain ⟨R, hR⟩ : ∃ R, R = decide (cvok c) := ⟨_, rfl⟩
  rw [← hR]
  obtain ⟨th, fi, pa, ti, bo⟩ := c
  dsimp only at hm hn hR ⊢
  obtain ⟨p, hp⟩ : ∃ p, p = w.alloc (.cells (cvrow th fi pa (.slice A1 ti.length c1) (.slice A2 bo.length c2)) 27) := ⟨_, rfl⟩
  have hr : CvRow p w.heap.size th fi pa (.slice A1 ti.length c1) (.slice A2 bo.length c2) := by rw [hp]; exact Whole.here _ _ _
  have hb : Below w.heap.size w p := by rw [hp]; exact (Below.refl _ _).alloc (Nat.le_refl _) _
  have hps : w.heap.size < p.heap.size := hr.lt
  obtain ⟨k0, k7, k8, k9⟩ := CvRow.cells hr
  have HB := Lib.hid hb
  have HR := Lib.hid hr
  have HC := Lib.hid hR
  obtain ⟨nt, hnt⟩ : ∃ n, n = ti.length := ⟨_, rfl⟩
  obtain ⟨nb, hnb⟩ : ∃ n, n = bo.length := ⟨_, rfl⟩
  rw [← hnt] at HR k8 hp
  rw [← hnb] at HR k9 hp
  try rw [← hnt]
  try rw [← hnb]
  have HL := Lib.hid (And.intro hnt hnb)
  clear hr hb hR hnt hnb
  cases th
  case true =>
    have kq := fun W => eql_zero fi W
    have kg := fun x y W => guard_prd x y fi #[.int .i64 0, .int .u64 0, .int .i64 0, .int .i64 0, .string { data := #[] }, .int .i64 0] W
    by_cases h0 : fi = .zero
    case neg =>
      have hRR : R = false := by
        rw [HC.out]
        refine decide_eq_false fun h => ?_
        obtain ⟨hnt, hnb⟩ := HL.out
        rcases cvok_mk.1 h with ⟨q1, q2, q3, q4, q5, q6, q7, q8⟩ | ⟨q1, q2, q3, q4, q5⟩
        · exact absurd q2 h0
        · exact absurd q1 (by simp)
      subst hRR
      rw [decide_eq_false h0] at kq
      have HBE := HB
      clear HC HL h0
      go_enter Try.func9, Try.ntmps9
      go_upto_region 1 with fail
      rw [← hp]
      clear hp
      go_wp2_with (with_reducible refine wpList_load_cprd rfl _ rfl rfl HR.out ?_)
      go_ret
      exact ⟨rfl, HBE.out⟩
    by_cases h1 : 0 ≤ pa
    case neg =>
      have hRR : R = false := by
        rw [HC.out]
        refine decide_eq_false fun h => ?_
        obtain ⟨hnt, hnb⟩ := HL.out
        rcases cvok_mk.1 h with ⟨q1, q2, q3, q4, q5, q6, q7, q8⟩ | ⟨q1, q2, q3, q4, q5⟩
        · exact absurd q3 h1
        · exact absurd q1 (by simp)
      subst hRR
      rw [decide_eq_true h0] at kq
      have x1 := h1
      have HBE := HB
      clear HC HL h0 h1
      go_enter Try.func9, Try.ntmps9
      go_upto_region 1 with fail
      rw [← hp]
      clear hp
      go_wp2_with (with_reducible refine wpList_load_cprd rfl _ rfl rfl HR.out ?_)
      go_ret
      exact ⟨rfl, HBE.out⟩
    by_cases h2 : pa ≤ 7
    case neg =>
      have hRR : R = false := by
        rw [HC.out]
        refine decide_eq_false fun h => ?_
        obtain ⟨hnt, hnb⟩ := HL.out
        rcases cvok_mk.1 h with ⟨q1, q2, q3, q4, q5, q6, q7, q8⟩ | ⟨q1, q2, q3, q4, q5⟩
        · exact absurd q4 h2
        · exact absurd q1 (by simp)
      subst hRR
      rw [decide_eq_true h0] at kq
      have x1 := h1
      have x2 := h2
      have HBE := HB
      clear HC HL h0 h1 h2
      go_enter Try.func9, Try.ntmps9
      go_upto_region 1 with fail
      rw [← hp]
      clear hp
      go_wp2_with (with_reducible refine wpList_load_cprd rfl _ rfl rfl HR.out ?_)
      go_ret
      exact ⟨rfl, HBE.out⟩
    by_cases h3 : 1 ≤ nt
    case neg =>
      have hRR : R = false := by
        rw [HC.out]
        refine decide_eq_false fun h => ?_
        obtain ⟨hnt, hnb⟩ := HL.out
        rcases cvok_mk.1 h with ⟨q1, q2, q3, q4, q5, q6, q7, q8⟩ | ⟨q1, q2, q3, q4, q5⟩
        · exact absurd (by omega) h3
        · exact absurd q1 (by simp)
      subst hRR
      rw [decide_eq_true h0] at kq
      have x1 := h1
      have x2 := h2
      have x3 : ¬ (1 : Int) ≤ (nt : Int) := by omega
      have HBE := HB
      clear HC HL h0 h1 h2 h3
      go_enter Try.func9, Try.ntmps9
      go_upto_region 1 with fail
      rw [← hp]
      clear hp
      go_wp2_with (with_reducible refine wpList_load_cprd rfl _ rfl rfl HR.out ?_)
      go_ret
      exact ⟨rfl, HBE.out⟩
    by_cases h4 : nt ≤ 1024
    case neg =>
      have hRR : R = false := by
        rw [HC.out]
        refine decide_eq_false fun h => ?_
        obtain ⟨hnt, hnb⟩ := HL.out
        rcases cvok_mk.1 h with ⟨q1, q2, q3, q4, q5, q6, q7, q8⟩ | ⟨q1, q2, q3, q4, q5⟩
        · exact absurd (by omega) h4
        · exact absurd q1 (by simp)
      subst hRR
      rw [decide_eq_true h0] at kq
      have x1 := h1
      have x2 := h2
      have x3 : (1 : Int) ≤ (nt : Int) := by omega
      have x4 : ¬ (nt : Int) ≤ 1024 := by omega
      have HBE := HB
      clear HC HL h0 h1 h2 h3 h4
      go_enter Try.func9, Try.ntmps9
      go_upto_region 1 with fail
      rw [← hp]
      clear hp
      go_wp2_with (with_reducible refine wpList_load_cprd rfl _ rfl rfl HR.out ?_)
      go_ret
      exact ⟨rfl, HBE.out⟩
    by_cases h5 : 1 ≤ nb
    case neg =>
      have hRR : R = false := by
        rw [HC.out]
        refine decide_eq_false fun h => ?_
        obtain ⟨hnt, hnb⟩ := HL.out
        rcases cvok_mk.1 h with ⟨q1, q2, q3, q4, q5, q6, q7, q8⟩ | ⟨q1, q2, q3, q4, q5⟩
        · exact absurd (by omega) h5
        · exact absurd q1 (by simp)
      subst hRR
      rw [decide_eq_true h0] at kq
      have x1 := h1
      have x2 := h2
      have x3 : (1 : Int) ≤ (nt : Int) := by omega
      have x4 : (nt : Int) ≤ 1024 := by omega
      have x5 : ¬ (1 : Int) ≤ (nb : Int) := by omega
      have HBE := HB
      clear HC HL h0 h1 h2 h3 h4 h5
      go_enter Try.func9, Try.ntmps9
      go_upto_region 1 with fail
      rw [← hp]
      clear hp
      go_wp2_with (with_reducible refine wpList_load_cprd rfl _ rfl rfl HR.out ?_)
      go_ret
      exact ⟨rfl, HBE.out⟩
    by_cases h6 : nb ≤ 1024
    case neg =>
      have hRR : R = false := by
        rw [HC.out]
        refine decide_eq_false fun h => ?_
        obtain ⟨hnt, hnb⟩ := HL.out
        rcases cvok_mk.1 h with ⟨q1, q2, q3, q4, q5, q6, q7, q8⟩ | ⟨q1, q2, q3, q4, q5⟩
        · exact absurd (by omega) h6
        · exact absurd q1 (by simp)
      subst hRR
      rw [decide_eq_true h0] at kq
      have x1 := h1
      have x2 := h2
      have x3 : (1 : Int) ≤ (nt : Int) := by omega
      have x4 : (nt : Int) ≤ 1024 := by omega
      have x5 : (1 : Int) ≤ (nb : Int) := by omega
      have x6 : ¬ (nb : Int) ≤ 1024 := by omega
      have HBE := HB
      clear HC HL h0 h1 h2 h3 h4 h5 h6
      go_enter Try.func9, Try.ntmps9
      go_upto_region 1 with fail
      rw [← hp]
      clear hp
      go_wp2_with (with_reducible refine wpList_load_cprd rfl _ rfl rfl HR.out ?_)
      go_ret
      exact ⟨rfl, HBE.out⟩
    have hRR : R = true := by
      rw [HC.out]
      refine decide_eq_true (cvok_mk.2 ?_)
      obtain ⟨hnt, hnb⟩ := HL.out
      refine Or.inl ⟨rfl, h0, h1, h2, by omega, by omega, by omega, by omega⟩
    subst hRR
    rw [decide_eq_true h0] at kq
    have x1 := h1
    have x2 := h2
    have x3 : (1 : Int) ≤ (nt : Int) := by omega
    have x4 : (nt : Int) ≤ 1024 := by omega
    have x5 : (1 : Int) ≤ (nb : Int) := by omega
    have x6 : (nb : Int) ≤ 1024 := by omega
    have HBE := HB
    clear HC HL h0 h1 h2 h3 h4 h5 h6
    go_enter Try.func9, Try.ntmps9
    go_upto_region 1 with fail
    rw [← hp]
    clear hp
    go_wp2_with (with_reducible refine wpList_load_cprd rfl _ rfl rfl HR.out ?_)
    go_ret
    exact ⟨rfl, HBE.out⟩
  case false =>
    obtain ⟨P, hP⟩ : ∃ P, P = decide (pok fi) := ⟨_, rfl⟩
    have hcl := rvalid fi hm hn p
    rw [← hP] at hcl
    have HP := Lib.hid hP
    clear hP
    cases P
    case false =>
      have hRR : R = false := by
        rw [HC.out]
        refine decide_eq_false fun h => ?_
        obtain ⟨hnt, hnb⟩ := HL.out
        rcases cvok_mk.1 h with ⟨q1, q2, q3, q4, q5, q6, q7, q8⟩ | ⟨q1, q2, q3, q4, q5⟩
        · exact absurd q1 (by simp)
        · exact absurd q2 (by have := HP.out; simpa using this)
      subst hRR
      have HBE : ∀ W, Below p.heap.size p W → Below w.heap.size w W := fun W hW => HB.out.trans (hW.mono (Nat.le_of_lt hps))
      have HBE := Lib.hid HBE
      try clear HC HL HP
      go_enter Try.func9, Try.ntmps9
      go_upto_region 1 with fail
      rw [← hp]
      clear hp
      go_wp2_with (with_reducible refine wpList_load_cprd rfl _ rfl rfl HR.out ?_)
      refine hcl.mono ?_
      rintro e W1 ⟨rfl, hw1⟩
      clear hcl
      have HG := Lib.hid (HBE.out _ hw1)
      obtain ⟨k0, k7, k8, k9⟩ := CvRow.cells (Whole.below HR.out hw1 hps)
      clear hw1
      go_wp2_with fail
      go_ret
      exact ⟨by first | rfl | (show Ending.returned (.bool ((nb : Int) == 0)) = _; rw [show ((nb : Int) == 0) = false by simpa using x2]), HG.out⟩
    have hpk : pok fi := by have := HP.out; simpa using this
    by_cases g0 : pa = 0
    case neg =>
      have hRR : R = false := by
        rw [HC.out]
        refine decide_eq_false fun h => ?_
        obtain ⟨hnt, hnb⟩ := HL.out
        rcases cvok_mk.1 h with ⟨q1, q2, q3, q4, q5, q6, q7, q8⟩ | ⟨q1, q2, q3, q4, q5⟩
        · exact absurd q1 (by simp)
        · exact absurd (by exact q3) g0
      subst hRR
      have x0 : ¬ pa = 0 := g0
      clear hpk g0 HL HC HP
      have HBE : ∀ W, Below p.heap.size p W → Below w.heap.size w W := fun W hW => HB.out.trans (hW.mono (Nat.le_of_lt hps))
      have HBE := Lib.hid HBE
      try clear HC HL HP
      go_enter Try.func9, Try.ntmps9
      go_upto_region 1 with fail
      rw [← hp]
      clear hp
      go_wp2_with (with_reducible refine wpList_load_cprd rfl _ rfl rfl HR.out ?_)
      refine hcl.mono ?_
      rintro e W1 ⟨rfl, hw1⟩
      clear hcl
      have HG := Lib.hid (HBE.out _ hw1)
      obtain ⟨k0, k7, k8, k9⟩ := CvRow.cells (Whole.below HR.out hw1 hps)
      clear hw1
      go_wp2_with fail
      go_ret
      exact ⟨by first | rfl | (show Ending.returned (.bool ((nb : Int) == 0)) = _; rw [show ((nb : Int) == 0) = false by simpa using x2]), HG.out⟩
    by_cases g1 : nt = 0
    case neg =>
      have hRR : R = false := by
        rw [HC.out]
        refine decide_eq_false fun h => ?_
        obtain ⟨hnt, hnb⟩ := HL.out
        rcases cvok_mk.1 h with ⟨q1, q2, q3, q4, q5, q6, q7, q8⟩ | ⟨q1, q2, q3, q4, q5⟩
        · exact absurd q1 (by simp)
        · exact absurd (by rw [hnt, q4]; rfl) g1
      subst hRR
      have x1 : ¬ (nt : Int) = 0 := by omega
      clear hpk g1 HL HC HP
      subst g0
      have HBE : ∀ W, Below p.heap.size p W → Below w.heap.size w W := fun W hW => HB.out.trans (hW.mono (Nat.le_of_lt hps))
      have HBE := Lib.hid HBE
      try clear HC HL HP
      go_enter Try.func9, Try.ntmps9
      go_upto_region 1 with fail
      rw [← hp]
      clear hp
      go_wp2_with (with_reducible refine wpList_load_cprd rfl _ rfl rfl HR.out ?_)
      refine hcl.mono ?_
      rintro e W1 ⟨rfl, hw1⟩
      clear hcl
      have HG := Lib.hid (HBE.out _ hw1)
      obtain ⟨k0, k7, k8, k9⟩ := CvRow.cells (Whole.below HR.out hw1 hps)
      clear hw1
      go_wp2_with fail
      go_ret
      exact ⟨by first | rfl | (show Ending.returned (.bool ((nb : Int) == 0)) = _; rw [show ((nb : Int) == 0) = false by simpa using x2]), HG.out⟩
    by_cases g2 : nb = 0
    case neg =>
      have hRR : R = false := by
        rw [HC.out]
        refine decide_eq_false fun h => ?_
        obtain ⟨hnt, hnb⟩ := HL.out
        rcases cvok_mk.1 h with ⟨q1, q2, q3, q4, q5, q6, q7, q8⟩ | ⟨q1, q2, q3, q4, q5⟩
        · exact absurd q1 (by simp)
        · exact absurd (by rw [hnb, q5]; rfl) g2
      subst hRR
      have x2 : ¬ (nb : Int) = 0 := by omega
      clear hpk g2 HL HC HP
      subst g0
      subst g1
      have HBE : ∀ W, Below p.heap.size p W → Below w.heap.size w W := fun W hW => HB.out.trans (hW.mono (Nat.le_of_lt hps))
      have HBE := Lib.hid HBE
      try clear HC HL HP
      go_enter Try.func9, Try.ntmps9
      go_upto_region 1 with fail
      rw [← hp]
      clear hp
      go_wp2_with (with_reducible refine wpList_load_cprd rfl _ rfl rfl HR.out ?_)
      refine hcl.mono ?_
      rintro e W1 ⟨rfl, hw1⟩
      clear hcl
      have HG := Lib.hid (HBE.out _ hw1)
      obtain ⟨k0, k7, k8, k9⟩ := CvRow.cells (Whole.below HR.out hw1 hps)
      clear hw1
      go_wp2_with fail
      go_ret
      exact ⟨by first | rfl | (show Ending.returned (.bool ((nb : Int) == 0)) = _; rw [show ((nb : Int) == 0) = false by simpa using x2]), HG.out⟩
    have hRR : R = true := by
      rw [HC.out]
      refine decide_eq_true (cvok_mk.2 ?_)
      obtain ⟨hnt, hnb⟩ := HL.out
      refine Or.inr ⟨rfl, hpk, g0, ?_, ?_⟩
      · exact List.length_eq_zero_iff.1 (by rw [← hnt]; exact g1)
      · exact List.length_eq_zero_iff.1 (by rw [← hnb]; exact g2)
    subst hRR
    clear hpk HL HC HP
    subst g0
    subst g1
    subst g2
    have HBE : ∀ W, Below p.heap.size p W → Below w.heap.size w W := fun W hW => HB.out.trans (hW.mono (Nat.le_of_lt hps))
    have HBE := Lib.hid HBE
    try clear HC HL HP
    go_enter Try.func9, Try.ntmps9
    go_upto_region 1 with fail
    rw [← hp]
    clear hp
    go_wp2_with (with_reducible refine wpList_load_cprd rfl _ rfl rfl HR.out ?_)
    refine hcl.mono ?_
    rintro e W1 ⟨rfl, hw1⟩
    clear hcl
    have HG := Lib.hid (HBE.out _ hw1)
    obtain ⟨k0, k7, k8, k9⟩ := CvRow.cells (Whole.below HR.out hw1 hps)
    clear hw1
    go_wp2_with fail
    go_ret
    exact ⟨by first | rfl | (show Ending.returned (.bool ((nb : Int) == 0)) = _; rw [show ((nb : Int) == 0) = false by simpa using x2]), HG.out⟩
end Go.Proofs.Ytodmfippjcfbbaa
