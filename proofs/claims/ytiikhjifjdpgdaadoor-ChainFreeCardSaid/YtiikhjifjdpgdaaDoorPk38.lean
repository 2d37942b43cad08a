/-
  CavVal
-/
import Derived.Deep.CutBlock
import Derived.Test.YtiikhjifjdpgdaaDoorPk31
import Derived.Test.YtiikhjifjdpgdaaDoorPk37
namespace Go.Proofs.YtiikhjifjdpgdaaDoor
open Go Go.RowKit Sh Leaf

theorem filled (A : Option Addr) (n c : Nat) (w : World) : Calls Tryd.prog 128 #[.slice A n c] w fun e w' => e = .returned (.bool (decide (1 ≤ n ∧ n ≤ 1024))) ∧ w' = w := by
  obtain ⟨R, hR⟩ : ∃ R, R = decide (1 ≤ n ∧ n ≤ 1024) := ⟨_, rfl⟩
  rw [← hR]
  by_cases h1 : 1 ≤ n
  · have k1 : (0 : Int) < (n : Int) := by omega
    by_cases h2 : n ≤ 1024
    · have k2 : (n : Int) ≤ 1024 := by omega
      have D : R = true := by rw [hR]; exact decide_eq_true ⟨h1, h2⟩
      subst D
      clear hR h1 h2
      go_enter Tryd.func128, Tryd.ntmps128
      go_wp2_with fail
      go_ret
      exact ⟨rfl, rfl⟩
    · have k2 : ¬ (n : Int) ≤ 1024 := by omega
      have D : R = false := by rw [hR]; exact decide_eq_false fun h => h2 h.2
      subst D
      clear hR h1 h2
      go_enter Tryd.func128, Tryd.ntmps128
      go_wp2_with fail
      go_ret
      exact ⟨rfl, rfl⟩
  · have k1 : ¬ (0 : Int) < (n : Int) := by omega
    have D : R = false := by rw [hR]; exact decide_eq_false fun h => h1 h.1
    subst D
    clear hR h1
    go_enter Tryd.func128, Tryd.ntmps128
    go_wp2_with fail
    go_ret
    exact ⟨rfl, rfl⟩
set_option linter.unusedSimpArgs false in
set_option linter.unusedVariables false in
set_option maxRecDepth 100000 in
set_option maxHeartbeats 4000000 in
theorem cvalid {w : World} {Q : Nat → Prop} {v : Value} {c : Cav} (h : CavV w Q v c) :
    Calls Tryd.prog 109 #[v] w fun e w' => e = .returned (.bool (decide (cvok c))) ∧ Below w.heap.size w w' := by
  obtain ⟨A1, c1, A2, c2, rfl, -, -, hm, hn, -, -⟩ := h
  obtain ⟨R, hR⟩ : ∃ R, R = decide (cvok c) := ⟨_, rfl⟩
  rw [← hR]
  obtain ⟨th, fi, pa, ti, bo⟩ := c
  dsimp only at hm hn hR ⊢
  obtain ⟨p, hp⟩ : ∃ p, p = w.alloc (.cells (cvrow th fi pa (.slice A1 ti.length c1) (.slice A2 bo.length c2)) 59) := ⟨_, rfl⟩
  have hr : CvRow p w.heap.size th fi pa (.slice A1 ti.length c1) (.slice A2 bo.length c2) := by rw [hp]; exact Whole.here _ _ _
  have hb : Below w.heap.size w p := by rw [hp]; exact (Below.refl _ _).alloc (Nat.le_refl _) _
  have hps : w.heap.size < p.heap.size := hr.lt
  obtain ⟨k0, k7, k8, k9⟩ := CvRow.cells hr
  have HB := Lib.hid hb
  have HR := Lib.hid hr
  have HC := Lib.hid hR
  obtain ⟨nt, hnt⟩ : ∃ n, n = ti.length := ⟨_, rfl⟩
  obtain ⟨nb, hnb⟩ : ∃ n, n = bo.length := ⟨_, rfl⟩
  rw [← hnt] at HR k8 hp
  rw [← hnb] at HR k9 hp
  try rw [← hnt]
  try rw [← hnb]
  have HL := Lib.hid (And.intro hnt hnb)
  clear hr hb hR hnt hnb
  cases th
  case true =>
    have kq := fun W => eql_zero fi W
    have kg := fun x y W => guard_prd x y fi #[.int .i64 0, .int .u64 0, .int .i64 0, .int .i64 0, .string { data := #[] }, .int .i64 0] W
    by_cases h0 : fi = .zero
    case neg =>
      have hRR : R = false := by
        rw [HC.out]
        refine decide_eq_false fun h => ?_
        obtain ⟨hnt, hnb⟩ := HL.out
        rcases cvok_mk.1 h with ⟨q1, q2, q3, q4, q5, q6, q7, q8⟩ | ⟨q1, q2, q3, q4, q5⟩
        · exact absurd q2 h0
        · exact absurd q1 (by simp)
      subst hRR
      rw [decide_eq_false h0] at kq
      have HBE := HB
      clear HC HL h0
      go_enter Tryd.func109, Tryd.ntmps109
      go_upto_region 1 with fail
      rw [← hp]
      clear hp
      go_wp2_with (with_reducible refine wpList_load_cprd rfl _ rfl rfl HR.out ?_)
      go_ret
      exact ⟨rfl, HBE.out⟩
    by_cases h1 : 0 ≤ pa
    case neg =>
      have hRR : R = false := by
        rw [HC.out]
        refine decide_eq_false fun h => ?_
        obtain ⟨hnt, hnb⟩ := HL.out
        rcases cvok_mk.1 h with ⟨q1, q2, q3, q4, q5, q6, q7, q8⟩ | ⟨q1, q2, q3, q4, q5⟩
        · exact absurd q3 h1
        · exact absurd q1 (by simp)
      subst hRR
      rw [decide_eq_true h0] at kq
      have x1 := h1
      have HBE := HB
      clear HC HL h0 h1
      go_enter Tryd.func109, Tryd.ntmps109
      go_upto_region 1 with fail
      rw [← hp]
      clear hp
      go_wp2_with (with_reducible refine wpList_load_cprd rfl _ rfl rfl HR.out ?_)
      go_ret
      exact ⟨rfl, HBE.out⟩
    by_cases h2 : pa ≤ 7
    case neg =>
      have hRR : R = false := by
        rw [HC.out]
        refine decide_eq_false fun h => ?_
        obtain ⟨hnt, hnb⟩ := HL.out
        rcases cvok_mk.1 h with ⟨q1, q2, q3, q4, q5, q6, q7, q8⟩ | ⟨q1, q2, q3, q4, q5⟩
        · exact absurd q4 h2
        · exact absurd q1 (by simp)
      subst hRR
      rw [decide_eq_true h0] at kq
      have x1 := h1
      have x2 := h2
      have HBE := HB
      clear HC HL h0 h1 h2
      go_enter Tryd.func109, Tryd.ntmps109
      go_upto_region 1 with fail
      rw [← hp]
      clear hp
      go_wp2_with (with_reducible refine wpList_load_cprd rfl _ rfl rfl HR.out ?_)
      go_ret
      exact ⟨rfl, HBE.out⟩
    by_cases h3 : 1 ≤ nt ∧ nt ≤ 1024
    case neg =>
      have hRR : R = false := by
        rw [HC.out]
        refine decide_eq_false fun h => ?_
        obtain ⟨hnt, hnb⟩ := HL.out
        rcases cvok_mk.1 h with ⟨q1, q2, q3, q4, q5, q6, q7, q8⟩ | ⟨q1, q2, q3, q4, q5⟩
        · exact absurd (by omega) h3
        · exact absurd q1 (by simp)
      subst hRR
      rw [decide_eq_true h0] at kq
      have x1 := h1
      have x2 := h2
      have f0 := filled A1 nt c1 p
      rw [decide_eq_false h3] at f0
      have HBE := HB
      clear HC HL h0 h1 h2 h3
      go_enter Tryd.func109, Tryd.ntmps109
      go_upto_region 1 with fail
      rw [← hp]
      clear hp
      go_wp2_with (with_reducible refine wpList_load_cprd rfl _ rfl rfl HR.out ?_)
      refine f0.mono ?_
      rintro e W0 ⟨rfl, hw0⟩
      replace hw0 := hw0.symm
      subst hw0
      try clear f0
      go_wp2_with fail
      go_ret
      exact ⟨rfl, HBE.out⟩
    by_cases h4 : 1 ≤ nb ∧ nb ≤ 1024
    case neg =>
      have hRR : R = false := by
        rw [HC.out]
        refine decide_eq_false fun h => ?_
        obtain ⟨hnt, hnb⟩ := HL.out
        rcases cvok_mk.1 h with ⟨q1, q2, q3, q4, q5, q6, q7, q8⟩ | ⟨q1, q2, q3, q4, q5⟩
        · exact absurd (by omega) h4
        · exact absurd q1 (by simp)
      subst hRR
      rw [decide_eq_true h0] at kq
      have x1 := h1
      have x2 := h2
      have f0 := filled A1 nt c1 p
      rw [decide_eq_true h3] at f0
      have f1 := filled A2 nb c2 p
      rw [decide_eq_false h4] at f1
      have HBE := HB
      clear HC HL h0 h1 h2 h3 h4
      go_enter Tryd.func109, Tryd.ntmps109
      go_upto_region 1 with fail
      rw [← hp]
      clear hp
      go_wp2_with (with_reducible refine wpList_load_cprd rfl _ rfl rfl HR.out ?_)
      refine f0.mono ?_
      rintro e W0 ⟨rfl, hw0⟩
      replace hw0 := hw0.symm
      subst hw0
      try clear f0
      go_wp2_with fail
      refine f1.mono ?_
      rintro e W1 ⟨rfl, hw1⟩
      replace hw1 := hw1.symm
      subst hw1
      try clear f1
      go_wp2_with fail
      go_ret
      exact ⟨rfl, HBE.out⟩
    have hRR : R = true := by
      rw [HC.out]
      refine decide_eq_true (cvok_mk.2 ?_)
      obtain ⟨hnt, hnb⟩ := HL.out
      refine Or.inl ⟨rfl, h0, h1, h2, by omega, by omega, by omega, by omega⟩
    subst hRR
    rw [decide_eq_true h0] at kq
    have x1 := h1
    have x2 := h2
    have f0 := filled A1 nt c1 p
    rw [decide_eq_true h3] at f0
    have f1 := filled A2 nb c2 p
    rw [decide_eq_true h4] at f1
    have HBE := HB
    clear HC HL h0 h1 h2 h3 h4
    go_enter Tryd.func109, Tryd.ntmps109
    go_upto_region 1 with fail
    rw [← hp]
    clear hp
    go_wp2_with (with_reducible refine wpList_load_cprd rfl _ rfl rfl HR.out ?_)
    refine f0.mono ?_
    rintro e W0 ⟨rfl, hw0⟩
    replace hw0 := hw0.symm
    subst hw0
    try clear f0
    go_wp2_with fail
    refine f1.mono ?_
    rintro e W1 ⟨rfl, hw1⟩
    replace hw1 := hw1.symm
    subst hw1
    try clear f1
    go_wp2_with fail
    go_ret
    exact ⟨rfl, HBE.out⟩
  case false =>
    obtain ⟨P, hP⟩ : ∃ P, P = decide (pok fi) := ⟨_, rfl⟩
    have hcl := pvalid fi hm hn p
    rw [← hP] at hcl
    have HP := Lib.hid hP
    clear hP
    cases P
    case false =>
      have hRR : R = false := by
        rw [HC.out]
        refine decide_eq_false fun h => ?_
        obtain ⟨hnt, hnb⟩ := HL.out
        rcases cvok_mk.1 h with ⟨q1, q2, q3, q4, q5, q6, q7, q8⟩ | ⟨q1, q2, q3, q4, q5⟩
        · exact absurd q1 (by simp)
        · exact absurd q2 (by have := HP.out; simpa using this)
      subst hRR
      have HBE : ∀ W, Below p.heap.size p W → Below w.heap.size w W := fun W hW => HB.out.trans (hW.mono (Nat.le_of_lt hps))
      have HBE := Lib.hid HBE
      try clear HC HL HP
      go_enter Tryd.func109, Tryd.ntmps109
      go_upto_region 1 with fail
      rw [← hp]
      clear hp
      go_wp2_with (with_reducible refine wpList_load_cprd rfl _ rfl rfl HR.out ?_)
      refine hcl.mono ?_
      rintro e W1 ⟨rfl, hw1⟩
      clear hcl
      have HG := Lib.hid (HBE.out _ hw1)
      obtain ⟨k0, k7, k8, k9⟩ := CvRow.cells (Whole.below HR.out hw1 hps)
      clear hw1
      go_wp2_with fail
      go_ret
      exact ⟨by first | rfl | (show Ending.returned (.bool ((nb : Int) == 0)) = _; rw [show ((nb : Int) == 0) = false by simpa using x2]), HG.out⟩
    have hpk : pok fi := by have := HP.out; simpa using this
    by_cases g0 : pa = 0
    case neg =>
      have hRR : R = false := by
        rw [HC.out]
        refine decide_eq_false fun h => ?_
        obtain ⟨hnt, hnb⟩ := HL.out
        rcases cvok_mk.1 h with ⟨q1, q2, q3, q4, q5, q6, q7, q8⟩ | ⟨q1, q2, q3, q4, q5⟩
        · exact absurd q1 (by simp)
        · exact absurd (by exact q3) g0
      subst hRR
      have x0 : ¬ pa = 0 := g0
      clear hpk g0 HL HC HP
      have HBE : ∀ W, Below p.heap.size p W → Below w.heap.size w W := fun W hW => HB.out.trans (hW.mono (Nat.le_of_lt hps))
      have HBE := Lib.hid HBE
      try clear HC HL HP
      go_enter Tryd.func109, Tryd.ntmps109
      go_upto_region 1 with fail
      rw [← hp]
      clear hp
      go_wp2_with (with_reducible refine wpList_load_cprd rfl _ rfl rfl HR.out ?_)
      refine hcl.mono ?_
      rintro e W1 ⟨rfl, hw1⟩
      clear hcl
      have HG := Lib.hid (HBE.out _ hw1)
      obtain ⟨k0, k7, k8, k9⟩ := CvRow.cells (Whole.below HR.out hw1 hps)
      clear hw1
      go_wp2_with fail
      go_ret
      exact ⟨by first | rfl | (show Ending.returned (.bool ((nb : Int) == 0)) = _; rw [show ((nb : Int) == 0) = false by simpa using x2]), HG.out⟩
    by_cases g1 : nt = 0
    case neg =>
      have hRR : R = false := by
        rw [HC.out]
        refine decide_eq_false fun h => ?_
        obtain ⟨hnt, hnb⟩ := HL.out
        rcases cvok_mk.1 h with ⟨q1, q2, q3, q4, q5, q6, q7, q8⟩ | ⟨q1, q2, q3, q4, q5⟩
        · exact absurd q1 (by simp)
        · exact absurd (by rw [hnt, q4]; rfl) g1
      subst hRR
      have x1 : ¬ (nt : Int) = 0 := by omega
      clear hpk g1 HL HC HP
      subst g0
      have HBE : ∀ W, Below p.heap.size p W → Below w.heap.size w W := fun W hW => HB.out.trans (hW.mono (Nat.le_of_lt hps))
      have HBE := Lib.hid HBE
      try clear HC HL HP
      go_enter Tryd.func109, Tryd.ntmps109
      go_upto_region 1 with fail
      rw [← hp]
      clear hp
      go_wp2_with (with_reducible refine wpList_load_cprd rfl _ rfl rfl HR.out ?_)
      refine hcl.mono ?_
      rintro e W1 ⟨rfl, hw1⟩
      clear hcl
      have HG := Lib.hid (HBE.out _ hw1)
      obtain ⟨k0, k7, k8, k9⟩ := CvRow.cells (Whole.below HR.out hw1 hps)
      clear hw1
      go_wp2_with fail
      go_ret
      exact ⟨by first | rfl | (show Ending.returned (.bool ((nb : Int) == 0)) = _; rw [show ((nb : Int) == 0) = false by simpa using x2]), HG.out⟩
    by_cases g2 : nb = 0
    case neg =>
      have hRR : R = false := by
        rw [HC.out]
        refine decide_eq_false fun h => ?_
        obtain ⟨hnt, hnb⟩ := HL.out
        rcases cvok_mk.1 h with ⟨q1, q2, q3, q4, q5, q6, q7, q8⟩ | ⟨q1, q2, q3, q4, q5⟩
        · exact absurd q1 (by simp)
        · exact absurd (by rw [hnb, q5]; rfl) g2
      subst hRR
      have x2 : ¬ (nb : Int) = 0 := by omega
      clear hpk g2 HL HC HP
      subst g0
      subst g1
      have HBE : ∀ W, Below p.heap.size p W → Below w.heap.size w W := fun W hW => HB.out.trans (hW.mono (Nat.le_of_lt hps))
      have HBE := Lib.hid HBE
      try clear HC HL HP
      go_enter Tryd.func109, Tryd.ntmps109
      go_upto_region 1 with fail
      rw [← hp]
      clear hp
      go_wp2_with (with_reducible refine wpList_load_cprd rfl _ rfl rfl HR.out ?_)
      refine hcl.mono ?_
      rintro e W1 ⟨rfl, hw1⟩
      clear hcl
      have HG := Lib.hid (HBE.out _ hw1)
      obtain ⟨k0, k7, k8, k9⟩ := CvRow.cells (Whole.below HR.out hw1 hps)
      clear hw1
      go_wp2_with fail
      go_ret
      exact ⟨by first | rfl | (show Ending.returned (.bool ((nb : Int) == 0)) = _; rw [show ((nb : Int) == 0) = false by simpa using x2]), HG.out⟩
    have hRR : R = true := by
      rw [HC.out]
      refine decide_eq_true (cvok_mk.2 ?_)
      obtain ⟨hnt, hnb⟩ := HL.out
      refine Or.inr ⟨rfl, hpk, g0, ?_, ?_⟩
      · exact List.length_eq_zero_iff.1 (by rw [← hnt]; exact g1)
      · exact List.length_eq_zero_iff.1 (by rw [← hnb]; exact g2)
    subst hRR
    clear hpk HL HC HP
    subst g0
    subst g1
    subst g2
    have HBE : ∀ W, Below p.heap.size p W → Below w.heap.size w W := fun W hW => HB.out.trans (hW.mono (Nat.le_of_lt hps))
    have HBE := Lib.hid HBE
    try clear HC HL HP
    go_enter Tryd.func109, Tryd.ntmps109
    go_upto_region 1 with fail
    rw [← hp]
    clear hp
    go_wp2_with (with_reducible refine wpList_load_cprd rfl _ rfl rfl HR.out ?_)
    refine hcl.mono ?_
    rintro e W1 ⟨rfl, hw1⟩
    clear hcl
    have HG := Lib.hid (HBE.out _ hw1)
    obtain ⟨k0, k7, k8, k9⟩ := CvRow.cells (Whole.below HR.out hw1 hps)
    clear hw1
    go_wp2_with fail
    go_ret
    exact ⟨by first | rfl | (show Ending.returned (.bool ((nb : Int) == 0)) = _; rw [show ((nb : Int) == 0) = false by simpa using x2]), HG.out⟩
end Go.Proofs.YtiikhjifjdpgdaaDoor
