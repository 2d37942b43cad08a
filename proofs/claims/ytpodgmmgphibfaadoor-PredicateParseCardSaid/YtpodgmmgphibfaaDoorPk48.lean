/-
  The law PredicateParse.
-/
import Derived.Test.YtpodgmmgphibfaaDoorPk21
import Derived.Test.YtpodgmmgphibfaaDoorPk47
import Derived.Test.YtpodgmmgphibfaaDoorPk40
import Derived.Test.YtpodgmmgphibfaaDoorPk1
namespace Go.Proofs.YtpodgmmgphibfaaDoor
open Go Go.RowKit Sh Leaf

/-- string([]byte{y}) behind its literal, in a drawn region. -/
theorem conv_1 (z : Int) (y : B8) (hz : z = bv y) (W : World) : (convert 37 9 (.slice (some ⟨W.heap.size, 0, none⟩) 1 1)).run Tryd.prog (W.alloc (.cells #[.int .u8 z] 5)).drew = .ok (.string (sof [y])) (W.alloc (.cells #[.int .u8 z] 5)).drew :=
  conv_sof (bytes_one W z y hz).drew
set_option linter.unusedVariables false in
set_option maxRecDepth 100000 in
set_option maxHeartbeats 4000000 in
theorem parse_law (s0 : List B8) (hs0 : s0.length ≤ 9223372036854775807) (A : Option Addr) (l : List Int) (c : Nat) (at_ : Int) (hat : -9223372036854775808 ≤ at_ ∧ at_ ≤ 9223372036854775807) (y : B8) (how : Nat) (hh : how < 256) (w : World)
    (hI : Ints w (fun b => b < w.heap.size) A c l) (hS : Std w) :
    Calls Tryd.prog 5 #[.string (sof s0), .slice A l.length c, .int .i64 at_, byt y, .int .u8 (how : Int)] w fun e w' => e = .returned (.bool true) ∧ Below w.heap.size w w' := by
  obtain ⟨N, hN⟩ : ∃ N : Nat, min (s0.length : Int) 300 = (N : Int) := ⟨min s0.length 300, by omega⟩
  have hN3 : N ≤ 300 := by omega
  have hNl : N ≤ s0.length := by omega
  have hsz0 := sof_size s0
  have ht := fun W => to_sof s0 (N : Int) N rfl hNl W
  have hSl : (s0.take N).length ≤ 300 := by simp; omega
  generalize s0.take N = S1 at ht hSl
  go_enter Tryd.func5, Tryd.ntmps5
  go_wp2_with fail
  refine (dnew A l.length c l w rfl hI).mono ?_
  rintro e w1 ⟨rfl, hd1, hb1⟩
  clear hI ht hN hNl hsz0 hs0
  go_wp2_with fail
  refine (dpred _ _ hd1).mono ?_
  rintro e w2 ⟨x, hx, hxm, rfl, ht2⟩
  have HB2 := Lib.hid (hb1.trans (ht2.2.1.mono (Nat.le_refl _)))
  have hrf := fun W => rformat x hxm (by have := pok_nm hx; omega) W
  have hfm : fm x = (pfmt x, 0) := if_pos hx
  rw [hfm] at hrf
  have hTl := pfmt_len hx
  have hT0 : 0 < (pfmt x).length := by unfold pfmt; rw [List.length_append, List.length_cons]; omega
  clear hfm hx hxm hd1 ht2 hb1
  simp only at hrf
  generalize pfmt x = T at hrf hTl hT0
  go_wp2_with fail
  refine (hrf _).mono ?_
  rintro e w3 ⟨rfl, hb3⟩
  have HB3 := Lib.hid (HB2.out.trans (hb3.mono HB2.out.size))
  have hszT := sof_size T
  clear hrf hb3 HB2
  go_wp2_with fail
  refine (within_ at_ T.length (by omega) (by omega) hat _).mono ?_
  rintro e w4 ⟨⟨i, hi, rfl⟩, rfl⟩
  have hi' : i < T.length := by omega
  go_upto_block 0 with fail
  go_cut [11, 36] (fun v _ wx => ∃ Z : List B8, v = .string (sof Z) ∧ Z.length ≤ 210 ∧ Below w.heap.size w wx)
  case first =>
    rcases (by omega : (how : Int) % 4 = 0 ∨ (how : Int) % 4 = 1 ∨ (how : Int) % 4 = 2 ∨ (how : Int) % 4 = 3) with hq | hq | hq | hq
    · have h1 := fun W => to_sof T (i : Int) i rfl (by omega) W
      have h2 := fun W => from_sof T ((i : Int) + 1) (i + 1) (by omega) (by omega) W
      have hUl : (T.take i).length ≤ i := by simp; omega
      have hVl : (T.drop (i + 1)).length ≤ 199 - i := by simp; omega
      generalize T.take i = U at h1 hUl
      generalize T.drop (i + 1) = V at h2 hVl
      have a1 := fun W => add_sof U [y] (by simp only [List.length_singleton]; omega) W
      have a2 := fun W => add_sof (U ++ [y]) V (by simp only [List.length_append, List.length_singleton]; omega) W
      have hcv := conv_1 (bv y) y rfl w4
      have hl : (U ++ [y]).length ≤ i + 1 := by simp only [List.length_append, List.length_singleton]; omega
      generalize U ++ [y] = UU at a1 a2 hl
      have hl2 : (UU ++ V).length ≤ 210 := by rw [List.length_append]; omega
      generalize UU ++ V = Z at a2 hl2
      clear hh hat
      go_wp2_with fail
      go_region
      all_goals
        go_wp2_with fail
        go_meet
        exact ⟨_, rfl, hl2, (HB3.out.alloc HB3.out.size _).drew⟩
    · have h1 := fun W => to_sof T (i : Int) i rfl (by omega) W
      have h2 := fun W => from_sof T ((i : Int) + 1) (i + 1) (by omega) (by omega) W
      have hUl : (T.take i).length ≤ i := by simp; omega
      have hVl : (T.drop (i + 1)).length ≤ 199 - i := by simp; omega
      generalize T.take i = U at h1 hUl
      generalize T.drop (i + 1) = V at h2 hVl
      have a1 := fun W => add_sof U V (by omega) W
      have hl2 : (U ++ V).length ≤ 210 := by rw [List.length_append]; omega
      generalize U ++ V = Z at a1 hl2
      clear hh hat
      go_wp2_with fail
      go_region
      all_goals
        go_wp2_with fail
        go_meet
        exact ⟨_, rfl, hl2, HB3.out.drew⟩
    · have h1 := fun W => to_sof T (i : Int) i rfl (by omega) W
      have h2 := fun W => from_sof T (i : Int) (i) rfl (by omega) W
      have hUl : (T.take i).length ≤ i := by simp; omega
      have hVl : (T.drop (i)).length ≤ 199 - i := by simp; omega
      generalize T.take i = U at h1 hUl
      generalize T.drop (i) = V at h2 hVl
      have a1 := fun W => add_sof U [y] (by simp only [List.length_singleton]; omega) W
      have a2 := fun W => add_sof (U ++ [y]) V (by simp only [List.length_append, List.length_singleton]; omega) W
      have hcv := conv_1 (bv y) y rfl w4
      have hl : (U ++ [y]).length ≤ i + 1 := by simp only [List.length_append, List.length_singleton]; omega
      generalize U ++ [y] = UU at a1 a2 hl
      have hl2 : (UU ++ V).length ≤ 210 := by rw [List.length_append]; omega
      generalize UU ++ V = Z at a2 hl2
      clear hh hat
      go_wp2_with fail
      go_region
      all_goals
        go_wp2_with fail
        go_meet
        exact ⟨_, rfl, hl2, (HB3.out.alloc HB3.out.size _).drew⟩
    · obtain ⟨j, hj, hj6⟩ : ∃ j : Nat, (bv y).tmod 6 = (j : Int) ∧ j < 6 := ⟨(bv y % 6).toNat, by rw [Int.tmod_eq_emod_of_nonneg (bv_nonneg y)]; omega, by omega⟩
      rcases (by omega : j = 0 ∨ j = 1 ∨ j = 2 ∨ j = 3 ∨ j = 4 ∨ j = 5) with rfl | rfl | rfl | rfl | rfl | rfl
      · have ha := fun W => add_lit T [44, 53] { data := #[44, 53] } (by unfold sof; rfl) (by simp only [List.length_cons, List.length_nil]; omega) W
        have hl : (T ++ [44, 53]).length ≤ 210 := by rw [List.length_append]; simp only [List.length_cons, List.length_nil]; omega
        generalize T ++ [44, 53] = Z at ha hl
        clear hh
        go_wp2_with fail
        go_meet
        exact ⟨_, rfl, hl, HB3.out.alloc HB3.out.size _⟩
      · have ha := fun W => add_lit T [48] { data := #[48] } (by unfold sof; rfl) (by simp only [List.length_cons, List.length_nil]; omega) W
        have hl : (T ++ [48]).length ≤ 210 := by rw [List.length_append]; simp only [List.length_cons, List.length_nil]; omega
        generalize T ++ [48] = Z at ha hl
        clear hh
        go_wp2_with fail
        go_meet
        exact ⟨_, rfl, hl, HB3.out.alloc HB3.out.size _⟩
      · have ha := fun W => add_lit T [32] { data := #[32] } (by unfold sof; rfl) (by simp only [List.length_cons, List.length_nil]; omega) W
        have hl : (T ++ [32]).length ≤ 210 := by rw [List.length_append]; simp only [List.length_cons, List.length_nil]; omega
        generalize T ++ [32] = Z at ha hl
        clear hh
        go_wp2_with fail
        go_meet
        exact ⟨_, rfl, hl, HB3.out.alloc HB3.out.size _⟩
      · have ha := fun W => add_lit T [45, 49] { data := #[45, 49] } (by unfold sof; rfl) (by simp only [List.length_cons, List.length_nil]; omega) W
        have hl : (T ++ [45, 49]).length ≤ 210 := by rw [List.length_append]; simp only [List.length_cons, List.length_nil]; omega
        generalize T ++ [45, 49] = Z at ha hl
        clear hh
        go_wp2_with fail
        go_meet
        exact ⟨_, rfl, hl, HB3.out.alloc HB3.out.size _⟩
      · have ha := fun W => add_lit T [44] { data := #[44] } (by unfold sof; rfl) (by simp only [List.length_cons, List.length_nil]; omega) W
        have hl : (T ++ [44]).length ≤ 210 := by rw [List.length_append]; simp only [List.length_cons, List.length_nil]; omega
        generalize T ++ [44] = Z at ha hl
        clear hh
        go_wp2_with fail
        go_meet
        exact ⟨_, rfl, hl, HB3.out.alloc HB3.out.size _⟩
      · have ha := fun W => add_lit T [97] { data := #[97] } (by unfold sof; rfl) (by simp only [List.length_cons, List.length_nil]; omega) W
        have hl : (T ++ [97]).length ≤ 210 := by rw [List.length_append]; simp only [List.length_cons, List.length_nil]; omega
        generalize T ++ [97] = Z at ha hl
        clear hh
        go_wp2_with fail
        go_meet
        exact ⟨_, rfl, hl, HB3.out.alloc HB3.out.size _⟩
  case rest =>
    clear HB3 hi hi' hszT hTl hT0 T
    obtain ⟨Z, rfl, hZl, hBz⟩ := hcut
    rename World => w5
    go_wp2_with fail
    go_loopw [0, 14] (fun vs vk wr => ∃ (k : Nat) (S : List B8), k ≤ 2 ∧ vk = .int .i64 (k : Int) ∧ vs = .string (sof S) ∧ S.length ≤ 300 ∧ Below w.heap.size w wr) (fun _ vk _ => 2 - (intOf vk).toNat)
    case atStart => exact ⟨0, S1, by omega, rfl, rfl, hSl, hBz⟩
    case round =>
      obtain ⟨k, S, hk, rfl, rfl, hSl2, hq⟩ := hrel
      clear hBz
      by_cases hk2 : k = 2
      · subst hk2
        go_wp2_with (go_at_call 14; refine (pawake _ (hS.below hq (Nat.le_refl _))).mono ?_; rintro e w9 ⟨rfl, hb9⟩)
        go_ret
        exact ⟨rfl, hq.trans (hb9.mono hq.size)⟩
      · have hk2' : (k : Int) < 2 := by omega
        have hpa := fun W h => pparse S (by omega) W h
        have hra := fun W => rparse S (by omega) W
        generalize ps S = D at hpa hra
        obtain ⟨⟨dk, dm, dl, dh, dnm, du⟩, DE⟩ := D
        unfold pv at hpa hra
        simp only at hpa hra
        go_wp2_with fail
        refine (hpa _ (hS.below hq (Nat.le_refl _))).mono ?_
        rintro e w9 ⟨rfl, hb9⟩
        have hb9' := hb9.alloc hb9.size (.cells (prow dk dm dl dh dnm du) 24)
        have hP9 : PRow (w9.alloc (.cells (prow dk dm dl dh dnm du) 24)) w9.heap.size dk dm dl dh dnm du := Whole.here w9 _ _
        have HQ9 := Lib.hid (hq.trans (hb9'.mono hq.size))
        have HP9 := Lib.hid hP9
        clear hb9 hb9' hP9 hq hpa
        go_wp2_with fail
        refine (hra _).mono ?_
        rintro e w10 ⟨rfl, hb10⟩
        have hb10' := hb10.alloc hb10.size (.cells (prow dk dm dl dh dnm du) 24)
        have hP10 : PRow (w10.alloc (.cells (prow dk dm dl dh dnm du) 24)) w10.heap.size dk dm dl dh dnm du := Whole.here w10 _ _
        have hP9' : PRow (w10.alloc (.cells (prow dk dm dl dh dnm du) 24)) w9.heap.size dk dm dl dh dnm du := HP9.out.below hb10' (by simp)
        have c1 := PRow.cells hP9'
        have c2 := PRow.cells hP10
        have HQ10 := Lib.hid (HQ9.out.trans (hb10'.mono HQ9.out.size))
        have hne := fun W => run_neq_prd dk (dm : Int) dl dh du dnm W
        clear hb10 hb10' hP9' hP10 HQ9 HP9 hra
        go_wp2
        go_roundw
        case rel => exact ⟨k + 1, Z, by omega, by go_num, rfl, by omega, HQ10.out⟩
        case measure => simp [intOf]; omega
end Go.Proofs.YtpodgmmgphibfaaDoor
