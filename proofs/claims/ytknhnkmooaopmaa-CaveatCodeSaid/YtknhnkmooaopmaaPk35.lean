/-
  The reference's Read by its contract.
  The reference's ReadField.
-/
import Derived.BigQuiet
import Derived.Deep.QuietTactic
import Derived.Deep.LoopGhost
import Derived.Test.YtknhnkmooaopmaaPk0
import Derived.Test.YtknhnkmooaopmaaPk1
namespace Go.Proofs.Ytknhnkmooaopmaa
open Go Go.RowKit Sh Leaf

theorem val_drop (m : List B8) (i : Nat) (h : i < m.length) : val (m.drop i) = m[i].toNat % 128 + 128 * val (m.drop (i + 1)) := by
  rw [List.drop_eq_getElem_cons h]; rfl
theorem val_drop_le (m : List B8) (i : Nat) (h : m.length ≤ 7) : val (m.drop i) ≤ 562949953421311 := by
  have h1 := val_lt (m.drop i)
  have h2 : 128 ^ (m.drop i).length ≤ 128 ^ 7 := Nat.pow_le_pow_right (by omega) (by simp; omega)
  have h3 : 128 ^ 7 = 562949953421312 := by decide
  omega

set_option maxRecDepth 100000 in
set_option maxHeartbeats 1000000 in
theorem ref_read (v : Value) (l : List B8) (Q : Nat → Prop) (w : World) (hr : Bytes w Q v l) :
    Calls Try.prog 69 #[v] w fun e w' => e = .returned (.tuple #[.int .i64 ((rd l).1 : Int), .int .i64 ((rd l).2.1 : Int), .int .i64 ((rd l).2.2 : Int)]) ∧ Below w.heap.size w w' := by
  obtain ⟨A, c, rfl, hc1, hc2, hc3, hc4⟩ := id hr
  clear hc4
  go_enter Try.func69, Try.ntmps69
  go_wp2_with fail
  go_loopw [5] (fun vk wr => ∃ k : Nat, k ≤ 7 ∧ k ≤ l.length ∧ vk = .int .i64 k ∧ (∀ j (h : j < l.length), j < k → 128 ≤ l[j].toNat) ∧ Below w.heap.size w wr) (fun vk _ => 7 - (intOf vk).toNat)
  case atStart => exact ⟨0, by omega, by omega, rfl, fun _ _ h => by omega, Below.refl _ _⟩
  case round =>
    obtain ⟨k, hk7, hkl, rfl, hall, hb⟩ := hrel
    by_cases hlen : k = l.length
    · by_cases h7 : k = 7
      · have hl := lead_of 7 l k hk7 hkl hall (fun h => by omega)
        have HR := Lib.hid (rd_form7 hl h7)
        clear hl hall
        have hlt : ¬ (k : Int) < (l.length : Int) := by omega
        subst h7
        clear hlen
        go_wp2
        go_ret3
        exact ⟨by rw [HR.out]; rfl, hb⟩
      · have hl := lead_of 7 l k hk7 hkl hall (fun h h' => by omega)
        have HR := Lib.hid (rd_short hl h7 hlen)
        clear hl hall
        have h7' : ¬ (k : Int) = 7 := by omega
        have hle' : (k : Int) = (l.length : Int) := by omega
        have hlt : ¬ k < l.length := by omega
        clear h7 hlen
        go_wp2
        go_ret3
        exact ⟨by rw [HR.out]; rfl, hb⟩
    have hlt : k < l.length := by omega
    by_cases h7 : k = 7
    · have hl := lead_of 7 l k hk7 hkl hall (fun h => by omega)
      have HR := Lib.hid (rd_form7 hl h7)
      clear hl hall
      have h7' : ¬ (k : Int) < 7 := by omega
      have h7'' : (k : Int) = 7 := by omega
      clear h7 hlen
      go_wp2
      go_ret3
      exact ⟨by rw [HR.out]; rfl, hb⟩
    have HB := hr.below hb (Nat.le_refl _)
    obtain ⟨A1, c1, e1, -, -, -, h4⟩ := id HB
    cases e1
    obtain ⟨g, o, rfl, _, hcell⟩ := h4 (by omega)
    have hc := hcell k l[k] (List.getElem?_eq_getElem hlt)
    have h7' : (k : Int) < 7 := by omega
    have h7'' : ¬ (k : Int) = 7 := by omega
    have hle' : ¬ (k : Int) = (l.length : Int) := by omega
    have hkn : (0 : Int) ≤ (k : Int) := by omega
    by_cases hb8 : l[k].toNat < 128
    · have hl := lead_of 7 l k hk7 hkl hall (fun _ _ => hb8)
      have hbv : bv l[k] = (l[k].toNat : Int) := by unfold bv; rfl
      have hb8' : ¬ 127 < bv l[k] := by omega
      by_cases hx0 : 0 < k ∧ l[k].toNat = 0
      · have HR := Lib.hid (rd_form0 hl h7 hlt hx0.1 hx0.2)
        have h0 : bv l[k] = 0 := by omega
        have hk0 : (0 : Int) < (k : Int) := by omega
        clear hl hall hbv h7 hlen hx0 hcell h4
        go_wp2
        go_ret3
        exact ⟨by rw [HR.out]; rfl, hb⟩
      have hxx : ¬ (0 : Int) < (k : Int) ∨ ((0 : Int) < (k : Int) ∧ ¬ bv l[k] = 0) := by omega
      have HR := Lib.hid (fun h => rd_range hl h7 hlt hx0 h)
      have HR' := Lib.hid (fun h => rd_ok hl h7 hlt hx0 h)
      have HC : Hid (∀ i, i ≤ k → wr.cell? ⟨g, o + i, none⟩ = some (byt (l.getD i 0))) := Lib.hid fun i hi => by
        have := hcell i l[i] (List.getElem?_eq_getElem (by omega))
        rw [this]; simp [List.getD_eq_getElem?_getD, show i < l.length by omega]
      have HM : Hid ((l.take (k + 1)).length = k + 1) := Lib.hid (by simp; omega)
      have HG : Hid (∀ i, i ≤ k → (l.take (k + 1)).getD i 0 = l.getD i 0) := Lib.hid fun i hi => by simp [List.getD_eq_getElem?_getD, show i < k + 1 by omega]
      clear hl hall hbv h7 hlen hx0 hcell h4 hc1 hc2 hc3 hkl HB hr
      rcases hxx with hk0 | ⟨hk0, hz⟩
      all_goals
        go_wp2_with fail
        go_loopw [6, 7] (fun vn vi wx => ∃ z : Int, -1 ≤ z ∧ z ≤ k ∧ vi = .int .i64 z ∧ vn = .int .i64 (val ((l.take (k + 1)).drop (z + 1).toNat) : Int) ∧ Below w.heap.size w wx ∧ ∀ i, i ≤ k → wx.cell? ⟨g, o + i, none⟩ = some (byt (l.getD i 0))) (fun _ vi _ => (intOf vi + 1).toNat)
        case atStart =>
          refine ⟨k, by omega, by omega, rfl, ?_, hb, HC.out⟩
          rw [show ((k : Int) + 1).toNat = k + 1 by omega, List.drop_of_length_le (by rw [HM.out]; omega)]
          rfl
        case round =>
          obtain ⟨z, hz0, hzk, rfl, rfl, hbx, hcx⟩ := hrel
          by_cases hzn : z = -1
          · subst hzn
            simp only [Int.reduceNeg, Int.reduceAdd, Int.toNat_zero, List.drop_zero]
            by_cases hv : 281474976710656 < val (l.take (k + 1))
            · have HQ := Lib.hid (HR.out hv)
              have hv' : (281474976710656 : Int) < (val (l.take (k + 1)) : Int) := by omega
              clear hv hcx hc
              go_wp2
              go_ret3
              exact ⟨by rw [HQ.out]; rfl, hbx⟩
            · have HQ := Lib.hid (HR'.out hv)
              have hv' : ¬ (281474976710656 : Int) < (val (l.take (k + 1)) : Int) := by omega
              clear hv hcx hc
              go_wp2
              go_ret3
              exact ⟨by rw [HQ.out]; rfl, hbx⟩
          · obtain ⟨i, rfl⟩ : ∃ i : Nat, z = (i : Int) := ⟨z.toNat, by omega⟩
            have hik : i ≤ k := by omega
            have hci := hcx i hik
            have hvd := val_drop (l.take (k + 1)) i (by rw [HM.out]; omega)
            have hvl := val_drop_le (l.take (k + 1)) (i + 1) (by rw [HM.out]; omega)
            have hgi := HG.out i hik
            rw [List.getD_eq_getElem?_getD, List.getElem?_eq_getElem (by rw [HM.out]; omega)] at hgi
            have hgj : (l.take (k + 1))[i]'(by rw [HM.out]; omega) = l.getD i 0 := hgi
            rw [hgj] at hvd
            have HCX := Lib.hid hcx
            have hbv : bv (l.getD i 0) = ((l.getD i 0).toNat : Int) := by unfold bv; rfl
            have hb0 := bv_nonneg (l.getD i 0)
            have hb1 := bv_le (l.getD i 0)
            have HS : Hid (128 * (val ((l.take (k + 1)).drop (i + 1)) : Int) + bv (l.getD i 0) % 128 = (val ((l.take (k + 1)).drop i) : Int)) := Lib.hid (by rw [hbv]; omega)
            rw [show ((i : Int) + 1).toNat = i + 1 by omega]
            generalize l.getD i 0 = y at *
            generalize val ((l.take (k + 1)).drop (i + 1)) = u at *
            have hu : (u : Int) ≤ 562949953421311 := by omega
            clear hvd hvl hgi hgj hcx hbv hc
            go_wp2
            go_roundw
            case rel => exact ⟨(i : Int) - 1, by omega, by omega, by go_num, by rw [HS.out, show ((i : Int) - 1 + 1).toNat = i by omega], hbx, HCX.out⟩
            case measure => simp [intOf]
    · have hbg : 127 < bv l[k] := by unfold bv; omega
      have HA := Lib.hid hall
      clear hall h7 hlen hcell h4 hr HB
      go_wp2
      go_roundw
      case rel =>
        refine ⟨k + 1, by omega, by omega, by go_num, fun j hj hjk => ?_, hb⟩
        by_cases e : j = k
        · subst e; omega
        · exact HA.out j hj (by omega)
      case measure => simp [intOf]; omega
end Go.Proofs.Ytknhnkmooaopmaa
namespace Go.Proofs.Ytknhnkmooaopmaa
open Go Go.RowKit Sh Leaf

set_option maxRecDepth 100000 in
set_option maxHeartbeats 1000000 in
theorem rread (v : Value) (b : List B8) (Q : Nat → Prop) (w : World) (hr : Bytes w Q v b) :
    Calls Try.prog 71 #[v] w fun e w' => ∃ v', e = .returned (.tuple #[v', .int .i64 ((rdf b).2.1 : Int), .int .i64 ((rdf b).2.2 : Int)]) ∧ Bytes w' Q v' (rdf b).1 ∧ Below w.heap.size w w' := by
  obtain ⟨A, c, rfl, hc1, hc0, -⟩ := id hr
  have hc2 : c ≤ 9223372036854775807 := by unfold maxLen at hc0; omega
  clear hc0
  obtain ⟨n, k, e0, hrd⟩ : ∃ n k e, rd b = (n, k, e) := ⟨_, _, _, rfl⟩
  have HR := Lib.hid hrd
  have HE := Lib.hid (fun he => rdf_e hrd he)
  have HQ : Hid (e0 = 0 → k ≤ b.length ∧ n ≤ 281474976710656 ∧ enc n = b.take k) := Lib.hid (by rintro rfl; exact rd_unique hrd)
  have HL : Hid (e0 = 0 → 1024 < n → rdf b = ([], 0, 2)) := Lib.hid (by rintro rfl; exact rdf_limit hrd)
  have HS : Hid (e0 = 0 → ¬ 1024 < n → b.length - k < n → rdf b = ([], 0, 3)) := Lib.hid (by rintro rfl; exact rdf_short hrd)
  have HO : Hid (e0 = 0 → ¬ 1024 < n → ¬ b.length - k < n → rdf b = ((b.drop k).take n, k + n, 0)) := Lib.hid (by rintro rfl; exact rdf_ok hrd)
  have HB := Lib.hid hr
  clear hrd hr
  go_enter Try.func71, Try.ntmps71
  go_wp2_with fail
  refine (ref_read _ b Q _ HB.out).mono ?_
  rintro e w1 ⟨rfl, hb1⟩
  rw [HR.out]
  by_cases he : e0 = 0
  · subst he
    obtain ⟨hk, hn48, -⟩ := HQ.out rfl
    clear HQ HE
    by_cases hn : 1024 < n
    · have HF := Lib.hid (HL.out rfl hn)
      have hn' : (1024 : Int) < (n : Int) := by omega
      clear hn hn48
      go_wp2
      go_ret3
      exact ⟨_, by rw [HF.out]; rfl, by rw [HF.out]; exact Bytes.nil _ _, hb1⟩
    have hn' : ¬ (1024 : Int) < (n : Int) := by omega
    by_cases hl : b.length - k < n
    · have HF := Lib.hid (HS.out rfl hn hl)
      have hl' : (b.length : Int) - (k : Int) < (n : Int) := by omega
      clear hl hn hn48
      go_wp2
      go_ret3
      exact ⟨_, by rw [HF.out]; rfl, by rw [HF.out]; exact Bytes.nil _ _, hb1⟩
    have HF := Lib.hid (HO.out rfl hn hl)
    have hl' : ¬ (b.length : Int) - (k : Int) < (n : Int) := by omega
    obtain ⟨A', c', hcut, hbt⟩ := cut_field A b c k n Q w1 (HB.out.below hb1 (Nat.le_refl _)) (by omega)
    have HC := Lib.hid hcut
    have hkn : k + n ≤ b.length := by omega
    have hn16 : n ≤ 1024 := by omega
    clear hl hn hcut hn48 HB
    go_wp2_with ((with_reducible refine wpList_slice_run rfl 25 _ _ _ _ rfl (.slice A' n c') ?_ ?_); (exact HC.out _))
    go_ret3
    exact ⟨.slice A' n c', by rw [HF.out]; simp, by rw [HF.out]; exact hbt, hb1⟩
  · have HF := Lib.hid (HE.out he)
    have he' : ¬ (e0 : Int) = 0 := by omega
    clear HE HQ HL HS HO he
    go_wp2
    go_ret3
    exact ⟨_, by rw [HF.out]; rfl, by rw [HF.out]; exact Bytes.nil _ _, hb1⟩
end Go.Proofs.Ytknhnkmooaopmaa
