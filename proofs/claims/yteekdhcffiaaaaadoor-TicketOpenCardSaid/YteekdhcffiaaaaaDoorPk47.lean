/-
  VarRRead
-/
import Derived.BigQuiet
import Derived.Deep.QuietTactic
import Derived.Deep.LoopGhost
import Derived.Test.YteekdhcffiaaaaaDoorPk0
import Derived.Test.YteekdhcffiaaaaaDoorPk3
namespace Go.Proofs.YteekdhcffiaaaaaDoor
open Go Go.RowKit Sh Leaf

theorem val_drop (m : List B8) (i : Nat) (h : i < m.length) : val (m.drop i) = m[i].toNat % 128 + 128 * val (m.drop (i + 1)) := by
  rw [List.drop_eq_getElem_cons h]; rfl
theorem val_drop_le (m : List B8) (i : Nat) (h : m.length ≤ 7) : val (m.drop i) ≤ 562949953421311 := by
  have h1 := val_lt (m.drop i)
  have h2 : 128 ^ (m.drop i).length ≤ 128 ^ 7 := Nat.pow_le_pow_right (by omega) (by simp; omega)
  have h3 : 128 ^ 7 = 562949953421312 := by decide
  omega

set_option maxRecDepth 100000 in
set_option maxHeartbeats 1000000 in
theorem ref_read (v : Value) (l : List B8) (Q : Nat → Prop) (w : World) (hr : Bytes w Q v l) :
    Calls Tryd.prog 58 #[v] w fun e w' => e = .returned (.tuple #[.int .i64 ((rd l).1 : Int), .int .i64 ((rd l).2.1 : Int), .int .i64 ((rd l).2.2 : Int)]) ∧ Below w.heap.size w w' := by
  obtain ⟨A, c, rfl, hc1, hc2, hc3, hc4⟩ := id hr
  clear hc4
  go_enter Tryd.func58, Tryd.ntmps58
  go_wp2_with fail
  go_loopw [5] (fun vk wr => ∃ k : Nat, k ≤ 7 ∧ k ≤ l.length ∧ vk = .int .i64 k ∧ (∀ j (h : j < l.length), j < k → 128 ≤ l[j].toNat) ∧ Below w.heap.size w wr) (fun vk _ => 7 - (intOf vk).toNat)
  case atStart => exact ⟨0, by omega, by omega, rfl, fun _ _ h => by omega, Below.refl _ _⟩
  case round =>
    obtain ⟨k, hk7, hkl, rfl, hall, hb⟩ := hrel
    by_cases hlen : k = l.length
    · by_cases h7 : k = 7
      · have hl := lead_of 7 l k hk7 hkl hall (fun h => by omega)
        have HR := Lib.hid (rd_form7 hl h7)
        clear hl hall
        have hlt : ¬ (k : Int) < (l.length : Int) := by omega
        subst h7
        clear hlen
        go_wp2
        go_ret3
        exact ⟨by rw [HR.out]; rfl, hb⟩
      · have hl := lead_of 7 l k hk7 hkl hall (fun h h' => by omega)
        have HR := Lib.hid (rd_short hl h7 hlen)
        clear hl hall
        have h7' : ¬ (k : Int) = 7 := by omega
        have hle' : (k : Int) = (l.length : Int) := by omega
        have hlt : ¬ k < l.length := by omega
        clear h7 hlen
        go_wp2
        go_ret3
        exact ⟨by rw [HR.out]; rfl, hb⟩
    have hlt : k < l.length := by omega
    by_cases h7 : k = 7
    · have hl := lead_of 7 l k hk7 hkl hall (fun h => by omega)
      have HR := Lib.hid (rd_form7 hl h7)
      clear hl hall
      have h7' : ¬ (k : Int) < 7 := by omega
      have h7'' : (k : Int) = 7 := by omega
      clear h7 hlen
      go_wp2
      go_ret3
      exact ⟨by rw [HR.out]; rfl, hb⟩
    have HB := hr.below hb (Nat.le_refl _)
    obtain ⟨A1, c1, e1, -, -, -, h4⟩ := id HB
    cases e1
    obtain ⟨g, o, rfl, _, hcell⟩ := h4 (by omega)
    have hc := hcell k l[k] (List.getElem?_eq_getElem hlt)
    have h7' : (k : Int) < 7 := by omega
    have h7'' : ¬ (k : Int) = 7 := by omega
    have hle' : ¬ (k : Int) = (l.length : Int) := by omega
    have hkn : (0 : Int) ≤ (k : Int) := by omega
    by_cases hb8 : l[k].toNat < 128
    · have hl := lead_of 7 l k hk7 hkl hall (fun _ _ => hb8)
      have hbv : bv l[k] = (l[k].toNat : Int) := by unfold bv; rfl
      have hb8' : ¬ 127 < bv l[k] := by omega
      by_cases hx0 : 0 < k ∧ l[k].toNat = 0
      · have HR := Lib.hid (rd_form0 hl h7 hlt hx0.1 hx0.2)
        have h0 : bv l[k] = 0 := by omega
        have hk0 : (0 : Int) < (k : Int) := by omega
        clear hl hall hbv h7 hlen hx0 hcell h4
        go_wp2
        go_ret3
        exact ⟨by rw [HR.out]; rfl, hb⟩
      have hxx : ¬ (0 : Int) < (k : Int) ∨ ((0 : Int) < (k : Int) ∧ ¬ bv l[k] = 0) := by omega
      have HR := Lib.hid (fun h => rd_range hl h7 hlt hx0 h)
      have HR' := Lib.hid (fun h => rd_ok hl h7 hlt hx0 h)
      have HC : Hid (∀ i, i ≤ k → wr.cell? ⟨g, o + i, none⟩ = some (byt (l.getD i 0))) := Lib.hid fun i hi => by
        have := hcell i l[i] (List.getElem?_eq_getElem (by omega))
        rw [this]; simp [List.getD_eq_getElem?_getD, show i < l.length by omega]
      have HM : Hid ((l.take (k + 1)).length = k + 1) := Lib.hid (by simp; omega)
      have HG : Hid (∀ i, i ≤ k → (l.take (k + 1)).getD i 0 = l.getD i 0) := Lib.hid fun i hi => by simp [List.getD_eq_getElem?_getD, show i < k + 1 by omega]
      clear hl hall hbv h7 hlen hx0 hcell h4 hc1 hc2 hc3 hkl HB hr
      rcases hxx with hk0 | ⟨hk0, hz⟩
      all_goals
        go_wp2_with fail
        go_loopw [6, 7] (fun vn vi wx => ∃ z : Int, -1 ≤ z ∧ z ≤ k ∧ vi = .int .i64 z ∧ vn = .int .i64 (val ((l.take (k + 1)).drop (z + 1).toNat) : Int) ∧ Below w.heap.size w wx ∧ ∀ i, i ≤ k → wx.cell? ⟨g, o + i, none⟩ = some (byt (l.getD i 0))) (fun _ vi _ => (intOf vi + 1).toNat)
        case atStart =>
          refine ⟨k, by omega, by omega, rfl, ?_, hb, HC.out⟩
          rw [show ((k : Int) + 1).toNat = k + 1 by omega, List.drop_of_length_le (by rw [HM.out]; omega)]
          rfl
        case round =>
          obtain ⟨z, hz0, hzk, rfl, rfl, hbx, hcx⟩ := hrel
          by_cases hzn : z = -1
          · subst hzn
            simp only [Int.reduceNeg, Int.reduceAdd, Int.toNat_zero, List.drop_zero]
            by_cases hv : 281474976710656 < val (l.take (k + 1))
            · have HQ := Lib.hid (HR.out hv)
              have hv' : (281474976710656 : Int) < (val (l.take (k + 1)) : Int) := by omega
              clear hv hcx hc
              go_wp2
              go_ret3
              exact ⟨by rw [HQ.out]; rfl, hbx⟩
            · have HQ := Lib.hid (HR'.out hv)
              have hv' : ¬ (281474976710656 : Int) < (val (l.take (k + 1)) : Int) := by omega
              clear hv hcx hc
              go_wp2
              go_ret3
              exact ⟨by rw [HQ.out]; rfl, hbx⟩
          · obtain ⟨i, rfl⟩ : ∃ i : Nat, z = (i : Int) := ⟨z.toNat, by omega⟩
            have hik : i ≤ k := by omega
            have hci := hcx i hik
            have hvd := val_drop (l.take (k + 1)) i (by rw [HM.out]; omega)
            have hvl := val_drop_le (l.take (k + 1)) (i + 1) (by rw [HM.out]; omega)
            have hgi := HG.out i hik
            rw [List.getD_eq_getElem?_getD, List.getElem?_eq_getElem (by rw [HM.out]; omega)] at hgi
            have hgj : (l.take (k + 1))[i]'(by rw [HM.out]; omega) = l.getD i 0 := hgi
            rw [hgj] at hvd
            have HCX := Lib.hid hcx
            have hbv : bv (l.getD i 0) = ((l.getD i 0).toNat : Int) := by unfold bv; rfl
            have hb0 := bv_nonneg (l.getD i 0)
            have hb1 := bv_le (l.getD i 0)
            have HS : Hid (128 * (val ((l.take (k + 1)).drop (i + 1)) : Int) + bv (l.getD i 0) % 128 = (val ((l.take (k + 1)).drop i) : Int)) := Lib.hid (by rw [hbv]; omega)
            rw [show ((i : Int) + 1).toNat = i + 1 by omega]
            generalize l.getD i 0 = y at *
            generalize val ((l.take (k + 1)).drop (i + 1)) = u at *
            have hu : (u : Int) ≤ 562949953421311 := by omega
            clear hvd hvl hgi hgj hcx hbv hc
            go_wp2
            go_roundw
            case rel => exact ⟨(i : Int) - 1, by omega, by omega, by go_num, by rw [HS.out, show ((i : Int) - 1 + 1).toNat = i by omega], hbx, HCX.out⟩
            case measure => simp [intOf]
    · have hbg : 127 < bv l[k] := by unfold bv; omega
      have HA := Lib.hid hall
      clear hall h7 hlen hcell h4 hr HB
      go_wp2
      go_roundw
      case rel =>
        refine ⟨k + 1, by omega, by omega, by go_num, fun j hj hjk => ?_, hb⟩
        by_cases e : j = k
        · subst e; omega
        · exact HA.out j hj (by omega)
      case measure => simp [intOf]; omega
end Go.Proofs.YteekdhcffiaaaaaDoor
