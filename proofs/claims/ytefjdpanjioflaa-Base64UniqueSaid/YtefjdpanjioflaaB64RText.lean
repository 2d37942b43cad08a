/-
  The reference's Text by its contract.
-/
import Derived.Test.YtefjdpanjioflaaB64Enc
namespace Go.Proofs.Ytefjdpanjioflaa
open Go Go.RowKit Sh Leaf

theorem bit_step (v : Nat) (hv : v < 1000) (x : B8) (e : Nat) : wrap64 (wrap64 (2 * (v : Int)) + (wrap64 (bv x) / 2 ^ e).tmod 2) = ((2 * v + x.toNat / 2 ^ e % 2 : Nat) : Int) := by
  have hx := x.isLt
  have e1 : wrap64 (bv x) = (x.toNat : Int) := by rw [bv_toNat]; unfold wrap64; omega
  have e2 : ((x.toNat : Int) / 2 ^ e).tmod 2 = ((x.toNat / 2 ^ e % 2 : Nat) : Int) := by
    rw [show (x.toNat : Int) / 2 ^ e = ((x.toNat / 2 ^ e : Nat) : Int) by simp]
    rw [Int.tmod_eq_emod_of_nonneg (Int.natCast_nonneg _)]
    simp
  rw [e1, e2]
  have h2 := Nat.mod_lt (x.toNat / 2 ^ e) (show 0 < 2 by omega)
  generalize x.toNat / 2 ^ e % 2 = y at *
  unfold wrap64
  omega
theorem two_step (v : Nat) (hv : v < 1000) : wrap64 (2 * (v : Int)) = ((2 * v : Nat) : Int) := by unfold wrap64; omega
theorem top_step {N v j x T : Nat} (h : N * 2 ^ j + v = T) : N * 2 ^ (j + 1) + (2 * v + x) = 2 * T + x := by
  rw [Nat.pow_succ, ← Nat.mul_assoc, ← h]; omega
theorem lt_step {v j x : Nat} (h : v < 2 ^ j) (hx : x < 2) : 2 * v + x < 2 ^ (j + 1) := by rw [Nat.pow_succ]; omega
theorem pow6 {j : Nat} (h : j ≤ 6) : 2 ^ j ≤ 64 := Nat.pow_le_pow_right (by omega) h

set_option maxHeartbeats 1000000 in
theorem rtext (v : Value) (b : List B8) (Q : Nat → Prop) (w : World) (hr : Bytes w Q v b) :
    Calls Try.prog 8 #[v] w fun e w' => e = .returned (.tuple #[.string (sof (ec b).1), .int .i64 ((ec b).2 : Int)]) ∧ Below w.heap.size w w' := by
  obtain ⟨A, cp, rfl, -⟩ := id hr
  by_cases h1 : 4096 < b.length
  · have HR := Lib.hid (ec_long h1)
    have h1' : (4096 : Int) < (b.length : Int) := by omega
    clear h1 hr
    go_enter Try.func8, Try.ntmps8
    go_wp2
    go_ret2
    rw [HR.out]
    exact ⟨by rw [← sof_nil]; rfl, Below.refl _ _⟩
  · have HR := Lib.hid (ec_ok h1)
    have h1' : ¬ (4096 : Int) < (b.length : Int) := by omega
    have HL : Hid (b.length ≤ 4096) := Lib.hid (by omega)
    clear h1
    go_enter Try.func8, Try.ntmps8
    go_wp2_with fail
    go_loopw [4, 5] (fun vo va wr => ∃ (k : Nat) (V : List B8), V.length = k ∧ va = .int .i64 (6 * (k : Int)) ∧ Own wr w.heap.size vo (V.map ch) ∧ Below w.heap.size w wr ∧ 6 * k ≤ 8 * b.length + 5 ∧ nv 6 V = top 8 b (6 * k) ∧ Dig 6 V) (fun _ va _ => 8 * b.length + 6 - (intOf va).toNat)
    case atStart => exact ⟨0, [], rfl, rfl, own_nil _ _, Below.refl _ _, by omega, by simp [nv_nil, top], Dig.nil 6⟩
    case round =>
      obtain ⟨k, V, hVk, rfl, hown, hb, hk, hval, hdig⟩ := hrel
      by_cases hlt : 6 * k < 8 * b.length
      · have hlt' : 6 * (k : Int) < 8 * (b.length : Int) := by omega
        have HB := Lib.hid (hr.below hb (Nat.le_refl _))
        have HV := Lib.hid hVk
        have HLT := Lib.hid hlt
        clear hVk hlt hk
        go_wp2_with fail
        go_loopw [6, 7] (fun vv vi wx => ∃ j v : Nat, j ≤ 6 ∧ vv = .int .i64 v ∧ vi = .int .i64 (6 * (k : Int) + j) ∧ nv 6 V * 2 ^ j + v = top 8 b (6 * k + j) ∧ v < 2 ^ j ∧ wr = wx) (fun _ vi _ => 6 * k + 6 - (intOf vi).toNat)
        case atStart => exact ⟨0, 0, by omega, rfl, by simp, by simpa using hval, by simp, rfl⟩
        case round =>
          obtain ⟨j, v, hj, rfl, rfl, hval, hv, rfl⟩ := hrel
          by_cases hj6 : j < 6
          · by_cases hin : 6 * k + j < 8 * b.length
            · have hin' : 6 * (k : Int) + j < 8 * (b.length : Int) := by omega
              obtain ⟨A1, c1, e1, -, -, -, h4⟩ := id HB.out
              cases e1
              obtain ⟨g, o, rfl, _, hcell⟩ := h4 (by omega)
              have hql : (6 * k + j) / 8 < b.length := by omega
              have hc := hcell ((6 * k + j) / 8) _ (List.getElem?_eq_getElem hql)
              have h6 := pow6 hj
              have HX := Lib.hid (bit_step v (by omega) (b[(6 * k + j) / 8]) (7 - (6 * k + j) % 8))
              have hbit : bit 8 b (6 * k + j) = (b[(6 * k + j) / 8]).toNat / 2 ^ (7 - (6 * k + j) % 8) % 2 := by
                unfold bit
                rw [List.getD_eq_getElem?_getD, List.getElem?_eq_getElem hql]
                rfl
              have HT : Hid (nv 6 V * 2 ^ (j + 1) + (2 * v + (b[(6 * k + j) / 8]).toNat / 2 ^ (7 - (6 * k + j) % 8) % 2) = top 8 b (6 * k + (j + 1))) := Lib.hid (by
                rw [← hbit]; exact top_step hval)
              have HL2 := Lib.hid (lt_step hv (Nat.mod_lt ((b[(6 * k + j) / 8]).toNat / 2 ^ (7 - (6 * k + j) % 8)) (show 0 < 2 by omega)))
              clear hcell h4 hbit hval hv h6
              go_wp2_with fail
              go_roundw
              case rel => exact ⟨j + 1, _, by omega, by rw [HX.out], by go_num, HT.out, HL2.out, trivial⟩
              case measure => simp [intOf]; omega
            · have hin' : ¬ 6 * (k : Int) + j < 8 * (b.length : Int) := by omega
              have h6 := pow6 hj
              have hbit : bit 8 b (6 * k + j) = 0 := bit_out (by omega) (by omega)
              have HX := Lib.hid (two_step v (by omega))
              have HT : Hid (nv 6 V * 2 ^ (j + 1) + 2 * v = top 8 b (6 * k + (j + 1))) := Lib.hid (by
                have := top_step (x := bit 8 b (6 * k + j)) hval
                rw [hbit] at this
                rw [show top 8 b (6 * k + (j + 1)) = 2 * top 8 b (6 * k + j) + bit 8 b (6 * k + j) by rfl, hbit]
                exact this)
              have HL2 := Lib.hid (lt_step hv (show 0 < 2 by omega))
              clear hbit hval hv h6 hin
              go_wp2_with fail
              go_roundw
              case rel => exact ⟨j + 1, _, by omega, by rw [HX.out], by go_num, HT.out, HL2.out, trivial⟩
              case measure => simp [intOf]; omega
          · have hj' : j = 6 := by omega
            subst hj'
            have hbv : (BitVec.ofNat 8 v).toNat = v := by rw [BitVec.toNat_ofNat]; exact Nat.mod_eq_of_lt (by omega)
            have hix := fun W => alpha_index W .i64 (v : Int) (BitVec.ofNat 8 v) (by rw [hbv]) (by rw [hbv]; omega)
            have HT : Hid (nv 6 (V ++ [BitVec.ofNat 8 v]) = top 8 b (6 * (k + 1))) := Lib.hid (by rw [nv_snoc, hbv]; exact hval)
            have HD := Lib.hid (hdig.snoc (show (BitVec.ofNat 8 v).toNat < 2 ^ 6 by rw [hbv]; exact hv))
            have hs := hb.size
            have hxl : (V.map ch).length ≤ 1000000 := by rw [List.length_map, HV.out]; have := HL.out; have := HLT.out; omega
            clear hval hv hbv hj
            generalize BitVec.ofNat 8 v = x at *
            go_wp2_with (at_builtin; go_must (refine wpList_append_bytes rfl _ _ rfl w.heap.size _ (V.map ch) rfl (hown.alloc _) _ (.slice (some ⟨wr.heap.size, 0, none⟩) 1 1) [ch x] rfl (bytes_one wr _ _ rfl) (by simp only [List.length_singleton]; omega) (by simp; omega) ?_; intro v' w' h1 h2))
            go_roundw
            case rel =>
              refine ⟨k + 1, V ++ [x], by rw [List.length_append, HV.out]; rfl, by go_num, ?_, (hb.alloc (by omega) _).trans h2, by have := HLT.out; omega, HT.out, HD.out⟩
              rw [List.map_append]; exact h1
            case measure => simp [intOf]; have := HLT.out; omega
      · have hlt' : ¬ 6 * (k : Int) < 8 * (b.length : Int) := by omega
        have hT : k = (8 * b.length + 5) / 6 := by omega
        have hto := top_out (f := 8) (by omega) (dig8 b) (6 * k - 8 * b.length)
        rw [show 8 * b.length + (6 * k - 8 * b.length) = 6 * k by omega, ← hval] at hto
        have HE : Hid (V.map ch = txt b) := Lib.hid (by
          rw [txt]
          congr 1
          unfold enc6
          exact digs_of hdig (by rw [hVk, hT]) (by rw [hto, hT]))
        obtain ⟨A1, c1, rfl, -⟩ := id (Bytes.of_own hown)
        have hcv := conv_sof (Bytes.of_own hown)
        rw [List.length_map] at hcv
        clear hown hlt hT hto hval hdig hVk hk hr
        go_wp2_with fail
        go_ret2
        rw [HR.out, ← HE.out]
        exact ⟨rfl, hb⟩
end Go.Proofs.Ytefjdpanjioflaa
