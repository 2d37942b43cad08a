/-
  Decode of package base64 by its contract.
-/
import Derived.Test.YtefjdpanjioflaaB64Group
namespace Go.Proofs.Ytefjdpanjioflaa
open Go Go.RowKit Sh Leaf

theorem dec_of {V r : List B8} {B c : Nat} (h1 : nv 8 r * 2 ^ c + B = nv 6 V) (h2 : B < 2 ^ c) (h3 : r.length * 8 + c = 6 * V.length) (h4 : c < 8) (h5 : Dig 8 r) : r = dec8 V ∧ B = rest V := by
  have hc : c = 6 * V.length % 8 := by omega
  have hr : r.length = 6 * V.length / 8 := by omega
  have e1 : nv 6 V / 2 ^ c = nv 8 r := by
    rw [← h1, Nat.mul_comm, Nat.mul_add_div (Nat.two_pow_pos c), Nat.div_eq_of_lt h2, Nat.add_zero]
  have e2 : nv 6 V % 2 ^ c = B := by
    rw [← h1, Nat.mul_comm, Nat.mul_add_mod, Nat.mod_eq_of_lt h2]
  unfold dec8 rest
  rw [← hc, e1, e2]
  exact ⟨digs_of h5 hr rfl, rfl⟩
theorem dc_long {s : List B8} (h : 5462 < s.length) : dc s = ([], 2) := by unfold dc; rw [if_pos h]
theorem dc_syntax {s : List B8} (h : ¬ 5462 < s.length) (h2 : s.all okc = false) : dc s = ([], 8) := by unfold dc; rw [if_neg h, if_pos h2]
theorem dc_short {s : List B8} (h : ¬ 5462 < s.length) (h2 : s.all okc = true) (h3 : s.length % 4 = 1) : dc s = ([], 3) := by unfold dc; rw [if_neg h, if_neg (by rw [h2]; simp), if_pos h3]
theorem dc_form {s : List B8} (h : ¬ 5462 < s.length) (h2 : s.all okc = true) (h3 : ¬ s.length % 4 = 1) (h4 : ¬ rest (vl s) = 0) : dc s = ([], 5) := by unfold dc; rw [if_neg h, if_neg (by rw [h2]; simp), if_neg h3, if_neg h4]
theorem dc_ok {s : List B8} (h : ¬ 5462 < s.length) (h2 : s.all okc = true) (h3 : ¬ s.length % 4 = 1) (h4 : rest (vl s) = 0) : dc s = (dec8 (vl s), 0) := by unfold dc; rw [if_neg h, if_neg (by rw [h2]; simp), if_neg h3, if_pos h4]

set_option maxHeartbeats 1000000 in
theorem decode (s : List B8) (hs : s.length ≤ 1000000) (w : World) :
    Calls Try.prog 11 #[.string (sof s)] w fun e w' => ∃ v', e = .returned (.tuple #[v', .int .i64 ((dc s).2 : Int)]) ∧ Own w' w.heap.size v' (dc s).1 ∧ Below w.heap.size w w' := by
  have hsz := sof_size s
  by_cases h1 : 5462 < s.length
  · have HR := Lib.hid (dc_long h1)
    have h1' : (5462 : Int) < (s.length : Int) := by omega
    clear h1
    go_enter Try.func11, Try.ntmps11
    go_wp2
    go_ret2
    rw [HR.out]
    exact ⟨_, rfl, own_nil _ _, Below.refl _ _⟩
  · have H1 := Lib.hid h1
    have h1' : ¬ (5462 : Int) < (s.length : Int) := by omega
    clear h1
    go_enter Try.func11, Try.ntmps11
    go_wp2_with fail
    refine (values_of s hs _).mono ?_
    rintro e w1 ⟨v1, rfl, hown, hb⟩
    cases hall : s.all okc with
    | false =>
      have HR := Lib.hid (dc_syntax H1.out hall)
      clear hall hown
      go_wp2
      go_ret2
      rw [HR.out]
      exact ⟨_, rfl, own_nil _ _, hb⟩
    | true =>
      rw [vls_ok hall] at hown
      by_cases h3 : s.length % 4 = 1
      · have HR := Lib.hid (dc_short H1.out hall h3)
        have h3' : (s.length : Int) % 4 = 1 := by omega
        clear hall hown h3
        go_wp2
        go_ret2
        rw [HR.out]
        exact ⟨_, rfl, own_nil _ _, hb⟩
      · have H3 := Lib.hid h3
        have h3' : ¬ (s.length : Int) % 4 = 1 := by omega
        have HV := Lib.hid (vl_dig hall)
        have HA := Lib.hid hall
        have hvb := Bytes.of_own hown
        obtain ⟨A, c, rfl, -⟩ := id hvb
        have HL := Lib.hid (vl_length s)
        have hs1 := hb.size
        clear hall h3 hown
        go_wp2_with fail
        refine (regroup 6 8 (.inr ⟨rfl, rfl⟩) _ (vl s) _ _ hvb HV.out (by rw [HL.out]; omega)).mono ?_
        rintro e w2 ⟨v2, r, B, q, rfl, hown2, hb2, g1, g2, g3, g4, g5⟩
        obtain ⟨rfl, rfl⟩ := dec_of g1 g2 g3 g4 g5
        clear g1 g2 g3 g4 g5 hvb
        by_cases h4 : rest (vl s) = 0
        · have HR := Lib.hid (dc_ok H1.out HA.out H3.out h4)
          rw [h4]
          clear h4
          go_wp2
          go_ret2
          rw [HR.out]
          exact ⟨_, rfl, own_mono hown2 hs1, hb.trans (hb2.mono hs1)⟩
        · have HR := Lib.hid (dc_form H1.out HA.out H3.out h4)
          have h4' : ¬ ((rest (vl s) : Nat) : Int) = 0 := by omega
          clear h4 hown2
          go_wp2
          go_ret2
          rw [HR.out]
          exact ⟨_, rfl, own_nil _ _, hb.trans (hb2.mono hs1)⟩
end Go.Proofs.Ytefjdpanjioflaa
