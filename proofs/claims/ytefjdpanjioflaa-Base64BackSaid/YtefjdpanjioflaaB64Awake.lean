/-
  The sanity check of layer 5; the law Base64Back.
-/
import Derived.Test.YtefjdpanjioflaaB64RBytes
import Derived.Test.YtefjdpanjioflaaKSame
import Derived.Test.YtefjdpanjioflaaKCut
namespace Go.Proofs.Ytefjdpanjioflaa
open Go Go.RowKit Sh Leaf

theorem ec_example : ec [251, 255] = ([45, 95, 56], 0) := by decide +kernel
theorem dc_example : dc [45, 95, 57] = ([], 5) := by decide +kernel
theorem lit_456 : sof [45, 95, 56] = { data := #[45, 95, 56] } := by unfold sof; rfl
theorem lit_457 : sof [45, 95, 57] = { data := #[45, 95, 57] } := by unfold sof; rfl
theorem row_2 : (#[Value.int .u8 251, Value.int .u8 255] : Array Value) = (([251, 255] : List B8).map byt).toArray := by
  simp [show (251 : B8) = BitVec.ofNat 8 251 by rfl, show (255 : B8) = BitVec.ofNat 8 255 by rfl, byt_lit]

set_option maxHeartbeats 1000000 in
theorem bawake (w : World) : Calls Try.prog 9 #[] w fun e w' => e = .returned (.bool true) ∧ Below w.heap.size w w' := by
  go_enter Try.func9, Try.ntmps9
  go_wp2_with fail
  refine (encode _ [251, 255] _ _ (lit_bytes w (0, 0) [251, 255] _ row_2 (by simp))).mono ?_
  rintro e w1 ⟨rfl, hb1⟩
  rw [ec_example, lit_456]
  have hq1 := ((Below.refl w.heap.size w).alloc (Nat.le_refl _) (.cells #[Value.int .u8 251, Value.int .u8 255] 5)).trans (hb1.mono (by simp))
  have hd := decode [45, 95, 57] (by simp) w1
  rw [dc_example, lit_457] at hd
  clear hb1
  go_wp2_with fail
  refine hd.mono ?_
  rintro e w2 ⟨v2, rfl, -, hb2⟩
  have hq2 := hq1.trans (hb2.mono hq1.size)
  clear hd
  go_wp2
  go_ret
  exact ⟨rfl, hq2⟩

theorem ec_short {p : List B8} (h : p.length ≤ 600) : ec p = (txt p, 0) := ec_ok (by omega)
set_option maxHeartbeats 1000000 in
theorem back_law (A : Option Addr) (l : List B8) (c : Nat) (Q : Nat → Prop) (w : World) (hb : Bytes w Q (.slice A l.length c) l) :
    Calls Try.prog 5 #[.slice A l.length c] w fun e w' => e = .returned (.bool true) ∧ Below w.heap.size w w' := by
  obtain ⟨A0, c0, e0, h1, h2, h3, h4⟩ := id hb
  cases e0
  obtain ⟨N, hN, hNc, hN20, p, hp, hpN⟩ := cut_cases hb 600
  unfold maxLen at h2
  clear hb h4 h3
  have HE := Lib.hid (ec_short (p := p) (by omega))
  have HD := Lib.hid (dc_txt p (by omega))
  have htl := txt_length p
  rw [hpN] at htl
  have HT : Hid (((txt p).length : Int) = (8 * (N : Int) + 5) / 6) := Lib.hid (by omega)
  have HTL : Hid ((txt p).length ≤ 1000000) := Lib.hid (by omega)
  have HPL : Hid (p.length ≤ 1000000) := Lib.hid (by omega)
  have hsz := sof_size (txt p)
  have HPN := Lib.hid hpN
  clear hpN htl
  generalize txt p = T at *
  rcases hN with ⟨hlt, rfl⟩ | ⟨hlt, rfl⟩ | ⟨hlt, hge, rfl⟩
  all_goals
    go_enter Try.func5, Try.ntmps5
    go_wp2_with fail
    refine (encode _ p Q _ hp).mono ?_
    rintro e w1 ⟨rfl, hb1⟩
    rw [HE.out]
    have hp1 := hp.below hb1 (Nat.le_refl _)
    clear hp
    go_wp2_with fail
    refine (decode T HTL.out _).mono ?_
    rintro e w2 ⟨v2, rfl, hown, hb2⟩
    rw [HD.out] at hown ⊢
    have hp2 := hp1.below hb2 (Nat.le_refl _)
    have hq2 := hb1.trans (hb2.mono hb1.size)
    have hob := Bytes.of_own hown
    clear hp1 hb1 hb2 hown
    have HT' := HT.out
    go_wp2_with (first
      | (go_at_call 13; refine (same_ _ _ p p _ _ _ hp2 hob HPL.out HPL.out).mono ?_; rintro e w3 ⟨rfl, hb3⟩; rw [show decide (p = p) = true by simp])
      | (go_at_call 9; refine (bawake _).mono ?_; rintro e w4 ⟨rfl, hb4⟩))
    go_ret
    exact ⟨rfl, (hq2.trans (hb3.mono hq2.size)).trans (hb4.mono (by have := hq2.size; have := hb3.size; omega))⟩
end Go.Proofs.Ytefjdpanjioflaa
