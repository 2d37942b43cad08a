/-
  PrdEn2
-/
import Derived.Test.YtiikhjifjdpgdaaDoorPk39
import Derived.Test.YtiikhjifjdpgdaaDoorPk31
namespace Go.Proofs.YtiikhjifjdpgdaaDoor
open Go Go.RowKit Sh Leaf

theorem dsv_kind (k : Nat) (h : 1 ≤ k ∧ k ≤ 7) : ∃ a c d, dsv (k : Int) = .agg #[a, .int .i64 (if k ≤ 3 then 1 else if k ≤ 5 then 2 else if k = 6 then 3 else 4), c, d] := by
  rcases (by omega : k = 1 ∨ k = 2 ∨ k = 3 ∨ k = 4 ∨ k = 5 ∨ k = 6 ∨ k = 7) with rfl | rfl | rfl | rfl | rfl | rfl | rfl
  · exact ⟨_, _, _, dsv_1⟩
  · exact ⟨_, _, _, dsv_2⟩
  · exact ⟨_, _, _, dsv_3⟩
  · exact ⟨_, _, _, dsv_4⟩
  · exact ⟨_, _, _, dsv_5⟩
  · exact ⟨_, _, _, dsv_6⟩
  · exact ⟨_, _, _, dsv_7⟩
theorem desc_kind (k : Nat) (h : 1 ≤ k ∧ k ≤ 7) (z : Int) (hz : (if k ≤ 3 then 1 else if k ≤ 5 then 2 else if k = 6 then 3 else 4) = z) :
    ∃ a c d, (∀ W, Calls Tryd.prog 130 #[.int .i64 (k : Int)] W fun e w' => e = .returned (.agg #[a, .int .i64 z, c, d]) ∧ Below W.heap.size W w') ∧ ∀ W, (Instr.field 188 (.agg #[a, .int .i64 z, c, d]) 1).run Tryd.prog W = .ok (.int .i64 z) W := by
  obtain ⟨a, c, d, e⟩ := dsv_kind k h
  refine ⟨a, c, d, fun W => ?_, dsc_fields _ _ _ _⟩
  have := describe (k : Int) W
  rw [e, hz] at this
  exact this
set_option linter.unusedVariables false in
set_option maxRecDepth 100000 in
set_option maxHeartbeats 2000000 in
theorem pencode (p : Prd) (hm : p.mask < 18446744073709551616) (hn : p.name.length ≤ 9223372036854775807) (w : World) :
    Calls Tryd.prog 110 #[pv p] w fun e w' => ∃ v', e = .returned (.tuple #[v', .int .i64 ((ed p).2 : Int)]) ∧ Bytes w' (fun _ => True) v' (ed p).1 ∧ Below w.heap.size w w' := by
  have hv := pvalid p hm hn
  by_cases hp : pok p
  case neg =>
    have hf : ed p = ([], 5) := by unfold ed; rw [if_neg hp]
    rw [hf]
    have hv2 : ∀ W, Calls Tryd.prog 129 #[pv p] W fun e w' => e = .returned (.bool false) ∧ Below W.heap.size W w' := fun W => by have := hv W; rw [decide_eq_false hp] at this; exact this
    clear hf hv hp
    obtain ⟨k, m, lo, hi, nm, nu⟩ := p
    unfold pv at hv2 ⊢
    simp only at hm hn hv2 ⊢
    go_enter Tryd.func110, Tryd.ntmps110
    go_wp2_with (first | (go_at_call 129; refine (hv2 _).mono ?_; rintro e w1 ⟨rfl, hb1⟩))
    go_ret2
    exact ⟨_, rfl, Bytes.nil _ _, ((Below.refl w.heap.size w).alloc (Nat.le_refl _) _).trans (hb1.mono (by simp))⟩
  have hf : ed p = (en p, 0) := by unfold ed; rw [if_pos hp]
  rw [hf]
  have hv2 : ∀ W, Calls Tryd.prog 129 #[pv p] W fun e w' => e = .returned (.bool true) ∧ Below W.heap.size W w' := fun W => by have := hv W; rw [decide_eq_true hp] at this; exact this
  clear hf hv
  obtain ⟨k, m, lo, hi, nm, nu⟩ := p
  unfold pv at hv2 ⊢
  have hk := pok_kind hp
  obtain ⟨k, rfl⟩ := Int.eq_ofNat_of_zero_le (show 0 ≤ k by have := hk.1; simp only at this; omega)
  have hE : en ⟨(k : Int), m, lo, hi, nm, nu⟩ = enc k ++ ebody ⟨(k : Int), m, lo, hi, nm, nu⟩ := by unfold en; simp only [Int.toNat_natCast]
  rw [hE]
  clear hE
  obtain ⟨EB, hEB⟩ : ∃ EB, EB = ebody ⟨(k : Int), m, lo, hi, nm, nu⟩ := ⟨_, rfl⟩
  rw [← hEB]
  unfold pok at hp
  simp only at hm hn hv2 hp hk ⊢
  have hk7 : 1 ≤ k ∧ k ≤ 7 := by omega
  have hek : (enc k).length ≤ 7 := enc_len7 (by omega)
  go_enter Tryd.func110, Tryd.ntmps110
  go_wp2_with fail
  refine (hv2 _).mono ?_
  rintro e w1 ⟨rfl, hb1⟩
  have hW1 : PRow w1 w.heap.size k m lo hi nm nu := (Whole.here w _ _).below hb1 (by simp)
  obtain ⟨c0, c1, c2, c3, c4, c5⟩ := hW1.cells
  have HW1 := Lib.hid hW1
  have HB1 := Lib.hid (((Below.refl w.heap.size w).alloc (Nat.le_refl _) _).trans (hb1.mono (by simp)))
  have hg1 := hW1.lt
  clear hW1 hb1 hv2
  go_wp2_with fail
  refine (append_ok (.slice none 0 0) [] (fun _ => True) k w1 (Bytes.nil _ _) (by simp) (by omega)).mono ?_
  rintro e w2 ⟨v2, rfl, ho2, hb2⟩
  rw [List.nil_append] at ho2
  have hW2 : PRow w2 w.heap.size k m lo hi nm nu := HW1.out.below hb2 hg1
  obtain ⟨c0, c1, c2, c3, c4, c5⟩ := hW2.cells
  have HW2 := Lib.hid hW2
  have HB2 := Lib.hid (HB1.out.trans (hb2.mono HB1.out.size))
  have HO2 := Lib.hid (own_mono ho2 (Nat.le_of_lt hg1))
  have hg2 := hW2.lt
  clear hW2 hb2 ho2 HW1 HB1 hg1
  rcases (by omega : k ≤ 3 ∨ (4 ≤ k ∧ k ≤ 5) ∨ k = 6 ∨ k = 7) with hk3 | ⟨hk4, hk5⟩ | rfl | rfl
  · obtain ⟨a, c, d, hds, hfd⟩ := desc_kind k hk7 1 (by rw [if_pos hk3])
    have HE : Hid (EB = be8 m) := Lib.hid (by rw [hEB]; unfold ebody; exact if_pos (show (k : Int) ≤ 3 by omega))
    clear hEB
    clear hp hk
    go_wp2_with fail
    refine (hds w2).mono ?_
    rintro e w3 ⟨rfl, hb3⟩
    have hW3 : PRow w3 w.heap.size k m lo hi nm nu := HW2.out.below hb3 hg2
    obtain ⟨c0, c1, c2, c3, c4, c5⟩ := hW3.cells
    have HB3 := Lib.hid (HB2.out.trans (hb3.mono HB2.out.size))
    have HO3 := Lib.hid (own_below HO2.out hb3 (Nat.le_refl _))
    clear hW3 hb3 HW2 HB2 HO2 hds
    go_wp2_with fail
    refine (amask v2 (enc k) m w.heap.size w3 HO3.out (by omega) HB3.out.size).mono ?_
    rintro e w4 ⟨v4, rfl, ho4, hb4⟩
    have HO4 := Lib.hid (Bytes.of_own ho4)
    have HB4 := Lib.hid (HB3.out.trans hb4)
    clear ho4 hb4
    go_wp2
    go_ret2
    rw [HE.out]
    exact ⟨_, rfl, HO4.out.mono fun _ _ _ => trivial, HB4.out⟩
  · obtain ⟨a, c, d, hds, hfd⟩ := desc_kind k hk7 2 (by rw [if_neg (by omega), if_pos hk5])
    have hEB1 : EB = enc lo.toNat ++ enc hi.toNat := by rw [hEB]; unfold ebody; exact (if_neg (show ¬ (k : Int) ≤ 3 by omega)).trans (if_pos (show (k : Int) ≤ 5 by omega))
    clear hEB
    obtain ⟨lo, rfl⟩ := Int.eq_ofNat_of_zero_le (show 0 ≤ lo by omega)
    obtain ⟨hi, rfl⟩ := Int.eq_ofNat_of_zero_le (show 0 ≤ hi by omega)
    simp only [Int.toNat_natCast] at hEB1
    have HE := Lib.hid hEB1
    clear hEB1
    have hlo : lo ≤ 67108864 := by omega
    have hhi : hi ≤ 67108864 := by omega
    have hel : (enc lo).length ≤ 7 := enc_len7 (by omega)
    clear hp hk
    go_wp2_with fail
    refine (hds w2).mono ?_
    rintro e w3 ⟨rfl, hb3⟩
    have hW3 : PRow w3 w.heap.size k m lo hi nm nu := HW2.out.below hb3 hg2
    obtain ⟨c0, c1, c2, c3, c4, c5⟩ := hW3.cells
    have HW3 := Lib.hid hW3
    have hg3 := hW3.lt
    have HB3 := Lib.hid (HB2.out.trans (hb3.mono HB2.out.size))
    have HO3 := Lib.hid (own_below HO2.out hb3 (Nat.le_refl _))
    clear hW3 hb3 HW2 HB2 HO2 hds
    go_wp2_with fail
    refine (append_ok v2 (enc k) _ lo w3 (Bytes.of_own HO3.out) (by omega) (by omega)).mono ?_
    rintro e w4 ⟨v4, rfl, ho4, hb4⟩
    have hW4 : PRow w4 w.heap.size k m lo hi nm nu := HW3.out.below hb4 hg3
    obtain ⟨c0, c1, c2, c3, c4, c5⟩ := hW4.cells
    have HO4 := Lib.hid ho4
    have HB4 := Lib.hid (HB3.out.trans (hb4.mono HB3.out.size))
    clear ho4 hb4 hW4 HW3 HB3 HO3 hg3
    go_wp2_with fail
    refine (append_ok v4 (enc k ++ enc lo) _ hi w4 (Bytes.of_own HO4.out) (by rw [List.length_append]; omega) (by omega)).mono ?_
    rintro e w5 ⟨v5, rfl, ho5, hb5⟩
    rw [List.append_assoc] at ho5
    have HO5 := Lib.hid (Bytes.of_own ho5)
    have HB5 := Lib.hid (HB4.out.trans (hb5.mono HB4.out.size))
    clear ho5 hb5
    go_wp2
    go_ret2
    rw [HE.out]
    exact ⟨_, rfl, HO5.out.mono fun _ _ _ => trivial, HB5.out⟩
  · obtain ⟨a, c, d, hds, hfd⟩ := desc_kind 6 hk7 3 rfl
    have HE : Hid (EB = fld nm) := Lib.hid (by rw [hEB]; rfl)
    clear hEB
    have hnm : nm.length ≤ 16 := by
      have : nmok nm := by
        rcases hp with h | h | h | h | h | h | h
        all_goals first | (exact h.2.2.2.2.1) | (have := h.1; omega)
      exact this.2.1
    have hcv := fun W => conv_str (sof nm) W
    clear hp hk
    go_wp2_with fail
    refine (hds w2).mono ?_
    rintro e w3 ⟨rfl, hb3⟩
    have hW3 : PRow w3 w.heap.size _ m lo hi nm nu := HW2.out.below hb3 hg2
    obtain ⟨c0, c1, c2, c3, c4, c5⟩ := hW3.cells
    have HW3 := Lib.hid hW3
    have hg3 := hW3.lt
    have HB3 := Lib.hid (HB2.out.trans (hb3.mono HB2.out.size))
    have HO3 := Lib.hid (own_below HO2.out hb3 (Nat.le_refl _))
    clear hW3 hb3 HW2 HB2 HO2 hds
    have hM := (own_str (sof nm) (by rw [sof_size]; omega) w3 w3.heap.size (Nat.le_refl _)).bytes
    rw [sbytes_sof] at hM
    have hO := ((Bytes.of_own HO3.out).alloc (Obj.cells (strRow (sof nm) w3) 5 ((strRow (sof nm) w3).size, (strRow (sof nm) w3).size + 1))).drew
    have hfa : fap (enc 6) nm = (enc 6 ++ fld nm, 0) := by unfold fap; rw [if_pos (by omega)]
    have hap := fappend _ _ (enc 6) nm _ _ _ hO hM (by omega)
    rw [hfa] at hap
    have HAP := Lib.hid hap
    have HBW := Lib.hid (HB3.out.trans (((Below.refl w3.heap.size w3).alloc (Nat.le_refl _) (Obj.cells (strRow (sof nm) w3) 5 ((strRow (sof nm) w3).size, (strRow (sof nm) w3).size + 1))).drew.mono HB3.out.size))
    clear hM hO hfa hap
    go_wp2_with fail
    refine HAP.out.mono ?_
    rintro e w4 ⟨v4, rfl, ho4, hb4⟩
    have HO4 := Lib.hid ho4
    have HB4 := Lib.hid (HBW.out.trans (hb4.mono HBW.out.size))
    clear ho4 hb4
    go_wp2
    go_ret2
    rw [HE.out]
    exact ⟨_, rfl, HO4.out, HB4.out⟩
  · obtain ⟨a, c, d, hds, hfd⟩ := desc_kind 7 hk7 4 rfl
    have hEB1 : EB = enc nu.toNat := by rw [hEB]; rfl
    clear hEB
    obtain ⟨nu, rfl⟩ := Int.eq_ofNat_of_zero_le (show 0 ≤ nu by omega)
    simp only [Int.toNat_natCast] at hEB1
    have HE := Lib.hid hEB1
    clear hEB1
    have hnu : nu ≤ 1000000 := by omega
    clear hp hk
    go_wp2_with fail
    refine (hds w2).mono ?_
    rintro e w3 ⟨rfl, hb3⟩
    have hW3 : PRow w3 w.heap.size _ m lo hi nm nu := HW2.out.below hb3 hg2
    obtain ⟨c0, c1, c2, c3, c4, c5⟩ := hW3.cells
    have HW3 := Lib.hid hW3
    have HB3 := Lib.hid (HB2.out.trans (hb3.mono HB2.out.size))
    have HO3 := Lib.hid (own_below HO2.out hb3 (Nat.le_refl _))
    clear hW3 hb3 HW2 HB2 HO2 hds
    go_wp2_with fail
    refine (append_ok v2 (enc 7) _ nu w3 (Bytes.of_own HO3.out) (by omega) (by omega)).mono ?_
    rintro e w4 ⟨v4, rfl, ho4, hb4⟩
    have HO4 := Lib.hid (Bytes.of_own ho4)
    have HB4 := Lib.hid (HB3.out.trans (hb4.mono HB3.out.size))
    clear ho4 hb4
    go_wp2
    go_ret2
    rw [HE.out]
    exact ⟨_, rfl, HO4.out.mono fun _ _ _ => trivial, HB4.out⟩
end Go.Proofs.YtiikhjifjdpgdaaDoor
