/-
  The law Base64Decode: true, for all arguments.
-/
import Derived.Test.YtefjdpanjioflaaB64Uniq
import Derived.Test.YtefjdpanjioflaaKWithin
namespace Go.Proofs.Ytefjdpanjioflaa
open Go Go.RowKit Sh Leaf

theorem sev_bv : (77 : Int) = bv (BitVec.ofNat 8 77) := by rw [bv_lit 77 (by omega)]; rfl
abbrev eight : List B8 := [65, 66, 81, 103, 119, 95, 45, 57]
theorem eight_sof : ({ data := #[65, 66, 81, 103, 119, 95, 45, 57] } : ByteArray) = sof eight := by unfold sof; rfl
theorem eight_index (c : B8) (W : World) : (Instr.index 9 (.string { data := #[65, 66, 81, 103, 119, 95, 45, 57] }) (.int .u8 ((bv c).tmod 8))).run Try.prog W = .ok (byt (eight.getD (c.toNat % 8) 0)) W := by
  rw [eight_sof]
  exact run_index_sof W 9 eight .u8 _ (c.toNat % 8) Try.underlying9 (by rw [Int.tmod_eq_emod_of_nonneg (bv_nonneg c), bv_toNat]; omega) (by simp [eight]; omega)

theorem dc_len (S : List B8) (h : S.length ≤ 1000) : (dc S).1.length ≤ 1000000 := by
  rcases dc_cases S with ⟨E, _, hdc⟩ | ⟨_, _, _, _, hdc⟩
  · rw [hdc]; simp
  · rw [hdc]; show (dec8 (vl S)).length ≤ _; rw [dec8_length, vl_length]; omega

set_option maxRecDepth 100000 in
set_option maxHeartbeats 8000000 in
theorem decode_law (s0 : List B8) (hs0 : s0.length ≤ 9223372036854775807) (A : Option Addr) (l : List B8) (c : Nat) (Q : Nat → Prop) (at_ : Int) (hat : -9223372036854775808 ≤ at_ ∧ at_ ≤ 9223372036854775807) (y : B8) (how : Int) (hh : 0 ≤ how ∧ how ≤ 255) (w : World) (hb : Bytes w Q (.slice A l.length c) l) :
    Calls Try.prog 4 #[.string (sof s0), .slice A l.length c, .int .i64 at_, byt y, .int .u8 how] w fun e w' => e = .returned (.bool true) ∧ Below w.heap.size w w' := by
  obtain ⟨A0, c0, e0, h1, h2, h3, h4⟩ := id hb
  cases e0
  obtain ⟨hh0, hh1⟩ := hh
  have hsz := sof_size s0
  have hp := hb.cut 200
  have E1 := Lib.hid (min_take s0 600)
  have E2 := Lib.hid (min_take l 200)
  clear hb h4
  go_enter Try.func4, Try.ntmps4
  go_wp2
  go_quiet (fail)
  rw [show (600 : Int) = ((600 : Nat) : Int) by rfl, show (200 : Int) = ((200 : Nat) : Int) by rfl, E1.out, E2.out]
  simp only [Int.toNat_natCast]
  rw [sof_cut]
  have hsl : (s0.take 600).length ≤ 600 := by simp; omega
  have hpl : (l.take 200).length ≤ 200 := by simp; omega
  clear E1 E2 hsz
  generalize s0.take 600 = s at hsl ⊢
  generalize l.take 200 = p at hp hpl ⊢
  have hp0 := (hp.drewN nq).mono (Q' := fun g => g < w.heap.size) fun g hg _ => hg
  have hb0 : Below w.heap.size w (w.drewN nq) := below_drewN (Below.refl _ _) nq
  have hsz : w.heap.size ≤ (w.drewN nq).heap.size := hb0.size
  generalize w.drewN nq = W0 at hp0 hb0 hsz ⊢
  clear hp h1 h2 h3
  go_wp2_with (at_builtin; go_must (first
    | ((refine wpList_append_bytes rfl (.tmp 32) (.tmp 33) rfl W0.heap.size v1 p rfl (hown1.alloc _) _ (.slice (some ⟨w1.heap.size, 0, none⟩) 1 1) [BitVec.ofNat 8 77] rfl (bytes_one w1 _ _ sev_bv) (by simp only [List.length_singleton]; omega) (by simp; omega) ?_); intro v2 w2 hown2 hb2; have hq2 := (hq1.alloc (by omega) (.cells #[.int .u8 77] 5)).trans (hb2.mono hsz))
    | ((refine wpList_append_bytes rfl (.tmp 30) (.tmp 31) rfl W0.heap.size (.slice (some ⟨W0.heap.size, 0, none⟩) 0 0) [] rfl (own_lit W0 W0.heap.size [] (Nat.le_refl _) (by simp)) _ _ p rfl (hp0.alloc _) (by simp; omega) (by simp) ?_); intro v1 w1 hown1 hb1; rw [List.nil_append] at hown1; have hq1 := (hb0.alloc (by omega) (.cells #[] 5)).trans (hb1.mono hsz); have hs1 := hq1.size; have hs01 : W0.heap.size ≤ w1.heap.size := Nat.le_trans (by simp) hb1.size)))
  have hv2 := Bytes.of_own hown2
  have hs2 := hq2.size
  have HE := Lib.hid (ec_short (p := p ++ [77]) (by simp; omega))
  obtain ⟨hT0, hT1⟩ := txt_bounds p 77
  clear hown1 hown2 hq1 hs1 hs01 hb1 hb2 hp0 hb0
  refine (rtext v2 (p ++ [77]) _ _ hv2).mono ?_
  rintro e w3 ⟨rfl, hb3⟩
  rw [HE.out]
  have hq3 := hq2.trans (hb3.mono hs2)
  clear hv2 hb3 hq2 hs2 HE
  generalize txt (p ++ [77]) = T at *
  have hszT := sof_size T
  go_wp2_with fail
  refine (within_ at_ T.length (by omega) (by omega) hat _).mono ?_
  rintro e w4 ⟨⟨i, hi, rfl⟩, rfl⟩
  have hi' : i < T.length := by omega
  have hto := run_to_sof T (i : Int) i rfl (by omega)
  have hfr := run_from_sof T ((i : Int) + 1) (i + 1) (by omega) (by omega)
  have hfr0 := run_from_sof T (i : Int) i rfl (by omega)
  rcases (by omega : how % 4 = 0 ∨ how % 4 = 1 ∨ how % 4 = 2 ∨ how % 4 = 3) with hw | hw | hw | hw
  case' inl =>
    have hcv := conv_one (bv y) y rfl w4
    have had1 := run_add_sof (T.take i) [y] (by simp; omega)
    have had2 := run_add_sof (T.take i ++ [y]) (T.drop (i + 1)) (by simp; omega)
    have hZl : (T.take i ++ [y] ++ T.drop (i + 1)).length ≤ 1000 := by simp; omega
    generalize T.take i ++ [y] ++ T.drop (i + 1) = Z at *
    generalize T.take i ++ [y] = T2 at *
    generalize T.take i = T1 at *
    generalize T.drop (i + 1) = T3 at *
    go_wp2
    go_region
    have hq5 := (hq3.alloc hq3.size (.cells #[Value.int .u8 (bv y)] 5)).drew
    clear hcv had1 had2 hto hfr hfr0 hq3 hw hT0 hT1
    generalize (w4.alloc (.cells #[Value.int .u8 (bv y)] 5)).drew = w5 at hq5 ⊢
  case' inr.inl =>
    have had1 := run_add_sof (T.take i) (T.drop (i + 1)) (by simp; omega)
    have hZl : (T.take i ++ T.drop (i + 1)).length ≤ 1000 := by simp; omega
    generalize T.take i ++ T.drop (i + 1) = Z at *
    generalize T.take i = T1 at *
    generalize T.drop (i + 1) = T3 at *
    go_wp2
    go_region
    have hq5 := hq3.drew
    clear had1 hto hfr hfr0 hq3 hw hT0 hT1
    generalize w4.drew = w5 at hq5 ⊢
  case' inr.inr.inl =>
    have hcv := conv_one (bv y) y rfl w4
    have had1 := run_add_sof (T.take i) [y] (by simp; omega)
    have had2 := run_add_sof (T.take i ++ [y]) (T.drop i) (by simp; omega)
    have hZl : (T.take i ++ [y] ++ T.drop i).length ≤ 1000 := by simp; omega
    generalize T.take i ++ [y] ++ T.drop i = Z at *
    generalize T.take i ++ [y] = T2 at *
    generalize T.take i = T1 at *
    generalize T.drop i = T3 at *
    go_wp2
    go_region
    have hq5 := (hq3.alloc hq3.size (.cells #[Value.int .u8 (bv y)] 5)).drew
    clear hcv had1 had2 hto hfr hfr0 hq3 hw hT0 hT1
    generalize (w4.alloc (.cells #[Value.int .u8 (bv y)] 5)).drew = w5 at hq5 ⊢
  case' inr.inr.inr =>
    have hx := eight_index y
    have hsl3 := run_to_sof T ((T.length : Int) - 1) (T.length - 1) (by omega) (by omega)
    generalize eight.getD (y.toNat % 8) 0 = d at *
    have hcv := conv_one (bv d) d rfl w4
    have had1 := run_add_sof (T.take (T.length - 1)) [d] (by simp; omega)
    have hZl : (T.take (T.length - 1) ++ [d]).length ≤ 1000 := by simp; omega
    generalize T.take (T.length - 1) ++ [d] = Z at *
    generalize T.take (T.length - 1) = T1 at *
    go_wp2
    go_region
    have hq5 := (hq3.alloc hq3.size (.cells #[Value.int .u8 (bv d)] 5)).drew
    clear hcv had1 hsl3 hx hto hfr hfr0 hq3 hw hT0 hT1
    generalize (w4.alloc (.cells #[Value.int .u8 (bv d)] 5)).drew = w5 at hq5 ⊢
  all_goals
    go_wp2_with fail
    go_loopw [0, 14] (fun vs vk wr => ∃ (k : Nat) (S : List B8), k ≤ 2 ∧ vk = .int .i64 k ∧ vs = .string (sof S) ∧ S.length ≤ 1000 ∧ Below w.heap.size w wr) (fun _ vk _ => 2 - (intOf vk).toNat)
    case atStart => exact ⟨0, s, by omega, rfl, rfl, by omega, hq5⟩
    case round =>
      obtain ⟨k, S, hk, rfl, rfl, hSl, hq⟩ := hrel
      clear hq5
      by_cases hk2 : k < 2
      · have hk2' : (k : Int) < 2 := by omega
        have hXl := dc_len S hSl
        obtain ⟨X, E, hdc⟩ : ∃ X E, dc S = (X, E) := ⟨_, _, rfl⟩
        rw [hdc] at hXl
        have hXl' : X.length ≤ 1000000 := hXl
        have HDC := Lib.hid hdc
        clear hdc hXl
        go_wp2_with fail
        refine (decode S (by omega) _).mono ?_
        rintro e w6 ⟨v6, rfl, hown, hb6⟩
        rw [HDC.out] at hown ⊢
        have hq6 := hq.trans (hb6.mono hq.size)
        have hob := Bytes.of_own hown
        obtain ⟨A6, c6, rfl, -⟩ := id hob
        clear hown hb6 hq
        go_wp2_with fail
        refine (rbytes S (by omega) _).mono ?_
        rintro e w7 ⟨v7, rfl, hob7, hb7⟩
        rw [HDC.out] at hob7 ⊢
        have hq7 := hq6.trans (hb7.mono hq6.size)
        have hob6 := hob.below hb7 (Nat.le_refl _)
        obtain ⟨A7, c7, rfl, -⟩ := id hob7
        clear hob hb7 hq6
        go_wp2_with (go_at_call 13; refine (same_ _ _ X X _ _ _ hob6 hob7 hXl' hXl').mono ?_; rintro e w8 ⟨rfl, hb8⟩; rw [show decide (X = X) = true by simp])
        have hq8 := hq7.trans (hb8.mono hq7.size)
        clear hob6 hob7 hb8 hq7
        go_roundw
        case rel => exact ⟨k + 1, Z, by omega, by go_num, rfl, hZl, hq8⟩
        case measure => simp [intOf]; omega
      · have hk3 : k = 2 := by omega
        subst hk3
        go_wp2_with (go_at_call 9; refine (bawake _).mono ?_; rintro e w9 ⟨rfl, hb9⟩)
        go_ret
        exact ⟨rfl, hq.trans (hb9.mono hq.size)⟩
end Go.Proofs.Ytefjdpanjioflaa
