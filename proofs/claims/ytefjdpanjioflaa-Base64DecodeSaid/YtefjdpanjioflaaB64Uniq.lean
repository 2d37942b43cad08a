/-
  The law Base64Unique: true, for all arguments.
-/
import Derived.Test.YtefjdpanjioflaaB64Awake
import Derived.Deep.RegionHeld3
import Derived.RegionTactic
import Derived.ChangeAlike
namespace Go.Proofs.Ytefjdpanjioflaa
open Go Go.RowKit Sh Leaf

theorem sof_cut (l : List B8) (m : Nat) : (sof l).extract 0 (l.take m).length = sof (l.take m) := by
  rw [sof_to]
  congr 1
  rw [List.length_take, List.take_eq_take_iff]
  omega
theorem one_bv : (1 : Int) = bv (BitVec.ofNat 8 1) := by rw [bv_lit 1 (by omega)]; rfl
/-- string([]byte{y}), behind the literal. -/
theorem conv_one (z : Int) (y : B8) (hz : z = bv y) (W : World) : (convert 22 9 (.slice (some ⟨W.heap.size, 0, none⟩) 1 1)).run Try.prog (W.alloc (.cells #[.int .u8 z] 5)).drew = .ok (.string (sof [y])) (W.alloc (.cells #[.int .u8 z] 5)).drew :=
  conv_sof (bytes_one W z y hz).drew
theorem txt_bounds (p : List B8) (x : B8) : 2 ≤ (txt (p ++ [x])).length ∧ (txt (p ++ [x])).length ≤ 2 * p.length + 3 := by
  rw [txt_length, List.length_append, List.length_singleton]; omega
theorem run_add_sof (a b : List B8) (h : a.length + b.length ≤ 1000000) (W : World) : (Op.stringOp .add (sof a) (sof b)).run Try.prog W = .ok (.string (sof (a ++ b))) W := by
  rw [run_string_add_sum W _ _ (by rw [sof_size, sof_size]; omega), sof_append]
theorem run_to_sof (l : List B8) (z : Int) (k : Nat) (hz : z = (k : Int)) (hk : k ≤ l.length) (W : World) : (Instr.slice 9 (.string (sof l)) none (some (.int .i64 z)) none).run Try.prog W = .ok (.string (sof (l.take k))) W := by
  subst hz
  rw [run_slice_string_to_if W 9 _ .i64 (k : Int) Try.underlying9, if_pos ⟨by omega, by rw [sof_size]; omega⟩, Int.toNat_natCast, sof_to]
theorem run_from_sof (l : List B8) (z : Int) (k : Nat) (hz : z = (k : Int)) (hk : k ≤ l.length) (W : World) : (Instr.slice 9 (.string (sof l)) (some (.int .i64 z)) none none).run Try.prog W = .ok (.string (sof (l.drop k))) W := by
  subst hz
  rw [run_slice_string_from_if W 9 _ .i64 (k : Int) Try.underlying9, if_pos ⟨by omega, by rw [sof_size]; omega⟩, Int.toNat_natCast, sof_from]

set_option maxRecDepth 100000 in
set_option maxHeartbeats 4000000 in
theorem unique_law (s0 : List B8) (hs0 : s0.length ≤ 9223372036854775807) (A : Option Addr) (l : List B8) (c : Nat) (Q : Nat → Prop) (y : B8) (w : World) (hb : Bytes w Q (.slice A l.length c) l) :
    Calls Try.prog 6 #[.string (sof s0), .slice A l.length c, byt y] w fun e w' => e = .returned (.bool true) ∧ Below w.heap.size w w' := by
  obtain ⟨A0, c0, e0, h1, h2, h3, h4⟩ := id hb
  cases e0
  have hsz := sof_size s0
  have hp := hb.cut 100
  have E1 := Lib.hid (min_take s0 300)
  have E2 := Lib.hid (min_take l 100)
  clear hb h4
  go_enter Try.func6, Try.ntmps6
  go_wp2
  go_quiet (fail)
  rw [show (300 : Int) = ((300 : Nat) : Int) by rfl, show (100 : Int) = ((100 : Nat) : Int) by rfl, E1.out, E2.out]
  simp only [Int.toNat_natCast]
  rw [sof_cut]
  have hsl : (s0.take 300).length ≤ 300 := by simp; omega
  have hpl : (l.take 100).length ≤ 100 := by simp; omega
  clear E1 E2 hsz
  generalize s0.take 300 = s at hsl ⊢
  generalize l.take 100 = p at hp hpl ⊢
  have hp0 := (hp.drewN nq).mono (Q' := fun g => g < w.heap.size) fun g hg _ => hg
  have hb0 : Below w.heap.size w (w.drewN nq) := below_drewN (Below.refl _ _) nq
  have hsz : w.heap.size ≤ (w.drewN nq).heap.size := hb0.size
  generalize w.drewN nq = W0 at hp0 hb0 hsz ⊢
  clear hp h1 h2 h3
  go_wp2_with (at_builtin; go_must (first
    | ((refine wpList_append_bytes rfl (.tmp 25) (.tmp 26) rfl W0.heap.size (.slice (some ⟨W0.heap.size, 0, none⟩) 0 0) [] rfl (own_lit W0 W0.heap.size [] (Nat.le_refl _) (by simp)) _ _ p rfl (hp0.alloc _) (by simp; omega) (by simp) ?_); intro v1 w1 hown1 hb1; rw [List.nil_append] at hown1; have hq1 := (hb0.alloc (by omega) (.cells #[] 5)).trans (hb1.mono hsz); have hs1 := hq1.size; have hs01 : W0.heap.size ≤ w1.heap.size := Nat.le_trans (by simp) hb1.size)
    | ((refine wpList_append_bytes rfl (.tmp 27) (.tmp 28) rfl W0.heap.size v1 p rfl (hown1.alloc _) _ (.slice (some ⟨w1.heap.size, 0, none⟩) 1 1) [BitVec.ofNat 8 1] rfl (bytes_one w1 _ _ one_bv) (by simp only [List.length_singleton]; omega) (by simp; omega) ?_); intro v2 w2 hown2 hb2; have hq2 := (hq1.alloc (by omega) (.cells #[.int .u8 1] 5)).trans (hb2.mono hsz))))
  have hv2 := Bytes.of_own hown2
  have hs2 := hq2.size
  have HE := Lib.hid (ec_short (p := p ++ [1]) (by simp; omega))
  obtain ⟨hT0, hT1⟩ := txt_bounds p 1
  have hpq : ∀ g, g < w.heap.size → w2.heap[g]? = W0.heap[g]? := fun g hg => (hq2.block g hg).trans (hb0.block g hg).symm
  have hp2 := hp0.keep (w' := w2) fun g _ hg => hpq g hg
  clear hown1 hown2 hq1 hs1 hs01 hb1 hb2 hpq hp0 hb0
  refine (rtext v2 (p ++ [1]) _ _ hv2).mono ?_
  rintro e w3 ⟨rfl, hb3⟩
  rw [HE.out]
  have hq3 := hq2.trans (hb3.mono hs2)
  clear hv2 hp2 hb3 hq2 hs2 HE
  generalize txt (p ++ [1]) = T at *
  have hszT := sof_size T
  have hsl3 := run_to_sof T ((T.length : Int) - 1) (T.length - 1) (by omega) (by omega)
  have hadd := run_add_sof (T.take (T.length - 1)) [y] (by simp; omega)
  have hcv := conv_one (bv y) y rfl w3
  have hZl : (T.take (T.length - 1) ++ [y]).length ≤ 300 := by simp; omega
  generalize T.take (T.length - 1) ++ [y] = Z at *
  generalize T.take (T.length - 1) = T1 at *
  go_wp2_with fail
  go_region
  have hq4 := (hq3.alloc hq3.size (.cells #[Value.int .u8 (bv y)] 5)).drew
  clear hcv hadd hsl3 hq3 hT0 hT1
  generalize (w3.alloc (.cells #[Value.int .u8 (bv y)] 5)).drew = w4 at hq4 ⊢
  go_wp2_with fail
  go_loopw [0, 9] (fun vs vk wr => ∃ (k : Nat) (S : List B8), k ≤ 2 ∧ vk = .int .i64 k ∧ vs = .string (sof S) ∧ S.length ≤ 300 ∧ Below w.heap.size w wr) (fun _ vk _ => 2 - (intOf vk).toNat)
  case atStart => exact ⟨0, s, by omega, rfl, rfl, hsl, hq4⟩
  case round =>
    obtain ⟨k, S, hk, rfl, rfl, hSl, hq⟩ := hrel
    clear hq4
    by_cases hk2 : k < 2
    · have hk2' : (k : Int) < 2 := by omega
      have hszS := sof_size S
      go_wp2_with fail
      refine (decode S (by omega) _).mono ?_
      rintro e w5 ⟨v5, rfl, hown, hb5⟩
      have hq5 := hq.trans (hb5.mono hq.size)
      have hob := Bytes.of_own hown
      clear hown hb5 hq
      rcases dc_cases S with ⟨E, hE, hdc⟩ | ⟨g1, g2, g3, g4, hdc⟩
      · rw [hdc] at hob ⊢
        obtain ⟨A5, c5, rfl, -⟩ := id hob
        have hE' : ¬ ((E : Nat) : Int) = 0 := by omega
        clear hdc
        go_wp2_with fail
        refine (encode _ [] _ _ hob).mono ?_
        rintro e w6 ⟨rfl, hb6⟩
        have hq6 := hq5.trans (hb6.mono hq5.size)
        obtain ⟨U, F, hUF⟩ : ∃ U F, ec [] = (U, F) := ⟨_, _, rfl⟩
        rw [hUF]
        clear hUF hob hq5 hb6
        go_wp2
        go_roundw
        case rel => exact ⟨k + 1, Z, by omega, by go_num, rfl, hZl, hq6⟩
        case measure => simp [intOf]; omega
      · rw [hdc] at hob ⊢
        have hXl : (dec8 (vl S)).length ≤ 4096 := by rw [dec8_length, vl_length]; omega
        have HE2 := Lib.hid (ec_ok (b := dec8 (vl S)) (by omega))
        have HT2 := Lib.hid (txt_dec g2 g3 g4)
        have hself := sof_self S
        clear hdc g1 g2 g3 g4
        generalize dec8 (vl S) = X at *
        obtain ⟨A5, c5, rfl, -⟩ := id hob
        go_wp2_with fail
        refine (encode _ X _ _ hob).mono ?_
        rintro e w6 ⟨rfl, hb6⟩
        rw [HE2.out]
        simp only
        rw [HT2.out]
        have hq6 := hq5.trans (hb6.mono hq5.size)
        clear hob hq5 hb6
        go_wp2
        go_roundw
        case rel => exact ⟨k + 1, Z, by omega, by go_num, rfl, hZl, hq6⟩
        case measure => simp [intOf]; omega
    · have hk3 : k = 2 := by omega
      subst hk3
      go_wp2_with (go_at_call 9; refine (bawake _).mono ?_; rintro e w9 ⟨rfl, hb9⟩)
      go_ret
      exact ⟨rfl, hq.trans (hb9.mono hq.size)⟩
end Go.Proofs.Ytefjdpanjioflaa
