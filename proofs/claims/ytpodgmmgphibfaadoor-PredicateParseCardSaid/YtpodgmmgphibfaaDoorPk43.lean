/-
  The reference's Format.
  The law PredicateFormat.
-/
import Derived.Deep.RegionHeld3
import Derived.Test.YtpodgmmgphibfaaDoorPk42
import Derived.Test.YtpodgmmgphibfaaDoorPk27
import Derived.Test.YtpodgmmgphibfaaDoorPk31
import Derived.Test.YtpodgmmgphibfaaDoorPk25
import Derived.Test.YtpodgmmgphibfaaDoorPk13
namespace Go.Proofs.YtpodgmmgphibfaaDoor
open Go Go.RowKit Sh Leaf

theorem joi_bits (m i : Nat) : joi 44 ((bitl m (i + 1)).map dcm) = if m / 2 ^ i % 2 = 1 then (if bitl m i = [] then dcm i else joi 44 ((bitl m i).map dcm) ++ 44 :: dcm i) else joi 44 ((bitl m i).map dcm) := by
  rw [bitl_succ]
  by_cases h : m / 2 ^ i % 2 = 1
  · rw [if_pos h, if_pos h]
    by_cases h2 : bitl m i = []
    · rw [if_pos h2, h2]; rfl
    · rw [if_neg h2, List.map_append, List.map_cons, List.map_nil, joi_snoc _ _ (by simpa using h2)]
  · rw [if_neg h, if_neg h, List.append_nil]
theorem joi_none (m i : Nat) : joi 44 ((bitl m i).map dcm) = [] ↔ bitl m i = [] := by
  constructor
  · intro h
    by_cases h2 : bitl m i = []
    · exact h2
    · exact absurd h (joi_pos (by simpa using h2) fun a ha => by obtain ⟨j, _, rfl⟩ := List.mem_map.1 ha; exact dcm_ne j)
  · intro h; rw [h]; rfl
theorem joi_part (m i : Nat) (hi : i ≤ 64) : (joi 44 ((bitl m i).map dcm)).length ≤ 192 := by
  have hl : (bitl m i).length ≤ 64 := by unfold bitl; exact Nat.le_trans (List.length_filter_le _ _) (by rw [List.length_range]; exact hi)
  have h := joi_len ((bitl m i).map dcm) 2 (fun l hl => by
    obtain ⟨j, hj, rfl⟩ := List.mem_map.1 hl
    have := bitl_lt hj
    exact dcm_len 1 j (by omega))
  rw [List.length_map] at h
  omega
theorem tst_val (m i : Nat) : ((m : Int) / 2 ^ i).tmod 2 = ((m / 2 ^ i % 2 : Nat) : Int) := by
  have e : (m : Int) / 2 ^ i = ((m / 2 ^ i : Nat) : Int) := by simp
  rw [e, Int.tmod_eq_emod_of_nonneg (Int.natCast_nonneg _)]
  rfl
theorem tst_bit (m i : Nat) (h : m / 2 ^ i % 2 = 1) : (((m : Int) / 2 ^ i).tmod 2 == 1) = true := by rw [tst_val, h]; rfl
theorem tst_nobit (m i : Nat) (h : ¬ m / 2 ^ i % 2 = 1) : (((m : Int) / 2 ^ i).tmod 2 == 1) = false := by rw [tst_val, show m / 2 ^ i % 2 = 0 by omega]; rfl
/-- What is known ahead of the end of Format: the text behind the word. -/
def FmR (p : Prd) (w : World) (v : Value) (wx : World) : Prop := v = .string (sof (pbody p)) ∧ PRow wx w.heap.size p.kind p.mask p.lo p.hi p.name p.num ∧ Below w.heap.size w wx
set_option linter.unusedVariables false in
set_option maxRecDepth 100000 in
set_option maxHeartbeats 4000000 in
theorem rformat (p : Prd) (hm : p.mask < 18446744073709551616) (hn : p.name.length ≤ 9223372036854775807) (w : World) :
    Calls Tryd.prog 16 #[pv p] w fun e w' => e = .returned (.tuple #[.string (sof (fm p).1), .int .i64 ((fm p).2 : Int)]) ∧ Below w.heap.size w w' := by
  have hv := fun W => rvalid p hm hn W
  have HP0 : Hid (∀ k m lo hi nm nu, PRow (w.alloc (.cells (prow k m lo hi nm nu) 24)) w.heap.size k m lo hi nm nu) := Lib.hid fun k m lo hi nm nu => Whole.here w _ _
  have hbx : ∀ o, Below w.heap.size w (w.alloc o) := fun o => (Below.refl w.heap.size w).alloc (Nat.le_refl _) o
  by_cases hp : pok p
  case neg =>
    have hf : fm p = ([], 5) := by unfold fm; rw [if_neg hp]
    rw [hf, sof_none]
    rw [decide_eq_false hp] at hv
    clear hf hp
    obtain ⟨k, m, lo, hi, nm, nu⟩ := p
    unfold pv at hv ⊢
    simp only at hm hn hv ⊢
    go_enter Tryd.func16, Tryd.ntmps16
    go_wp2_with (first | (with_reducible refine wpList_load_prd rfl _ rfl (g := w.heap.size) rfl (HP0.out _ _ _ _ _ _) ?_))
    refine (hv _).mono ?_
    rintro e w1 ⟨rfl, hb1⟩
    have HB := Lib.hid ((hbx _).trans (hb1.mono (by simp)))
    clear hb1
    go_wp2
    go_ret2
    exact ⟨rfl, HB.out⟩
  have hf : fm p = (wd p.kind ++ 32 :: pbody p, 0) := by unfold fm; rw [if_pos hp]; rfl
  rw [hf]
  rw [decide_eq_true hp] at hv
  have hpl := pbody_len hp
  have hwl := wd_len p.kind
  have hk := pok_kind hp
  obtain ⟨k, m, lo, hi, nm, nu⟩ := p
  unfold pv at hv ⊢
  obtain ⟨k, rfl⟩ := Int.eq_ofNat_of_zero_le (show 0 ≤ k by have := hk.1; simp only at this; omega)
  unfold pok at hp
  simp only at hm hn hv hp hk hpl hwl ⊢
  have hk7 : 1 ≤ k ∧ k ≤ 7 := by omega
  go_enter Tryd.func16, Tryd.ntmps16
  go_wp2_with (first | (with_reducible refine wpList_load_prd rfl _ rfl (g := w.heap.size) rfl (HP0.out _ _ _ _ _ _) ?_))
  refine (hv _).mono ?_
  rintro e w1 ⟨rfl, hb1⟩
  have HP1 := Lib.hid ((HP0.out (k : Int) (m : Int) lo hi nm nu).below hb1 (by simp))
  have HB1 := Lib.hid ((hbx (.cells (prow (k : Int) (m : Int) lo hi nm nu) 24)).trans (hb1.mono (by simp)))
  clear hb1 HP0 hbx hv hf
  have hc := PRow.cells HP1.out
  obtain ⟨c0, c1, c2, c3, c4, c5⟩ := hc
  go_upto_block 0 with fail
  go_cut [0, 4, 10] (fun _ v _ wx => FmR ⟨k, m, lo, hi, nm, nu⟩ w v wx)
  case first =>
    rcases (by omega : k ≤ 3 ∨ (4 ≤ k ∧ k ≤ 5) ∨ k = 6 ∨ k = 7) with hk3 | ⟨hk4, hk5⟩ | rfl | rfl
    · have HE : Hid (pbody ⟨(k : Int), m, lo, hi, nm, nu⟩ = joi 44 ((bitl m 64).map dcm)) := Lib.hid (by unfold pbody; exact if_pos (show (k : Int) ≤ 3 by omega))
      have hkk : (k : Int) = 1 ∨ (k : Int) = 2 ∨ (k : Int) = 3 := by omega
      have hz : joi 44 ((bitl m 0).map dcm) = [] := rfl
      have HP1' := HP1.out
      have HB1' := HB1.out
      clear hp hpl hwl hk hk7 c2 c3 c4 c5
      rcases hkk with hkk | hkk | hkk
      all_goals
        go_wp2_with fail
        clear c1
        go_loopw [4, 5] (fun vs vi wr => ∃ i : Nat, i ≤ 64 ∧ vi = .int .i64 (i : Int) ∧ vs = .string (sof (joi 44 ((bitl m i).map dcm))) ∧ PRow wr w.heap.size k m lo hi nm nu ∧ Below w.heap.size w wr) (fun _ vi _ => (64 - intOf vi).toNat)
        case atStart => exact ⟨0, by omega, rfl, by rw [hz, sof_none], HP1', HB1'⟩
        case round =>
          clear HP1' HB1' hkk
          obtain ⟨i, hi6, rfl, rfl, hPr, hBr⟩ := hrel
          by_cases h8 : i = 64
          · subst h8
            have HF : Hid (FmR ⟨(k : Int), m, lo, hi, nm, nu⟩ w (.string (sof (joi 44 ((bitl m 64).map dcm)))) wr) := Lib.hid ⟨by rw [HE.out], hPr, hBr⟩
            clear hPr hBr
            go_wp2_with fail
            go_meet
            exact HF.out
          · have hj8 : (i : Int) < 64 := by omega
            have hj8n : i < 64 := by omega
            have c1 := hPr.cells.2.1
            have HPr := Lib.hid hPr
            have HBr := Lib.hid hBr
            have hbits := joi_bits m i
            have hnone := joi_none m i
            have hSl := joi_part m i (by omega)
            have hc := rdecimal i (by omega) wr
            have hd2 := dcm_len 1 i (by omega)
            generalize joi 44 ((bitl m i).map dcm) = S at hbits hnone hSl ⊢
            obtain ⟨N, hN⟩ : ∃ N, N = joi 44 ((bitl m (i + 1)).map dcm) := ⟨_, rfl⟩
            rw [← hN] at hbits
            have HN := Lib.hid hN
            clear hPr hBr h8 hN
            by_cases hb : m / 2 ^ i % 2 = 1
            · have ht : (((m : Int) / 2 ^ i).tmod 2 == 1) = true := tst_bit m i hb
              rw [if_pos hb] at hbits
              by_cases hS : bitl m i = []
              · rw [if_pos hS] at hbits
                have hS0 := hnone.2 hS
                have he : (sof S).toList.isEmpty = true := by rw [hS0, sof_toList]; rfl
                have ha := fun W => add_sof S (dcm i) (by omega) W
                rw [show S ++ dcm i = N by rw [hS0, hbits]; rfl] at ha
                clear hbits hnone hS hS0 hb hSl
                go_wp2_with fail
                refine hc.mono ?_
                rintro e w2 ⟨rfl, hb2⟩
                clear hc
                go_wp2_with fail
                go_roundw
                case rel => exact ⟨i + 1, by omega, by go_num, by rw [HN.out], HPr.out.below hb2 HPr.out.lt, HBr.out.trans (hb2.mono HBr.out.size)⟩
                case measure => simp [intOf]; omega
              · rw [if_neg hS] at hbits
                have he : (sof S).toList.isEmpty = false := by
                  have h0 : S ≠ [] := fun e => hS (hnone.1 e)
                  rw [sof_toList]
                  cases S with
                  | nil => exact absurd rfl h0
                  | cons a l => rfl
                have q1 := add_lit S [44] { data := #[44] } (by unfold sof; rfl) (by simp only [List.length_singleton]; omega)
                have hN2 : S ++ [44] ++ dcm i = N := by rw [hbits]; simp
                obtain ⟨D, hD⟩ : ∃ D, D = S ++ [44] := ⟨_, rfl⟩
                have hDl : D.length ≤ 200 := by rw [hD, List.length_append, List.length_singleton]; omega
                rw [← hD] at q1 hN2
                have ha := fun W => add_sof D (dcm i) (by omega) W
                rw [hN2] at ha
                clear hbits hnone hS hb hSl hN2 hD
                go_wp2_with fail
                refine hc.mono ?_
                rintro e w2 ⟨rfl, hb2⟩
                clear hc
                go_wp2_with fail
                go_roundw
                case rel => exact ⟨i + 1, by omega, by go_num, by rw [HN.out], HPr.out.below hb2 HPr.out.lt, HBr.out.trans (hb2.mono HBr.out.size)⟩
                case measure => simp [intOf]; omega
            · have ht : (((m : Int) / 2 ^ i).tmod 2 == 1) = false := tst_nobit m i hb
              rw [if_neg hb] at hbits
              clear hnone hSl hb hc
              subst hbits
              go_wp2_with fail
              go_roundw
              case rel => exact ⟨i + 1, by omega, by go_num, by rw [HN.out], HPr.out, HBr.out⟩
              case measure => simp [intOf]; omega
    · have HE : Hid (pbody ⟨(k : Int), m, lo, hi, nm, nu⟩ = dcm lo.toNat ++ 45 :: dcm hi.toNat) := Lib.hid (by unfold pbody; exact (if_neg (show ¬ (k : Int) ≤ 3 by omega)).trans (if_pos (show (k : Int) ≤ 5 by omega)))
      obtain ⟨lo, rfl⟩ := Int.eq_ofNat_of_zero_le (show 0 ≤ lo by omega)
      obtain ⟨hi, rfl⟩ := Int.eq_ofNat_of_zero_le (show 0 ≤ hi by omega)
      simp only [Int.toNat_natCast] at HE
      have hlo : lo ≤ 67108864 := by omega
      have hhi : hi ≤ 67108864 := by omega
      have la := dcm_len 15 lo (by omega)
      have lb := dcm_len 15 hi (by omega)
      have ia := fun W => rdecimal lo (by omega) W
      have ib := fun W => rdecimal hi (by omega) W
      have q3 := add_lit (dcm lo) [45] { data := #[45] } (by unfold sof; rfl) (by simp only [List.length_singleton]; omega)
      have hD2 : dcm lo ++ [45] ++ dcm hi = dcm lo ++ 45 :: dcm hi := by simp
      obtain ⟨D, hD⟩ : ∃ D, D = dcm lo ++ [45] := ⟨_, rfl⟩
      have hDl : D.length ≤ 17 := by rw [hD, List.length_append, List.length_singleton]; omega
      rw [← hD] at q3 hD2
      have q4 := add_sof D (dcm hi) (by omega)
      rw [hD2] at q4
      have hg1 := HP1.out.lt
      have hcc : ∀ W, Below w1.heap.size w1 W → (W.cell? ⟨w.heap.size, 2, none⟩ = some (.int .i64 (lo : Int)) ∧ W.cell? ⟨w.heap.size, 3, none⟩ = some (.int .i64 (hi : Int))) := fun W hb => ⟨(PRow.cells (Whole.below HP1.out hb hg1)).2.2.1, (PRow.cells (Whole.below HP1.out hb hg1)).2.2.2.1⟩
      have hc0 := hcc w1 (Below.refl _ _)
      have hkk : (k : Int) = 4 ∨ (k : Int) = 5 := by omega
      clear hp hpl hwl hk hk7 c1 c2 c3 c4 c5 hD hD2
      rcases hkk with hkk | hkk
      all_goals
        go_wp2_with fail
        go_region_held3 (fun W => W.cell? ⟨w.heap.size, 2, none⟩ = some (.int .i64 (lo : Int)) ∧ W.cell? ⟨w.heap.size, 3, none⟩ = some (.int .i64 (hi : Int))) (first | exact hc0 | assumption | go_keep)
          (first
            | (have hXA' := hXA; go_at_call 38; refine (ib _).mono ?_; rintro e wB ⟨rfl, hbB⟩; have hXB : Below w1.heap.size w1 wB := below_step hbB hXA' (Nat.le_refl _); have hsB := hcc wB hXB)
            | (go_at_call 38; refine (ia _).mono ?_; rintro e wA ⟨rfl, hbA⟩; have hXA : Below w1.heap.size w1 wA := below_step (W := w1.drew) hbA (Below.drew (Below.refl w1.heap.size w1)) (Nat.le_refl _); have hsA := hcc wA hXA))
        have HF : Hid (FmR ⟨(k : Int), m, (lo : Int), (hi : Int), nm, nu⟩ w (.string (sof (dcm lo ++ 45 :: dcm hi))) wB) := Lib.hid ⟨by rw [HE.out], HP1.out.below hXB hg1, HB1.out.trans (hXB.mono HB1.out.size)⟩
        clear hXA hXB hsA hsB hbA hbB hc0 hcc
        go_wp2_with fail
        go_meet
        exact HF.out
    · have HF : Hid (FmR ⟨((6 : Nat) : Int), m, lo, hi, nm, nu⟩ w (.string (sof nm)) w1) := Lib.hid ⟨rfl, HP1.out, HB1.out⟩
      clear hp hpl hwl hk hk7
      go_wp2_with fail
      go_meet
      exact HF.out
    · have HE : Hid (pbody ⟨((7 : Nat) : Int), m, lo, hi, nm, nu⟩ = dcm nu.toNat) := Lib.hid rfl
      obtain ⟨nu, rfl⟩ := Int.eq_ofNat_of_zero_le (show 0 ≤ nu by omega)
      simp only [Int.toNat_natCast] at HE
      have hnu : nu ≤ 1000000 := by omega
      clear hp hpl hwl hk hk7
      go_wp2_with fail
      refine (rdecimal nu (by omega) _).mono ?_
      rintro e w2 ⟨rfl, hb2⟩
      have HF : Hid (FmR ⟨((7 : Nat) : Int), m, lo, hi, nm, (nu : Int)⟩ w (.string (sof (dcm nu))) w2) := Lib.hid ⟨by rw [HE.out], HP1.out.below hb2 HP1.out.lt, HB1.out.trans (hb2.mono HB1.out.size)⟩
      clear hb2
      go_wp2_with fail
      go_meet
      exact HF.out
  case rest =>
    obtain ⟨rfl, hP, hB⟩ := hcut
    rename World => w2
    have hw := fun W => rword k (by omega) W
    have HP2 := Lib.hid hP
    have HB2 := Lib.hid hB
    obtain ⟨c0, c1, c2, c3, c4, c5⟩ := hP.cells
    have hwl := wd_len (k : Int)
    obtain ⟨T, hT⟩ : ∃ T, T = pbody ⟨(k : Int), m, lo, hi, nm, nu⟩ := ⟨_, rfl⟩
    rw [← hT] at hpl ⊢
    have HT : Hid (wd (k : Int) ++ 32 :: pbody ⟨(k : Int), m, lo, hi, nm, nu⟩ = wd (k : Int) ++ [32] ++ T) := Lib.hid (by rw [hT]; simp)
    have q1 := add_lit (wd (k : Int)) [32] { data := #[32] } (by unfold sof; rfl) (by simp only [List.length_singleton]; omega)
    obtain ⟨P, hPd⟩ : ∃ P, P = wd (k : Int) ++ [32] := ⟨_, rfl⟩
    have hPl : P.length ≤ 7 := by rw [hPd, List.length_append, List.length_singleton]; omega
    rw [← hPd] at q1 HT
    have q2 := add_sof P T (by omega)
    clear hp hP hB c1 c2 c3 c4 c5 hPd hT HP1 HB1
    go_wp2_with fail
    refine (hw _).mono ?_
    rintro e w3 ⟨rfl, hb3⟩
    have HB3 := Lib.hid (HB2.out.trans (hb3.mono HB2.out.size))
    clear hb3 hw
    go_wp2
    go_ret2
    refine ⟨?_, HB3.out⟩
    rw [HT.out]
    rfl
end Go.Proofs.YtpodgmmgphibfaaDoor
namespace Go.Proofs.YtpodgmmgphibfaaDoor
open Go Go.RowKit Sh Leaf

set_option maxRecDepth 100000 in
set_option maxHeartbeats 4000000 in
theorem format_law (p : Prd) (hm : p.mask < 18446744073709551616) (hn : p.name.length ≤ 9223372036854775807) (A : Option Addr) (l : List Int) (c : Nat) (how : Nat) (hh : how < 256) (n : Int) (h0 : -9223372036854775808 ≤ n) (h1 : n ≤ 9223372036854775807) (w : World)
    (hI : Ints w (fun b => b < w.heap.size) A c l) (hS : Std w) :
    Calls Tryd.prog 4 #[pv p, .slice A l.length c, .int .u8 (how : Int), .int .i64 n] w fun e w' => e = .returned (.bool true) ∧ Below w.heap.size w w' := by
  have hvp := fun W h => pformat p hm hn W h
  have hrp := fun W => rformat p hm hn W
  have hbx : ∀ o, Below w.heap.size w (w.alloc o) := fun o => (Below.refl w.heap.size w).alloc (Nat.le_refl _) o
  have hdn := fun o => dnew A l.length c l (w.alloc o) rfl ((hI.below (hbx o)).mono (by simp))
  obtain ⟨pk, pm, pl, ph, pn, pu⟩ := p
  unfold pv at hvp hrp ⊢
  simp only at hvp hrp ⊢
  generalize fm ⟨pk, pm, pl, ph, pn, pu⟩ = D1 at hvp hrp
  obtain ⟨s1, e1⟩ := D1
  simp only at hvp hrp
  clear hm hn hI
  go_enter Tryd.func4, Tryd.ntmps4
  go_wp2_with fail
  refine (hdn _).mono ?_
  rintro e w1 ⟨rfl, hd1, hb1⟩
  have hP1 : PRow w1 w.heap.size pk pm pl ph pn pu := (Whole.here w _ _).below hb1 (by simp)
  have hB1 : Below w.heap.size w w1 := (hbx _).trans (hb1.mono (by simp))
  clear hb1 hdn hbx
  have hg1 := hd1.lt
  have hsz : (w.alloc (.cells (prow pk pm pl ph pn pu) 24)).heap.size = w.heap.size + 1 := by simp
  simp only [World.size_alloc] at hd1 hg1
  go_wp2_with fail
  refine (dpred _ _ hd1).mono ?_
  rintro e w2 ⟨x, hx, hxm, rfl, ht2⟩
  have hxn := pok_nm hx
  have hP2 : PRow w2 w.heap.size pk pm pl ph pn pu := ht2.2.2 _ _ _ (by omega) hP1
  have hB2 := hB1.trans (ht2.2.1.mono (by omega))
  have hvx := fun W h => pformat x hxm (by omega) W h
  have hrx := fun W => rformat x hxm (by omega) W
  generalize fm x = D0 at hvx hrx
  obtain ⟨s0, e0⟩ := D0
  simp only at hvx hrx
  have hsp := fun W => spoilt_ x hxm (by omega) how hh n h0 h1 W
  obtain ⟨xk, xm, xl, xh, xn, xu⟩ := x
  unfold pv at hvx hrx hsp ⊢
  simp only at hvx hrx hsp ⊢
  have hP2a := Whole.alloc hP2 (.cells (prow xk xm xl xh xn xu) 24)
  have hX2 : PRow (w2.alloc (.cells (prow xk xm xl xh xn xu) 24)) w2.heap.size xk xm xl xh xn xu := Whole.here w2 _ _
  have hB2a := hB2.alloc hB2.size (.cells (prow xk xm xl xh xn xu) 24)
  have HP2 := Lib.hid hP2a
  have HX2 := Lib.hid hX2
  have HB2 := Lib.hid hB2a
  have hl2 : w.heap.size < w2.heap.size := hP2.lt
  clear hP2a hX2 hB2a hP2 hB2 ht2 hP1 hB1 hd1 hg1 hsz hx hxm hxn
  go_wp2_with (first | (with_reducible refine wpList_load_prd rfl _ rfl (g := w2.heap.size) rfl HX2.out ?_))
  refine (hsp _).mono ?_
  rintro e w3 ⟨y, hym, hyn, rfl, hb3⟩
  have hvy := fun W h => pformat y hym (by omega) W h
  have hry := fun W => rformat y hym (by omega) W
  generalize fm y = D2 at hvy hry
  obtain ⟨s2, e2⟩ := D2
  simp only at hvy hry
  clear hsp
  obtain ⟨yk, ym, yl, yh, yn, yu⟩ := y
  unfold pv at hvy hry
  simp only at hvy hry ⊢
  have hP3 : PRow w3 w.heap.size pk pm pl ph pn pu := HP2.out.below hb3 (by simp; omega)
  have hX3 : PRow w3 w2.heap.size xk xm xl xh xn xu := HX2.out.below hb3 (by simp)
  have hB3 := HB2.out.trans (hb3.mono HB2.out.size)
  have hl3 : w2.heap.size < w3.heap.size := hX3.lt
  have hP4 := Whole.alloc hP3 (.cells (prow yk ym yl yh yn yu) 24)
  have hX4 := Whole.alloc hX3 (.cells (prow yk ym yl yh yn yu) 24)
  have hY4 : PRow (w3.alloc (.cells (prow yk ym yl yh yn yu) 24)) w3.heap.size yk ym yl yh yn yu := Whole.here w3 _ _
  have hB4 := hB3.alloc hB3.size (.cells (prow yk ym yl yh yn yu) 24)
  have hS4 := hS.below hB4 (Nat.le_refl _)
  clear hP3 hX3 hB3 hb3 HP2 HX2 HB2 hS
  have hlt4 : w.heap.size < w3.heap.size := by omega
  have HP4 := Lib.hid hP4
  have HX4 := Lib.hid hX4
  have HY4 := Lib.hid hY4
  have HB4 := Lib.hid hB4
  have HS4 := Lib.hid hS4
  clear hP4 hX4 hY4 hB4 hS4
  go_wp2_with (first | (refine wpList_load_prd rfl _ rfl (g := w2.heap.size) rfl HX4.out ?_))
  refine (hvx _ HS4.out).mono ?_
  rintro e w5 ⟨rfl, hb5⟩
  have HP5 := Lib.hid (HP4.out.below hb5 (by simp; try omega))
  have HX5 := Lib.hid (HX4.out.below hb5 (by simp; try omega))
  have HY5 := Lib.hid (HY4.out.below hb5 (by simp; try omega))
  have HB5 := Lib.hid (HB4.out.trans (hb5.mono HB4.out.size))
  have HS5 := Lib.hid (HS4.out.below hb5 (Nat.le_refl _))
  clear hb5 HP4 HX4 HY4 HB4 HS4
  go_wp2_with (first | (with_reducible refine wpList_load_prd rfl _ rfl (g := w2.heap.size) rfl HX5.out ?_))
  refine (hrx _).mono ?_
  rintro e w6 ⟨rfl, hb6⟩
  have HP6 := Lib.hid (HP5.out.below hb6 (Whole.lt HP5.out))
  have HX6 := Lib.hid (HX5.out.below hb6 (Whole.lt HX5.out))
  have HY6 := Lib.hid (HY5.out.below hb6 (Whole.lt HY5.out))
  have HB6 := Lib.hid (HB5.out.trans (hb6.mono HB5.out.size))
  have HS6 := Lib.hid (HS5.out.below hb6 (Nat.le_refl _))
  clear hb6 HP5 HX5 HY5 HB5 HS5
  go_wp2_with (first | (with_reducible refine wpList_load_prd rfl _ rfl (g := w.heap.size) rfl HP6.out ?_))
  refine (hvp _ HS6.out).mono ?_
  rintro e w7 ⟨rfl, hb7⟩
  have HP7 := Lib.hid (HP6.out.below hb7 (Whole.lt HP6.out))
  have HX7 := Lib.hid (HX6.out.below hb7 (Whole.lt HX6.out))
  have HY7 := Lib.hid (HY6.out.below hb7 (Whole.lt HY6.out))
  have HB7 := Lib.hid (HB6.out.trans (hb7.mono HB6.out.size))
  have HS7 := Lib.hid (HS6.out.below hb7 (Nat.le_refl _))
  clear hb7 HP6 HX6 HY6 HB6 HS6
  go_wp2_with (first | (with_reducible refine wpList_load_prd rfl _ rfl (g := w.heap.size) rfl HP7.out ?_))
  refine (hrp _).mono ?_
  rintro e w8 ⟨rfl, hb8⟩
  have HP8 := Lib.hid (HP7.out.below hb8 (Whole.lt HP7.out))
  have HX8 := Lib.hid (HX7.out.below hb8 (Whole.lt HX7.out))
  have HY8 := Lib.hid (HY7.out.below hb8 (Whole.lt HY7.out))
  have HB8 := Lib.hid (HB7.out.trans (hb8.mono HB7.out.size))
  have HS8 := Lib.hid (HS7.out.below hb8 (Nat.le_refl _))
  clear hb8 HP7 HX7 HY7 HB7 HS7
  go_wp2_with (first | (with_reducible refine wpList_load_prd rfl _ rfl (g := w3.heap.size) rfl HY8.out ?_))
  refine (hvy _ HS8.out).mono ?_
  rintro e w9 ⟨rfl, hb9⟩
  have HP9 := Lib.hid (HP8.out.below hb9 (Whole.lt HP8.out))
  have HX9 := Lib.hid (HX8.out.below hb9 (Whole.lt HX8.out))
  have HY9 := Lib.hid (HY8.out.below hb9 (Whole.lt HY8.out))
  have HB9 := Lib.hid (HB8.out.trans (hb9.mono HB8.out.size))
  have HS9 := Lib.hid (HS8.out.below hb9 (Nat.le_refl _))
  clear hb9 HP8 HX8 HY8 HB8 HS8
  go_wp2_with (first | (with_reducible refine wpList_load_prd rfl _ rfl (g := w3.heap.size) rfl HY9.out ?_))
  refine (hry _).mono ?_
  rintro e w10 ⟨rfl, hb10⟩
  have HP10 := Lib.hid (HP9.out.below hb10 (Whole.lt HP9.out))
  have HX10 := Lib.hid (HX9.out.below hb10 (Whole.lt HX9.out))
  have HY10 := Lib.hid (HY9.out.below hb10 (Whole.lt HY9.out))
  have HB10 := Lib.hid (HB9.out.trans (hb10.mono HB9.out.size))
  have HS10 := Lib.hid (HS9.out.below hb10 (Nat.le_refl _))
  clear hb10 HP9 HX9 HY9 HB9 HS9
  go_wp2_with fail
  refine (pawake _ HS10.out).mono ?_
  rintro e w11 ⟨rfl, hb11⟩
  have HF := Lib.hid (HB10.out.trans (hb11.mono HB10.out.size))
  clear hb11
  go_wp2
  go_ret
  exact ⟨rfl, HF.out⟩
end Go.Proofs.YtpodgmmgphibfaaDoor
