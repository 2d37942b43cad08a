/-
  The law FieldUnique: true, for all arguments.
-/
import Derived.Test.YtfokedbipicmoaaFldBack
namespace Go.Proofs.Ytfokedbipicmoaa
open Go Go.RowKit Sh Leaf

set_option maxRecDepth 100000 in
set_option maxHeartbeats 2000000 in
theorem unique_law (A : Option Addr) (l : List B8) (c : Nat) (Q : Nat → Prop) (vl : Value) (ll : List (List B8)) (at_ : Int) (hat : -9223372036854775808 ≤ at_ ∧ at_ ≤ 9223372036854775807) (y : B8) (w : World) (hb : Bytes w Q (.slice A l.length c) l) (hL : Lists w vl ll) :
    Calls Try.prog 7 #[.slice A l.length c, vl, .int .i64 at_, byt y] w fun e w' => e = .returned (.bool true) ∧ Below w.heap.size w w' := by
  obtain ⟨A0, c0, e0, h1, h2, h3, h4⟩ := id hb
  cases e0
  obtain ⟨N, hN, hNc, hN20, p, hp, hpN⟩ := cut_cases hb 200
  have h2' : c ≤ 9223372036854775807 := by unfold maxLen at h2; omega
  obtain ⟨B, d, us, rfl, -⟩ := id hL
  have hok := cutl_okl ll
  have hcl := cutl_len ll
  have hct := cat_len hok
  have HJ := Lib.hid (jn_ok hok)
  have hp' := hp.mono (Q' := fun g => g < w.heap.size) fun g hg _ => hg
  clear hok hb h4 h3 hp h2
  obtain ⟨cl, hcl0⟩ : ∃ cl, cl = cutl ll := ⟨_, rfl⟩
  rw [← hcl0] at hcl hct HJ
  have HC := Lib.hid hcl0
  have HN := Lib.hid hpN
  have hpl : p.length ≤ 200 := by omega
  clear hcl0 hpN
  rcases hN with ⟨hlt, rfl⟩ | ⟨hlt, rfl⟩ | ⟨hlt, hge, rfl⟩
  all_goals
    go_enter Try.func7, Try.ntmps7
    go_wp2_with fail
    refine (few_ _ ll _ hL).mono ?_
    rintro e w1 ⟨v1, rfl, hl1, hb1⟩
    rw [← HC.out] at hl1
    have hp1 := hp'.below hb1 (Nat.le_refl _)
    obtain ⟨A1, c1, us1, rfl, -⟩ := id hl1
    go_wp2_with fail
    refine (rjoin_own _ cl _ hl1 (by omega)).mono ?_
    rintro e w2 ⟨v2, rfl, hown, hb2⟩
    rw [HJ.out] at hown ⊢
    have hp2 := hp1.below hb2 (Nat.le_refl _)
    have hs1 := hb1.size
    have hq2 := hb1.trans (hb2.mono hs1)
    obtain ⟨X, hX⟩ : ∃ X, X = cat cl := ⟨_, rfl⟩
    rw [← hX] at hown hct ⊢
    clear hX hp1 hl1 hb1 hp'
    by_cases h0 : 0 < X.length
    case pos =>
      obtain ⟨g, cap, cur, rfl, hg, hh, hcap, hm, hcs, ht⟩ := own_open hown h0
      clear hown
      go_wp2_with fail
      refine (within_ at_ X.length (by omega) (by omega) hat _).mono ?_
      rintro e w3 ⟨⟨i, hi, rfl⟩, rfl⟩
      have hi' : i < X.length := by omega
      have hc := hh.cell i
      rw [ht i X[i] (List.getElem?_eq_getElem hi')] at hc
      have hz0 := hh.frozen i
      have hset := hh.set i (byt y)
      have hxX : Bytes (w3.setCell ⟨g, i, none⟩ (byt y)) (fun _ => True) (.slice (some ⟨g, 0, none⟩) X.length cap) (X.set i y) := by
        have := bytes_row (l := X.set i y) hset (by simp; omega) hm (fun j x hj => by
          rw [Array.getElem?_setIfInBounds]
          rw [List.getElem?_set] at hj
          by_cases e : i = j
          · rw [if_pos e] at hj ⊢
            rw [if_pos (by omega)] at hj ⊢
            rw [Option.some.inj hj]
          · rw [if_neg e] at hj ⊢
            exact ht j x hj)
        rw [List.length_set] at this
        exact this.mono fun _ _ _ => trivial
      have hqX : Below w.heap.size w (w3.setCell ⟨g, i, none⟩ (byt y)) := hq2.setCell (p := ⟨g, i, none⟩) (by show w.heap.size ≤ g; omega) (byt y)
      have hpX := hp2.keep (w' := w3.setCell ⟨g, i, none⟩ (byt y)) (fun b _ hq => heap_setCell_other w3 ⟨g, i, none⟩ b (byt y) (by show b ≠ g; omega)) |>.mono (Q' := fun _ => True) fun _ _ _ => trivial
      have hX2 : (X.set i y).length = X.length := by simp
      obtain ⟨Y, hY⟩ : ∃ Y, Y = X.set i y := ⟨_, rfl⟩
      rw [← hY] at hxX hX2
      clear hset hh hcs ht hY hp2
      go_wp2_with fail
      go_loopw [0, 11] (fun vb vi wr => ∃ (k : Nat) (lb : List B8), k ≤ 2 ∧ vi = .int .i64 k ∧ Bytes wr (fun _ => True) vb lb ∧ lb.length ≤ 30000 ∧ Bytes wr (fun _ => True) (.slice (some ⟨g, 0, none⟩) X.length cap) Y ∧ Below w.heap.size w wr) (fun _ vi _ => 2 - (intOf vi).toNat)
      case atStart => exact ⟨0, p, by omega, rfl, hpX, by omega, hxX, hqX⟩
      case round =>
        obtain ⟨k, lb, hk, rfl, hB, hbl, hX, hbr⟩ := hrel
        clear hpX hxX
        obtain ⟨Ab, cb, rfl, -⟩ := id hB
        by_cases hk2 : k = 2
        · subst hk2
          clear hB hX
          go_wp2_with (go_at_call 11; refine (fawake _).mono ?_; rintro e w9 ⟨rfl, hb9⟩)
          go_ret
          exact ⟨rfl, hbr.trans (hb9.mono hbr.size)⟩
        · have hk2' : (k : Int) < 2 := by omega
          obtain ⟨K, E, hKE⟩ : ∃ K E, alls lb = (K, E) := ⟨_, _, rfl⟩
          have hKl := alls_count lb
          rw [hKE] at hKl
          have hKl' : K.length ≤ 1000000 := by simp at hKl; omega
          have HKE := Lib.hid hKE
          have HKO := Lib.hid (jn_ok (alls_okl hKE))
          have HKC := Lib.hid (fun h0 : E = 0 => (alls_back (h0 ▸ hKE)).2)
          have HKN := Lib.hid (fun h0 : E ≠ 0 => alls_bad hKE h0)
          clear hKE hKl hk2
          go_wp2_with fail
          refine (fall _ lb _ _ hB (by omega)).mono ?_
          rintro e w5 ⟨v5, rfl, hK5, hb5⟩
          rw [HKE.out] at hK5 ⊢
          have hB5 := hB.below hb5 (Nat.le_refl _)
          have hX5 := hX.below hb5 (Nat.le_refl _)
          have hs5 := hb5.size
          obtain ⟨A5, c5, us5, rfl, -⟩ := id hK5
          clear hB hX
          go_wp2_with fail
          refine (fjoin _ K _ hK5 hKl').mono ?_
          rintro e w6 ⟨v6, rfl, hj6, hb6⟩
          rw [HKO.out] at hj6 ⊢
          have hB6 := hB5.below hb6 (Nat.le_refl _)
          have hX6 := hX5.below hb6 (Nat.le_refl _)
          have hq6 := hbr.trans ((hb5.trans (hb6.mono hs5)).mono hbr.size)
          obtain ⟨A6, c6, rfl, -⟩ := id hj6
          clear hB5 hX5 hK5 hb5 hb6 hs5
          by_cases hE : E = 0
          · subst hE
            have hcat := HKC.out rfl
            have hj7 := hj6
            rw [hcat] at hj7
            clear hj6
            rw [hcat]
            clear hcat HKO HKC HKN HKE
            go_wp2_with (go_at_call 10; refine (same_ _ _ lb lb _ _ _ hj7 hB6 (by omega) (by omega)).mono ?_; rintro e w7 ⟨rfl, hb7⟩; rw [show decide (lb = lb) = true by simp])
            have hX7 := hX6.below hb7 (Nat.le_refl _)
            have hq7 := hq6.trans (hb7.mono hq6.size)
            clear hj7 hB6 hX6 hb7
            go_roundw
            case rel => exact ⟨k + 1, _, by omega, by go_num, hX7, by first | omega | (simp_all; omega), hX7, hq7⟩
            case measure => simp [intOf]; omega
          · have hnil := HKN.out hE
            subst hnil
            have hE' : ¬ (E : Int) = 0 := by omega
            clear HKO HKC HKN HKE hE hj6 hB6
            go_wp2
            go_roundw
            case rel => exact ⟨k + 1, _, by omega, by go_num, hX6, by first | omega | (simp_all; omega), hX6, hq6⟩
            case measure => simp [intOf]; omega
    case neg =>
      obtain ⟨Ax, cx, rfl, -⟩ := id (Bytes.of_own hown)
      have hxX := (Bytes.of_own hown).mono (Q' := fun _ => True) fun _ _ _ => trivial
      have hpX := hp2.mono (Q' := fun _ => True) fun _ _ _ => trivial
      have hqX := hq2
      clear hown hp2
      go_wp2_with fail
      go_loopw [0, 11] (fun vb vi wr => ∃ (k : Nat) (lb : List B8), k ≤ 2 ∧ vi = .int .i64 k ∧ Bytes wr (fun _ => True) vb lb ∧ lb.length ≤ 30000 ∧ Bytes wr (fun _ => True) (.slice (Ax) X.length cx) X ∧ Below w.heap.size w wr) (fun _ vi _ => 2 - (intOf vi).toNat)
      case atStart => exact ⟨0, p, by omega, rfl, hpX, by omega, hxX, hqX⟩
      case round =>
        obtain ⟨k, lb, hk, rfl, hB, hbl, hX, hbr⟩ := hrel
        clear hpX hxX
        obtain ⟨Ab, cb, rfl, -⟩ := id hB
        by_cases hk2 : k = 2
        · subst hk2
          clear hB hX
          go_wp2_with (go_at_call 11; refine (fawake _).mono ?_; rintro e w9 ⟨rfl, hb9⟩)
          go_ret
          exact ⟨rfl, hbr.trans (hb9.mono hbr.size)⟩
        · have hk2' : (k : Int) < 2 := by omega
          obtain ⟨K, E, hKE⟩ : ∃ K E, alls lb = (K, E) := ⟨_, _, rfl⟩
          have hKl := alls_count lb
          rw [hKE] at hKl
          have hKl' : K.length ≤ 1000000 := by simp at hKl; omega
          have HKE := Lib.hid hKE
          have HKO := Lib.hid (jn_ok (alls_okl hKE))
          have HKC := Lib.hid (fun h0 : E = 0 => (alls_back (h0 ▸ hKE)).2)
          have HKN := Lib.hid (fun h0 : E ≠ 0 => alls_bad hKE h0)
          clear hKE hKl hk2
          go_wp2_with fail
          refine (fall _ lb _ _ hB (by omega)).mono ?_
          rintro e w5 ⟨v5, rfl, hK5, hb5⟩
          rw [HKE.out] at hK5 ⊢
          have hB5 := hB.below hb5 (Nat.le_refl _)
          have hX5 := hX.below hb5 (Nat.le_refl _)
          have hs5 := hb5.size
          obtain ⟨A5, c5, us5, rfl, -⟩ := id hK5
          clear hB hX
          go_wp2_with fail
          refine (fjoin _ K _ hK5 hKl').mono ?_
          rintro e w6 ⟨v6, rfl, hj6, hb6⟩
          rw [HKO.out] at hj6 ⊢
          have hB6 := hB5.below hb6 (Nat.le_refl _)
          have hX6 := hX5.below hb6 (Nat.le_refl _)
          have hq6 := hbr.trans ((hb5.trans (hb6.mono hs5)).mono hbr.size)
          obtain ⟨A6, c6, rfl, -⟩ := id hj6
          clear hB5 hX5 hK5 hb5 hb6 hs5
          by_cases hE : E = 0
          · subst hE
            have hcat := HKC.out rfl
            have hj7 := hj6
            rw [hcat] at hj7
            clear hj6
            rw [hcat]
            clear hcat HKO HKC HKN HKE
            go_wp2_with (go_at_call 10; refine (same_ _ _ lb lb _ _ _ hj7 hB6 (by omega) (by omega)).mono ?_; rintro e w7 ⟨rfl, hb7⟩; rw [show decide (lb = lb) = true by simp])
            have hX7 := hX6.below hb7 (Nat.le_refl _)
            have hq7 := hq6.trans (hb7.mono hq6.size)
            clear hj7 hB6 hX6 hb7
            go_roundw
            case rel => exact ⟨k + 1, _, by omega, by go_num, hX7, by first | omega | (simp_all; omega), hX7, hq7⟩
            case measure => simp [intOf]; omega
          · have hnil := HKN.out hE
            subst hnil
            have hE' : ¬ (E : Int) = 0 := by omega
            clear HKO HKC HKN HKE hE hj6 hB6
            go_wp2
            go_roundw
            case rel => exact ⟨k + 1, _, by omega, by go_num, hX6, by first | omega | (simp_all; omega), hX6, hq6⟩
            case measure => simp [intOf]; omega
end Go.Proofs.Ytfokedbipicmoaa
