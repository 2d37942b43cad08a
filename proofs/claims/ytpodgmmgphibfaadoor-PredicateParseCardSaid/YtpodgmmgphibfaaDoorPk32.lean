/-
  The law PredicateUnique.
-/
import Derived.Test.YtpodgmmgphibfaaDoorPk25
import Derived.Test.YtpodgmmgphibfaaDoorPk31
namespace Go.Proofs.YtpodgmmgphibfaaDoor
open Go Go.RowKit Sh Leaf

/-- A row of the call's own with one byte stored. -/
theorem own_store {w : World} {base : Nat} {v : Value} {l : List B8} (h : Own w base v l) (i : Nat) (hi : i < l.length) (y : B8) :
    ∃ g cap, v = .slice (some ⟨g, 0, none⟩) l.length cap ∧ base ≤ g ∧ (∃ u, w.cell? ⟨g, i, none⟩ = some u) ∧ w.frozen? ⟨g, i, none⟩ = false ∧ l.length ≤ cap ∧ cap ≤ maxLen ∧ Own (w.setCell ⟨g, i, none⟩ (byt y)) base (.slice (some ⟨g, 0, none⟩) l.length cap) (l.set i y) := by
  obtain ⟨g, cap, hv, hg, hc, hf, hs⟩ := own_cell h i hi
  have hb := Bytes.of_own h
  obtain ⟨A, c, e, h1, h2, _⟩ := hb
  rw [hv] at e
  injection e with e1 e2 e3
  subst e3
  refine ⟨g, cap, hv, hg, ⟨_, hc⟩, hf, h1, h2, ?_⟩
  have := hs y
  rw [hv] at this
  exact this
set_option linter.unusedVariables false in
set_option maxRecDepth 100000 in
set_option maxHeartbeats 4000000 in
theorem unique_law (A1 : Option Addr) (l1 : List B8) (c1 : Nat) (Q : Nat → Prop) (A : Option Addr) (l : List Int) (c : Nat) (at_ : Int) (hat : -9223372036854775808 ≤ at_ ∧ at_ ≤ 9223372036854775807) (y : B8) (w : World)
    (hb : Bytes w Q (.slice A1 l1.length c1) l1) (hI : Ints w (fun b => b < w.heap.size) A c l) (hS : Std w) :
    Calls Tryd.prog 8 #[.slice A1 l1.length c1, .slice A l.length c, .int .i64 at_, byt y] w fun e w' => e = .returned (.bool true) ∧ Below w.heap.size w w' := by
  obtain ⟨A0, c0, e0, h1, h2, h3, h4⟩ := id hb
  cases e0
  obtain ⟨N, hN, hNc, hN60, p, hp, hpN⟩ := cut_cases hb 60
  unfold maxLen at h2
  have hdn := dnew A l.length c l w rfl hI
  clear hb h4 h3 hI
  have HN := Lib.hid hpN
  have hpl : p.length ≤ 60 := by omega
  clear hpN
  have hmin : min (l1.length : Int) 60 = (N : Int) := by rcases hN with ⟨h, e⟩ | ⟨h, e⟩ | ⟨h, h', e⟩ <;> omega
  have hlow := hp.mono (Q' := fun g => g < w.heap.size) fun g hg _ => hg
  clear hN hp
  go_enter Tryd.func8, Tryd.ntmps8
  go_wp2_with fail
  refine hdn.mono ?_
  rintro e w1 ⟨rfl, hd1, hb1⟩
  go_wp2_with fail
  refine (dpred _ _ hd1).mono ?_
  rintro e w2 ⟨x, hx, hxm, rfl, ht2⟩
  have hB2 := hb1.trans (ht2.2.1.mono (Nat.le_refl _))
  have hre := fun W => rencode x hxm (by have := pok_nm hx; omega) W
  rw [show ed x = (en x, 0) from if_pos hx] at hre
  have hel := en_len hx
  have hep := en_pos x
  clear hdn hd1 ht2 hx hb1
  obtain ⟨X, hX⟩ : ∃ X, X = en x := ⟨_, rfl⟩
  simp only [← hX] at hre hel hep
  clear hX
  have hp2 := hlow.below hB2 (Nat.le_refl _)
  go_wp2_with fail
  refine (hre _).mono ?_
  rintro e w3 ⟨v3, rfl, ho3, hb3⟩
  have hB3 := hB2.trans (hb3.mono hB2.size)
  have hp3 := hp2.below hb3 (Nat.le_refl _)
  have hw23 : w.heap.size ≤ w2.heap.size := hB2.size
  obtain ⟨A3, c3, rfl, -⟩ := id (Bytes.of_own ho3)
  clear hB2 hp2 hb3 hre hlow
  go_wp2_with fail
  refine (within_ at_ X.length (by omega) (by omega) hat _).mono ?_
  rintro e w4 ⟨⟨i, hi, rfl⟩, rfl⟩
  have hi' : i < X.length := by omega
  obtain ⟨g, cap, e0, hg, ⟨u, hcell⟩, hfr, hc1, hc2, hst⟩ := own_store ho3 i hi' y
  injection e0 with e1 e2 e3
  subst e1 e3
  have hxX := Bytes.of_own hst
  have hX2 : (X.set i y).length = X.length := by simp
  have hqX : Below w.heap.size w (w4.setCell ⟨g, i, none⟩ (byt y)) := hB3.setCell (p := ⟨g, i, none⟩) (by show w.heap.size ≤ g; omega) (byt y)
  have hpX := hp3.keep (w' := w4.setCell ⟨g, i, none⟩ (byt y)) (fun b _ hq => heap_setCell_other w4 ⟨g, i, none⟩ b (byt y) (by show b ≠ g; omega)) |>.mono (Q' := fun _ => True) fun _ _ _ => trivial
  have hSX : Std (w4.setCell ⟨g, i, none⟩ (byt y)) := hS.below hqX (Nat.le_refl _)
  have hxX' := hxX.mono (Q' := fun _ => True) fun _ _ _ => trivial
  obtain ⟨Y, hY⟩ : ∃ Y, Y = X.set i y := ⟨_, rfl⟩
  rw [← hY] at hxX' hX2
  clear hst hxX hY hp3 ho3 hB3 hSX
  unfold maxLen at hc2
  go_wp2_with fail
  go_loopw [0, 11] (fun vb vi wr => ∃ (k : Nat) (lb : List B8), k ≤ 2 ∧ vi = .int .i64 k ∧ Bytes wr (fun _ => True) vb lb ∧ lb.length ≤ 60 ∧ Bytes wr (fun _ => True) (.slice (some ⟨g, 0, none⟩) X.length c3) Y ∧ Below w.heap.size w wr) (fun _ vi _ => 2 - (intOf vi).toNat)
  case atStart => exact ⟨0, p, by omega, rfl, hpX, by omega, hxX', hqX⟩
  case round =>
    obtain ⟨k, lb, hk, rfl, hB, hbl, hX, hbr⟩ := hrel
    clear hpX hxX'
    obtain ⟨Ab, cb, rfl, -⟩ := id hB
    by_cases hk2 : k = 2
    · subst hk2
      clear hB hX
      go_wp2_with (go_at_call 14; refine (pawake _ (hS.below hbr (Nat.le_refl _))).mono ?_; rintro e w9 ⟨rfl, hb9⟩)
      go_ret
      exact ⟨rfl, hbr.trans (hb9.mono hbr.size)⟩
    · have hk2' : (k : Int) < 2 := by omega
      clear hk2
      have hdec := pdecode _ lb _ wr hB
      obtain ⟨⟨q, n, E⟩, hq⟩ : ∃ z, z = dn lb := ⟨_, rfl⟩
      rw [← hq] at hdec
      simp only at hdec
      by_cases hE : E = 0
      · subst hE
        obtain ⟨hqp, hqm, hqn, hqe⟩ := dn_back hq.symm
        have hen := fun W => pencode q hqm (by have := pok_nm hqp; omega) W
        rw [show ed q = (en q, 0) from if_pos hqp, hqe] at hen
        simp only at hen
        have hnl : (lb.take n).length = n := by simp; omega
        clear hq hqp hqe
        obtain ⟨qk, qm, ql, qh, qn, qu⟩ := q
        unfold pv at hdec hen
        simp only at hdec hen
        go_wp2_with fail
        refine hdec.mono ?_
        rintro e w5 ⟨rfl, hb5⟩
        have hP6 : PRow (w5.alloc (.cells (prow qk qm ql qh qn qu) 24)) w5.heap.size qk qm ql qh qn qu := Whole.here w5 _ _
        have hb6 := hb5.alloc hb5.size (.cells (prow qk qm ql qh qn qu) 24)
        have HB6 := Lib.hid (hB.below hb6 (Nat.le_refl _))
        have HX6 := Lib.hid (hX.below hb6 (Nat.le_refl _))
        have HQ6 := Lib.hid (hbr.trans (hb6.mono hbr.size))
        have HP6 := Lib.hid hP6
        clear hdec hb5 hb6 hP6 hB hX
        go_wp2_with (first | (with_reducible refine wpList_load_prd rfl _ rfl (g := w5.heap.size) rfl HP6.out ?_))
        refine (hen _).mono ?_
        rintro e w7 ⟨v7, rfl, hv7, hb7⟩
        have hB7 := HB6.out.below hb7 (Nat.le_refl _)
        have HX7 := Lib.hid (HX6.out.below hb7 (Nat.le_refl _))
        have HQ7 := Lib.hid (HQ6.out.trans (hb7.mono HQ6.out.size))
        have hT := hB7.take n hqn
        obtain ⟨A7, c7, rfl, -⟩ := id hv7
        have HB7 := Lib.hid hB7
        have HV7 := Lib.hid hv7
        have HT := Lib.hid hT
        obtain ⟨Ax, cx, ex, hx1, hx2, -⟩ := id hB7
        injection ex with ex1 ex2 ex3
        subst ex1 ex3
        unfold maxLen at hx2
        clear hv7 hb7 hB7 hT HB6 HX6 HQ6 HP6 hen
        rw [hnl] at HV7 ⊢
        generalize lb.take n = TK at HV7 HT hnl
        have hq0 : ¬ (n : Int) > (lb.length : Int) := by omega
        go_wp2_with (go_at_call 23; refine (same_ _ _ TK TK _ _ _ HV7.out HT.out (by omega) (by omega)).mono ?_; rintro e w8 ⟨rfl, hb8⟩; rw [show decide (TK = TK) = true by simp])
        have HX8 := Lib.hid (HX7.out.below hb8 (Nat.le_refl _))
        have HQ8 := Lib.hid (HQ7.out.trans (hb8.mono HQ7.out.size))
        clear hb8 HB7 HV7 HT HX7 HQ7
        go_roundw
        case rel => exact ⟨k + 1, Y, by omega, by go_num, HX8.out, by omega, HX8.out, HQ8.out⟩
        case measure => simp [intOf]; omega
      · have hz := dn_zero hq.symm hE
        obtain ⟨rfl, rfl⟩ := hz
        have hen := fun W => pencode .zero (by decide) (by simp) W
        rw [show ed .zero = ([], 5) by decide] at hen
        have hE' : ¬ (E : Int) = 0 := by omega
        clear hq hE
        unfold pv at hdec hen
        simp only at hdec hen
        go_wp2_with fail
        refine hdec.mono ?_
        rintro e w5 ⟨rfl, hb5⟩
        have hP6 : PRow (w5.alloc (.cells (prow 0 0 0 0 [] 0) 24)) w5.heap.size 0 0 0 0 [] 0 := Whole.here w5 _ _
        have hb6 := hb5.alloc hb5.size (.cells (prow 0 0 0 0 [] 0) 24)
        have HX6 := Lib.hid (hX.below hb6 (Nat.le_refl _))
        have HQ6 := Lib.hid (hbr.trans (hb6.mono hbr.size))
        have HP6 := Lib.hid hP6
        clear hdec hb5 hb6 hP6 hB hX
        go_wp2_with (first | (with_reducible refine wpList_load_prd rfl _ rfl (g := w5.heap.size) rfl HP6.out ?_))
        refine (hen _).mono ?_
        rintro e w7 ⟨v7, rfl, hv7, hb7⟩
        have HX7 := Lib.hid (HX6.out.below hb7 (Nat.le_refl _))
        have HQ7 := Lib.hid (HQ6.out.trans (hb7.mono HQ6.out.size))
        clear hv7 hb7 HX6 HQ6 HP6 hen
        go_wp2
        go_roundw
        case rel => exact ⟨k + 1, Y, by omega, by go_num, HX7.out, by omega, HX7.out, HQ7.out⟩
        case measure => simp [intOf]; omega
end Go.Proofs.YtpodgmmgphibfaaDoor
