/-
  The reference's Decode.
  The reference's reader: Field with its error, Predicate.
-/
import Derived.Test.YtknhnkmooaopmaaPk10
import Derived.Test.YtknhnkmooaopmaaPk37
import Derived.Test.YtknhnkmooaopmaaPk31
import Derived.Test.YtknhnkmooaopmaaPk17
import Derived.Deep.CutBlock
import Derived.Deep.RegionHeld3
namespace Go.Proofs.Ytknhnkmooaopmaa
open Go Go.RowKit Sh Leaf

/-- What is known ahead of the reference's end. -/
def DeqR (R0 P : Nat) (b : List B8) (w : World) (wx : World) : Prop := ∃ (p : Prd) (u e : Nat), PRow wx P p.kind p.mask p.lo p.hi p.name p.num ∧ PRow wx R0 0 0 0 0 [] 0 ∧ Qrd (R0 + 1) wx b u e ∧ Below R0 w wx ∧ fin2 p u e = dn b ∧ p.mask < 18446744073709551616 ∧ p.name.length ≤ 1000000
set_option linter.unusedVariables false in
set_option maxRecDepth 100000 in
set_option maxHeartbeats 4000000 in
theorem rdecode (v : Value) (b : List B8) (Q : Nat → Prop) (w : World) (hr : Bytes w Q v b) :
    Calls Try.prog 70 #[v] w fun e w' => e = .returned (.tuple #[pv (dn b).1, .int .i64 ((dn b).2.1 : Int), .int .i64 ((dn b).2.2 : Int)]) ∧ Below w.heap.size w w' := by
  obtain ⟨A, c, rfl, -⟩ := id hr
  obtain ⟨⟨k, u, e1⟩, hrd⟩ : ∃ x, x = rd b := ⟨_, rfl⟩
  have hrd := hrd.symm
  have hlow := hr.mono (Q' := fun g => g < w.heap.size) fun g hg _ => hg
  have hR1 : ∀ cs t, Whole ((w.alloc (.cells cs t)).alloc (.cells #[.slice A b.length c, .int .i64 0, .int .i64 0] 74)) (w.heap.size + 1) 74 #[.slice A b.length c, .int .i64 0, .int .i64 0] := fun cs t => Whole.at_ _ _ _ _ (by simp)
  have hRd : ∀ cs t, Qrd (w.heap.size + 1) ((w.alloc (.cells cs t)).alloc (.cells #[.slice A b.length c, .int .i64 0, .int .i64 0] 74)) b 0 0 := fun cs t => ⟨A, c, ((hlow.mono fun g _ h => Nat.lt_succ_of_lt h).alloc _).alloc _, hR1 cs t, Nat.zero_le _⟩
  clear hR1 hlow hr
  go_enter Try.func70, Try.ntmps70
  go_wp2_with fail
  refine (qnumber (w.heap.size + 1) b 0 0 _ (hRd _ _) k u e1 (by unfold qnum; rw [if_pos rfl]; exact hrd)).mono ?_
  rintro e w2 ⟨rfl, h2⟩
  have hZ2 : PRow w2 w.heap.size 0 0 0 0 [] 0 := PRow.of_zero (h2.2.2 _ _ _ (by omega) ((Whole.here w _ _).alloc _))
  have hR2 : Qrd (w.heap.size + 1) w2 b u e1 := by have := h2.1; rw [Nat.zero_add] at this; exact this
  have hB2 : Below w.heap.size w w2 := (((Below.refl w.heap.size w).alloc (Nat.le_refl _) _).alloc (by simp) _).trans (h2.2.1.mono (by omega))
  have hlt2 := hR2.lt
  clear h2 hRd
  have hb4 : ∀ o, Below w2.heap.size w2 (w2.alloc o) := fun o => (Below.refl w2.heap.size w2).alloc (Nat.le_refl _) o
  have HP4 : Hid (PRow (w2.alloc (.cells #[.int .i64 (k : Int), .int .u64 0, .int .i64 0, .int .i64 0, .string { data := #[] }, .int .i64 0] 24)) w2.heap.size k 0 0 0 [] 0) := Lib.hid (PRow.of_zero (Whole.here w2 _ _))
  have HZ4 : Hid (PRow (w2.alloc (.cells #[.int .i64 (k : Int), .int .u64 0, .int .i64 0, .int .i64 0, .string { data := #[] }, .int .i64 0] 24)) w.heap.size 0 0 0 0 [] 0) := Lib.hid (hZ2.below (hb4 _) (by omega))
  have HR4 : Hid (Qrd (w.heap.size + 1) (w2.alloc (.cells #[.int .i64 (k : Int), .int .u64 0, .int .i64 0, .int .i64 0, .string { data := #[] }, .int .i64 0] 24)) b u e1) := Lib.hid (hR2.below (hb4 _) hlt2)
  have HB4 : Hid (Below w.heap.size w (w2.alloc (.cells #[.int .i64 (k : Int), .int .u64 0, .int .i64 0, .int .i64 0, .string { data := #[] }, .int .i64 0] 24))) := Lib.hid (hB2.trans ((hb4 _).mono (by omega)))
  obtain ⟨z, a, c', d, hz, -⟩ := desc_any k
  have HZ := Lib.hid hz
  clear hZ2 hR2 hB2 hb4 hz
  go_upto_block 0 with fail
  have hsz4 : (w2.alloc (.cells #[.int .i64 (k : Int), .int .u64 0, .int .i64 0, .int .i64 0, .string { data := #[] }, .int .i64 0] 24)).heap.size = w2.heap.size + 1 := by simp
  generalize (w2.alloc (.cells #[.int .i64 (k : Int), .int .u64 0, .int .i64 0, .int .i64 0, .string { data := #[] }, .int .i64 0] 24)) = w4 at *
  obtain ⟨P, hP⟩ : ∃ P, P = w2.heap.size := ⟨_, rfl⟩
  rw [← hP] at HP4 hlt2 hsz4 ⊢
  clear hP
  go_cut [16] (fun _ wx => DeqR w.heap.size P b w wx)
  case first =>
    have c0 := HP4.out.cells.1
    rcases HZ.out with ⟨rfl, hk1, hk3⟩ | ⟨rfl, hk4, hk5⟩ | ⟨rfl, rfl⟩ | ⟨rfl, rfl⟩ | ⟨rfl, hk0⟩
    · have he1 : e1 = 0 := by
        rcases Nat.eq_zero_or_pos e1 with h | h
        · exact h
        · have := (rd_err hrd (by omega)).1; omega
      subst he1
      have hm := qbytes (w.heap.size + 1) b u w4 HR4.out
      have HD : Hid (fin2 ⟨k, (rdm b u).1, 0, 0, [], 0⟩ (u + (rdm b u).2.1) (rdm b u).2.2 = dn b ∧ (rdm b u).1 < 18446744073709551616) := Lib.hid (by
        rw [dn_mask hrd (by omega)]
        unfold rdm
        by_cases hs : b.length - u < 8
        · rw [if_pos hs, if_pos hs]; exact ⟨rfl, by omega⟩
        · rw [if_neg hs, if_neg hs]; exact ⟨rfl, by have := beval_lt ((b.drop u).take 8) (by rw [List.length_take]; omega); omega⟩)
      generalize rdm b u = M at hm HD
      clear HZ
      have hkk : (k : Int) = 1 ∨ (k : Int) = 2 ∨ (k : Int) = 3 := by omega
      rcases hkk with hkk | hkk | hkk
      all_goals
        go_wp2_with fail
        refine hm.mono ?_
        rintro e w5 ⟨A5, c5, R, rfl, hB5, hRl, hRM, h5⟩
        obtain ⟨A0, c0', e0, hl1, hcm2, -, hcell⟩ := id hB5
        injection e0 with ea eb ec
        subst ea
        subst ec
        obtain ⟨g', o, rfl, hg', hcell⟩ := hcell (by omega)
        have hgP : g' ≠ P := by omega
        have hcl : ∀ j, j < 8 → w5.cell? ⟨g', o + j, none⟩ = some (byt (R.getD j 0)) := fun j hj => hcell j _ (by rw [List.getD_eq_getElem?_getD, List.getElem?_eq_getElem (by omega)]; rfl)
        have hP5 : PRow w5 P k 0 0 0 [] 0 := h5.2.2 _ _ _ (by omega) HP4.out
        have hZ5 : PRow w5 w.heap.size 0 0 0 0 [] 0 := h5.2.2 _ _ _ (by omega) HZ4.out
        have hR5 := h5.1
        have hB5' := HB4.out.trans (h5.2.1.mono (by omega))
        have HRM := Lib.hid hRM
        unfold maxLen at hcm2
        clear hm h5 hB5 hcell HP4 HZ4 HR4 HB4 hRM eb
        have hRn : R.take 0 = [] := rfl
        go_wp2_with fail
        go_loopw [8, 29, 30, 31, 32, 33, 34, 35, 36, 37, 38, 25, 26, 27, 28] (fun vi _ _ _ _ _ _ _ _ _ _ _ _ _ _ wr => ∃ j : Nat, j ≤ 8 ∧ vi = .int .i64 (j : Int) ∧ PRow wr P k ((beval (R.take j) : Nat) : Int) 0 0 [] 0 ∧ PRow wr w.heap.size 0 0 0 0 [] 0 ∧ Qrd (w.heap.size + 1) wr b (u + M.2.1) M.2.2 ∧ Below w.heap.size w wr ∧ (∀ j, j < 8 → wr.cell? ⟨g', o + j, none⟩ = some (byt (R.getD j 0)))) (fun vi _ _ _ _ _ _ _ _ _ _ _ _ _ _ _ => (8 - intOf vi).toNat)
        case atStart => exact ⟨0, by omega, rfl, hP5, hZ5, hR5, hB5', hcl⟩
        case round =>
          clear hP5 hZ5 hR5 hB5' hcl
          obtain ⟨j, hj, rfl, hPr, hZr, hQr, hBr, hCr⟩ := hrel
          by_cases h8 : j = 8
          · subst h8
            have HM : Hid (R.take 8 = R) := Lib.hid (List.take_of_length_le (by omega))
            rw [HM.out] at hPr
            have HF : Hid (DeqR w.heap.size P b w wr) := Lib.hid ⟨⟨k, M.1, 0, 0, [], 0⟩, u + M.2.1, M.2.2, by rw [HRM.out]; exact hPr, hZr, hQr, hBr, HD.out.1, HD.out.2, by simp⟩
            clear hPr hZr hQr hBr hCr
            go_wp2_with fail
            go_meet
            exact HF.out
          · have hj8 : (j : Int) < 8 := by omega
            have hj8n : j < 8 := by omega
            have hc := hCr j hj8n
            have c1 := hPr.cells.2.1
            have f1 := hPr.frozen 1
            have hbk : R.take (j + 1) = R.take j ++ [R.getD j 0] := by
              rw [List.take_add_one, List.getD_eq_getElem?_getD, List.getElem?_eq_getElem (by omega)]
              rfl
            have hbl : beval (R.take j) < 72057594037927936 := beval_lt7 (R.take j) (by rw [List.length_take]; omega)
            have hsn := beval_snoc (R.take j) (R.getD j 0)
            rw [← hbk] at hsn
            have HPr := Lib.hid hPr
            have HZr := Lib.hid hZr
            have HQr := Lib.hid hQr
            have HBr := Lib.hid hBr
            have HCr := Lib.hid hCr
            clear hPr hZr hQr hBr hCr hbk h8
            generalize R.getD j 0 = x at hc hsn
            generalize beval (R.take j) = B at hbl hsn c1 HPr
            have hxb := bv_toNat x
            have hx0 := bv_nonneg x
            have hxl := bv_le x
            have hwx : IntKind.u64.wrap (bv x) = bv x := by rw [IntKind.wrap_u64]; omega
            have hwm : IntKind.u64.wrap (256 * (B : Int)) = 256 * (B : Int) := by rw [IntKind.wrap_u64]; omega
            have hws : IntKind.u64.wrap (256 * (B : Int) + bv x) = 256 * (B : Int) + bv x := by rw [IntKind.wrap_u64]; omega
            have HN : Hid (256 * (B : Int) + bv x = ((beval (R.take (j + 1)) : Nat) : Int)) := Lib.hid (by rw [hsn]; omega)
            have HF := Lib.hid (show PRow (wr.setCell ⟨P, 1, none⟩ (.int .u64 (256 * (B : Int) + bv x))) P k ((beval (R.take (j + 1)) : Nat) : Int) 0 0 [] 0 by rw [← HN.out]; exact HPr.out.set1 _)
            clear hxb hsn hbl HN
            have HFar := Lib.hid (HZr.out.far (a := ⟨P, 1, none⟩) (by show w.heap.size ≠ P; omega) (.int .u64 (256 * (B : Int) + bv x)))
            have HQf := Lib.hid (HQr.out.below ((Below.refl P wr).setCell (p := ⟨P, 1, none⟩) (Nat.le_refl _) (.int .u64 (256 * (B : Int) + bv x))) hlt2)
            have HBf := Lib.hid (HBr.out.setCell (p := ⟨P, 1, none⟩) (by show w.heap.size ≤ P; omega) (.int .u64 (256 * (B : Int) + bv x)))
            have HCf : Hid (∀ j, j < 8 → (wr.setCell ⟨P, 1, none⟩ (.int .u64 (256 * (B : Int) + bv x))).cell? ⟨g', o + j, none⟩ = some (byt (R.getD j 0))) := Lib.hid fun j hj => by
              rw [World.cell?_setCell_other _ _ _ _ (by intro e; injection e with e; exact hgP e.symm)]
              exact HCr.out j hj
            clear HPr HZr HQr HBr HCr
            go_wp2_with fail
            go_region
            all_goals
              go_wp2_with fail
              go_roundw
              case rel => exact ⟨j + 1, by omega, by go_num, HF.out, HFar.out, HQf.out, HBf.out.drew, HCf.out⟩
              case measure => simp [intOf]; omega
    · have he1 : e1 = 0 := by
        rcases Nat.eq_zero_or_pos e1 with h | h
        · exact h
        · have := (rd_err hrd (by omega)).1; omega
      subst he1
      obtain ⟨⟨x, u1, ex⟩, hx⟩ : ∃ x, x = rd (b.drop u) := ⟨_, rfl⟩
      have hx := hx.symm
      obtain ⟨⟨y, u2, ey⟩, hy⟩ : ∃ x, x = qnum b (u + u1) ex := ⟨_, rfl⟩
      have hy := hy.symm
      obtain ⟨⟨y', u2', ey'⟩, hy'⟩ : ∃ x, x = rd (b.drop (u + u1)) := ⟨_, rfl⟩
      have hy' := hy'.symm
      have HD : Hid (fin2 ⟨k, 0, x, y, [], 0⟩ (u + u1 + u2) ey = dn b) := Lib.hid (by
        rw [dn_time hrd (by omega) hx hy']
        unfold qnum at hy
        by_cases h1 : ex = 0
        · subst h1
          rw [if_pos rfl, hy'] at hy
          injection hy with q1 q2
          injection q2 with q2 q3
          subst q1 q2 q3
          unfold fin2
          simp
        · rw [if_neg h1] at hy
          injection hy with q1 q2
          injection q2 with q2 q3
          subst q1 q2 q3
          unfold fin2
          rw [if_pos h1, if_pos h1])
      have hn1 := qnumber (w.heap.size + 1) b u 0 w4 HR4.out x u1 ex (by unfold qnum; rw [if_pos rfl]; exact hx)
      have hn2 := fun W hW => qnumber (w.heap.size + 1) b (u + u1) ex W hW y u2 ey hy
      have hkk : (k : Int) = 4 ∨ (k : Int) = 5 := by omega
      clear HZ hx hy hy'
      rcases hkk with hkk | hkk
      all_goals
        go_wp2_with fail
        refine hn1.mono ?_
        rintro e w5 ⟨rfl, h5⟩
        have hP5 : PRow w5 P k 0 0 0 [] 0 := h5.2.2 _ _ _ (by omega) HP4.out
        have hZ5 : PRow w5 w.heap.size 0 0 0 0 [] 0 := h5.2.2 _ _ _ (by omega) HZ4.out
        have c2 := hP5.cells.2.2.1
        have f2 := hP5.frozen 2
        have HP6 := Lib.hid (hP5.set2 (x : Int))
        have HZ6 := Lib.hid (hZ5.far (a := ⟨P, 2, none⟩) (by show w.heap.size ≠ P; omega) (.int .i64 (x : Int)))
        have HR6 := Lib.hid (h5.1.below ((Below.refl P w5).setCell (p := ⟨P, 2, none⟩) (Nat.le_refl _) (.int .i64 (x : Int))) hlt2)
        have HB6 := Lib.hid ((HB4.out.trans (h5.2.1.mono (by omega))).setCell (p := ⟨P, 2, none⟩) (by show w.heap.size ≤ P; omega) (.int .i64 (x : Int)))
        clear hP5 hZ5 h5 HP4 HZ4 HR4 HB4 hn1
        go_wp2_with fail
        refine (hn2 _ HR6.out).mono ?_
        rintro e w7 ⟨rfl, h7⟩
        have hP7 : PRow w7 P k 0 x 0 [] 0 := h7.2.2 _ _ _ (by omega) HP6.out
        have hZ7 : PRow w7 w.heap.size 0 0 0 0 [] 0 := h7.2.2 _ _ _ (by omega) HZ6.out
        have c3 := hP7.cells.2.2.2.1
        have f3 := hP7.frozen 3
        have HF : Hid (DeqR w.heap.size P b w (w7.setCell ⟨P, 3, none⟩ (.int .i64 (y : Int)))) := Lib.hid
          ⟨⟨k, 0, x, y, [], 0⟩, u + u1 + u2, ey, hP7.set3 _, hZ7.far (a := ⟨P, 3, none⟩) (by show w.heap.size ≠ P; omega) _, h7.1.below ((Below.refl P w7).setCell (p := ⟨P, 3, none⟩) (Nat.le_refl _) _) hlt2,
            (HB6.out.trans (h7.2.1.mono (by omega))).setCell (p := ⟨P, 3, none⟩) (by show w.heap.size ≤ P; omega) _, HD.out, by simp, by simp⟩
        clear hP7 hZ7 h7 HP6 HZ6 HR6 HB6 HD hn2
        go_wp2_with fail
        go_meet
        exact HF.out
    · have he1 : e1 = 0 := by
        rcases Nat.eq_zero_or_pos e1 with h | h
        · exact h
        · have := (rd_err hrd (by omega)).1; omega
      subst he1
      obtain ⟨⟨s, u1, ex⟩, hx⟩ : ∃ x, x = rdf (b.drop u) := ⟨_, rfl⟩
      have hx := hx.symm
      have HS : Hid (s.length ≤ 1000000) := Lib.hid (by
        rcases rdf_cases (b.drop u) with ⟨e, _, h⟩ | ⟨n, k, _, _, h1, _, h2, h⟩
        · rw [hx] at h; injection h with h _; subst h; simp
        · rw [hx] at h; injection h with h _; rw [h, h2]; omega)
      have HD : Hid (fin2 ⟨6, 0, 0, 0, s, 0⟩ (u + u1) ex = dn b) := Lib.hid (by rw [dn_name hrd hx]; rfl)
      have hn1 := qfield (w.heap.size + 1) b u w4 HR4.out s u1 ex hx
      clear HZ hx
      go_wp2_with fail
      refine hn1.mono ?_
      rintro e w5 ⟨v5, rfl, hv5, h5⟩
      have hcv := conv_sof hv5
      have hP5 : PRow w5 P _ 0 0 0 [] 0 := h5.2.2 _ _ _ (by omega) HP4.out
      have hZ5 : PRow w5 w.heap.size 0 0 0 0 [] 0 := h5.2.2 _ _ _ (by omega) HZ4.out
      have c4 := hP5.cells.2.2.2.2.1
      have f4 := hP5.frozen 4
      have HF : Hid (DeqR w.heap.size P b w (w5.setCell ⟨P, 4, none⟩ (.string (sof s)))) := Lib.hid
        ⟨⟨6, 0, 0, 0, s, 0⟩, u + u1, ex, hP5.set4 _, hZ5.far (a := ⟨P, 4, none⟩) (by show w.heap.size ≠ P; omega) _, h5.1.below ((Below.refl P w5).setCell (p := ⟨P, 4, none⟩) (Nat.le_refl _) _) hlt2,
          (HB4.out.trans (h5.2.1.mono (by omega))).setCell (p := ⟨P, 4, none⟩) (by show w.heap.size ≤ P; omega) _, HD.out, by simp, HS.out⟩
      clear hP5 hZ5 h5 HP4 HZ4 HR4 HB4 HD hn1 hv5
      go_wp2_with fail
      go_meet
      exact HF.out
    · have he1 : e1 = 0 := by
        rcases Nat.eq_zero_or_pos e1 with h | h
        · exact h
        · have := (rd_err hrd (by omega)).1; omega
      subst he1
      obtain ⟨⟨x, u1, ex⟩, hx⟩ : ∃ x, x = rd (b.drop u) := ⟨_, rfl⟩
      have hx := hx.symm
      have HD : Hid (fin2 ⟨7, 0, 0, 0, [], x⟩ (u + u1) ex = dn b) := Lib.hid (by rw [dn_num hrd hx]; rfl)
      have hn1 := qnumber (w.heap.size + 1) b u 0 w4 HR4.out x u1 ex (by unfold qnum; rw [if_pos rfl]; exact hx)
      clear HZ hx
      go_wp2_with fail
      refine hn1.mono ?_
      rintro e w5 ⟨rfl, h5⟩
      have hP5 : PRow w5 P _ 0 0 0 [] 0 := h5.2.2 _ _ _ (by omega) HP4.out
      have hZ5 : PRow w5 w.heap.size 0 0 0 0 [] 0 := h5.2.2 _ _ _ (by omega) HZ4.out
      have c5 := hP5.cells.2.2.2.2.2
      have f5 := hP5.frozen 5
      have HF : Hid (DeqR w.heap.size P b w (w5.setCell ⟨P, 5, none⟩ (.int .i64 (x : Int)))) := Lib.hid
        ⟨⟨7, 0, 0, 0, [], x⟩, u + u1, ex, hP5.set5 _, hZ5.far (a := ⟨P, 5, none⟩) (by show w.heap.size ≠ P; omega) _, h5.1.below ((Below.refl P w5).setCell (p := ⟨P, 5, none⟩) (Nat.le_refl _) _) hlt2,
          (HB4.out.trans (h5.2.1.mono (by omega))).setCell (p := ⟨P, 5, none⟩) (by show w.heap.size ≤ P; omega) _, HD.out, by simp, by simp⟩
      clear hP5 hZ5 h5 HP4 HZ4 HR4 HB4 HD hn1
      go_wp2_with fail
      go_meet
      exact HF.out
    · have HD : Hid (fin2 ⟨k, 0, 0, 0, [], 0⟩ u (fste e1 6) = dn b) := Lib.hid (by
        by_cases he : e1 = 0
        · subst he; rw [fste0, dn_kind hrd hk0]; rfl
        · rw [fste_ne he, dn_err hrd he]; unfold fin2; rw [if_pos he])
      have hfl : Calls Try.prog 45 #[.pointer (some ⟨w.heap.size + 1, 0, none⟩), .int .i64 6] w4 fun x w' => (∃ v, x = .returned v) ∧ Qds (w.heap.size + 1) b u (fste e1 6) w4 w' := qfail (w.heap.size + 1) b u e1 6 w4 HR4.out
      have g1 : ¬ (k : Int) = 1 := by omega
      have g2 : ¬ (k : Int) = 2 := by omega
      have g3 : ¬ (k : Int) = 3 := by omega
      have g4 : ¬ (k : Int) = 4 := by omega
      have g5 : ¬ (k : Int) = 5 := by omega
      have g6 : ¬ (k : Int) = 6 := by omega
      have g7 : ¬ (k : Int) = 7 := by omega
      clear HZ
      go_wp2_with fail
      refine hfl.mono ?_
      rintro e w5 ⟨⟨v5, rfl⟩, h5⟩
      have HF : Hid (DeqR w.heap.size P b w w5) := Lib.hid
        ⟨⟨k, 0, 0, 0, [], 0⟩, u, fste e1 6, h5.2.2 _ _ _ (by omega) HP4.out, h5.2.2 _ _ _ (by omega) HZ4.out, h5.1, HB4.out.trans (h5.2.1.mono (by omega)), HD.out, by simp, by simp⟩
      clear h5 HP4 HZ4 HR4 HB4 HD hfl
      go_wp2_with fail
      go_meet
      exact HF.out
  case rest =>
    clear HP4 HZ4 HR4 HB4 HZ
    obtain ⟨p, u', e', hP, hZ, hR, hB, hf, hm, hn⟩ := hcut
    rename World => w5
    have hv := rvalid p hm (by omega) w5
    obtain ⟨kk, m, lo, hi, nm, nu⟩ := p
    unfold pv at hv
    simp only at hv hP hm hn
    have HP5 := Lib.hid hP
    have HZ5 := Lib.hid hZ
    have HR5 := Lib.hid hR
    have HB5 := Lib.hid hB
    have hl1 := hP.lt
    have hl2 := hZ.lt
    have hl3 := hR.lt
    by_cases hp : pok ⟨kk, m, lo, hi, nm, nu⟩
    · rw [decide_eq_true hp] at hv
      clear hP hZ hR hB
      go_wp2_with (first | (with_reducible refine wpList_load_prd rfl _ rfl (g := P) rfl HP5.out ?_))
      refine hv.mono ?_
      rintro e w6 ⟨rfl, hb6⟩
      have hP6 : PRow w6 P kk m lo hi nm nu := HP5.out.below hb6 hl1
      have hZ6 : PRow w6 w.heap.size 0 0 0 0 [] 0 := HZ5.out.below hb6 hl2
      have HB6 := Lib.hid (HB5.out.trans (hb6.mono (by omega)))
      obtain ⟨A6, c6, -, hR6, -⟩ := HR5.out.below hb6 hl3
      have r1 := hR6.cell 1
      have r2 := hR6.cell 2
      simp only [List.getElem?_toArray, List.getElem?_cons_zero, List.getElem?_cons_succ] at r1 r2
      obtain ⟨c0, c1, c2, c3, c4, c5⟩ := hP6.cells
      obtain ⟨z0, z1, z2, z3, z4, z5⟩ := hZ6.cells
      obtain ⟨y0, y1, y2, y3, y4, y5⟩ := hZ6.frees
      have HZ6 := Lib.hid hZ6
      clear hP6 hZ6 hR6 hb6 hv HP5 HZ5 HR5 HB5
      by_cases he : e' = 0
      · subst he
        have HE : Hid (dn b = (⟨kk, m, lo, hi, nm, nu⟩, u', 0)) := Lib.hid (by rw [← hf]; exact fin_ok hp u')
        clear hf
        go_wp2
        go_region
        go_wp2
        refine bodyPost_ret (results_prd2 (g := w.heap.size) Try.results70 _ rfl _ _ rfl rfl (Whole.drew (HZ6.out.sets kk (m : Int) lo hi nm nu))) rfl ?_
        refine ⟨?_, (below_sets HB6.out (Nat.le_refl _) _ _ _ _ _ _).drew⟩
        rw [HE.out, pv_row]
        first | rfl | simp
      · have he' : ¬ (e' : Int) = 0 := by omega
        have HE : Hid (dn b = (.zero, 0, e')) := Lib.hid (by rw [← hf]; unfold fin2; first | rw [if_pos he] | (by_cases he : e' = 0 <;> simp [he, fste, fin, hp]))
        clear hf
        go_wp2
        go_region
        go_wp2
        refine bodyPost_ret (results_prd2 (g := w.heap.size) Try.results70 _ rfl _ _ rfl rfl (Whole.drew HZ6.out.setsz)) rfl ?_
        refine ⟨?_, (below_sets HB6.out (Nat.le_refl _) _ _ _ _ _ _).drew⟩
        rw [HE.out, pv_row]
        first | rfl | simp
    · rw [decide_eq_false hp] at hv
      have hfl : ∀ W, Qrd (w.heap.size + 1) W b u' e' → Calls Try.prog 45 #[.pointer (some ⟨w.heap.size + 1, 0, none⟩), .int .i64 5] W fun x w' => (∃ v, x = .returned v) ∧ Qds (w.heap.size + 1) b u' (fste e' 5) W w' := qfail (w.heap.size + 1) b u' e' 5
      have he : fste e' 5 ≠ 0 := by unfold fste; split <;> omega
      clear hP hZ hR hB
      go_wp2_with (first | (with_reducible refine wpList_load_prd rfl _ rfl (g := P) rfl HP5.out ?_))
      refine hv.mono ?_
      rintro e w6 ⟨rfl, hb6⟩
      have HR6 := Lib.hid (HR5.out.below hb6 hl3)
      have HZ6 := Lib.hid (HZ5.out.below hb6 hl2)
      have HB6 := Lib.hid (HB5.out.trans (hb6.mono (by omega)))
      clear hb6 hv HP5 HZ5 HR5 HB5
      go_wp2_with fail
      refine (hfl w6 HR6.out).mono ?_
      rintro e w7 ⟨⟨v7, rfl⟩, h7⟩
      have hZ7 : PRow w7 w.heap.size 0 0 0 0 [] 0 := h7.2.2 _ _ _ (by omega) HZ6.out
      have HB7 := Lib.hid (HB6.out.trans (h7.2.1.mono (by omega)))
      obtain ⟨A7, c7, -, hR7, -⟩ := h7.1
      have r2 := hR7.cell 2
      simp only [List.getElem?_toArray, List.getElem?_cons_zero, List.getElem?_cons_succ] at r2
      obtain ⟨z0, z1, z2, z3, z4, z5⟩ := hZ7.cells
      obtain ⟨y0, y1, y2, y3, y4, y5⟩ := hZ7.frees
      have HZ7 := Lib.hid hZ7
      have HE : Hid (dn b = (.zero, 0, fste e' 5)) := Lib.hid (by
        rw [← hf]
        unfold fin2
        by_cases h0 : e' = 0
        · subst h0; rw [if_neg (by simp)]; exact fin_bad hp u'
        · rw [if_pos h0, fste_ne h0])
      clear hZ7 hR7 h7 hfl hf HZ6 HR6 HB6
      generalize fste e' 5 = E at *
      have he' : ¬ (E : Int) = 0 := by omega
      go_wp2
      go_region
      go_wp2
      refine bodyPost_ret (results_prd2 (g := w.heap.size) Try.results70 _ rfl _ _ rfl rfl (Whole.drew HZ7.out.setsz)) rfl ?_
      refine ⟨?_, (below_sets HB7.out (Nat.le_refl _) _ _ _ _ _ _).drew⟩
      rw [HE.out, pv_row]
      first | rfl | simp
end Go.Proofs.Ytknhnkmooaopmaa
namespace Go.Proofs.Ytknhnkmooaopmaa
open Go Go.RowKit Sh Leaf

theorem Oth.setRow {g G : Nat} {w w' : World} (h : Oth g w w') (hG : w.heap.size ≤ G) (hg : G ≠ g) (cs : Array Value) : Oth g w (w'.setRow G cs) :=
  ⟨fun b t c hb _ hw => (setRow_other w' G b cs (by have := lt_of_heap hw; omega)).trans (h.oth b t c hb hw), fun v hv => by
    have h1 := h.zero v hv
    unfold World.cell? at h1 ⊢
    rw [setRow_other w' G g cs (Ne.symm hg)]
    exact h1⟩
/-- What Field makes of a reader. -/
def qfl (b : List B8) (u e : Nat) : List B8 × Nat × Nat := if e = 0 then rdf (b.drop u) else ([], 0, e)
/-- What Predicate makes of a reader. -/
def qpr (b : List B8) (u e : Nat) : Prd × Nat × Nat := if e = 0 then dn (b.drop u) else (.zero, 0, e)
set_option maxHeartbeats 1000000 in
theorem qfield2 (g : Nat) (b : List B8) (u e : Nat) (w : World) (h : Qrd g w b u e) (s : List B8) (k e1 : Nat) (hr : qfl b u e = (s, k, e1)) :
    Calls Try.prog 44 #[.pointer (some ⟨g, 0, none⟩)] w fun x w' => ∃ v', x = .returned v' ∧ Bytes w' (fun x => w.heap.size ≤ x) v' s ∧ Qds g b (u + k) e1 w w' := by
  obtain ⟨A, c, hb, hW, hu⟩ := id h
  have c0 := hW.cell 0
  have c1 := hW.cell 1
  have c2 := hW.cell 2
  simp only [List.getElem?_toArray, List.getElem?_cons_zero, List.getElem?_cons_succ] at c0 c1 c2
  unfold qfl at hr
  by_cases he : e = 0
  case neg =>
    rw [if_neg he] at hr
    injection hr with r1 r2
    injection r2 with r2 r3
    subst r1 r2 r3
    have he' : ¬ (e : Int) = 0 := by omega
    go_enter Try.func44, Try.ntmps44
    go_wp2
    go_ret
    exact ⟨_, rfl, Bytes.nil _ _, h, Below.refl _ _, Oth.refl _ _⟩
  subst he
  rw [if_pos rfl] at hr
  have hk := rdf_le (b.drop u)
  rw [hr] at hk
  simp only [List.length_drop] at hk
  obtain ⟨A', c', e0, hlc, hcm, -⟩ := id hb
  cases e0
  have hrun := fun W => run_cut_from A b.length c u hu W
  have hbd := hb.drop u hu
  generalize (if c = u then A else A.map (·.add u)) = A2 at hrun hbd
  have hkeep : Hid (∀ W, Below w.heap.size w W → Bytes W (fun x => x < g) (.slice A2 (b.length - u) (c - u)) (b.drop u)) := Lib.hid fun W hW => hbd.below hW (Nat.le_refl _)
  have hrd : Hid (∀ W, Below w.heap.size w W → Calls Try.prog 71 #[.slice A2 (b.length - u) (c - u)] W fun x w' => ∃ v', x = .returned (.tuple #[v', .int .i64 (k : Int), .int .i64 (e1 : Int)]) ∧ Bytes w' (fun x => x < g) v' s ∧ Below w.heap.size w w') := Lib.hid fun W hW => by
    refine (rread _ _ _ W (hkeep.out W hW)).mono ?_
    rintro x w' ⟨v', rfl, ho, hb'⟩
    rw [hr] at ho
    exact ⟨v', by rw [hr], ho, hW.trans (hb'.mono hW.size)⟩
  have hsl : s.length ≤ 1000000 := by
    rcases rdf_cases (b.drop u) with ⟨e, _, h⟩ | ⟨n, k, _, _, h1, _, h2, h⟩
    · rw [hr] at h; injection h with h _; subst h; simp
    · rw [hr] at h; injection h with h _; rw [h, h2]; omega
  have H := Lib.hid h
  have hc : Hid (∀ W, Below w.heap.size w W → W.cell? ⟨g, 0, none⟩ = some (.slice A b.length c) ∧ W.cell? ⟨g, 1, none⟩ = some (.int .i64 u)) := Lib.hid fun W hW2 => ⟨(hW2.cell (p := ⟨g, 0, none⟩) hW.lt).trans c0, (hW2.cell (p := ⟨g, 1, none⟩) hW.lt).trans c1⟩
  have had : Hid (∀ W, Below w.heap.size w W → Calls Try.prog 45 #[.pointer (some ⟨g, 0, none⟩), .int .i64 e1] W fun x w' => (∃ v, x = .returned v) ∧ Qds g b u e1 w w' ∧ ∀ v, Bytes W (fun x => x < g) v s → Bytes w' (fun x => x < g) v s) := Lib.hid fun W hW => by
    refine (qfail g b u 0 e1 W (h.below hW h.lt)).mono ?_
    rintro x w' ⟨hv, h1, h2, h3⟩
    exact ⟨hv, ⟨h1, (hW.mono (Nat.le_of_lt h.lt)).trans h2, (Oth.below g hW).trans h3⟩, fun v hv => hv.keep fun x _ hx => h2.block x hx⟩
  have hkl : u + k ≤ b.length := by omega
  have hgl := h.lt
  clear h hk hW hr hb hbd hkeep hlc hcm hu
  go_enter Try.func44, Try.ntmps44
  go_wp2_with fail
  go_region_held3 (fun w' => w'.cell? ⟨g, 0, none⟩ = some (.slice A b.length c) ∧ w'.cell? ⟨g, 1, none⟩ = some (.int .i64 (u : Int))) (first | exact ⟨c0, c1⟩ | assumption | exact hc.out _ (by assumption) | go_keep)
    (first | (go_at_call 71; refine (hrd.out _ (by repeat (first | exact Below.refl _ _ | refine Below.drew ?_))).mono ?_; rintro e w5 ⟨v5, rfl, hv5, hb5⟩; have hc5 := hc.out _ hb5))
  go_wp2_with fail
  refine (had.out _ (by repeat (first | assumption | exact Below.refl _ _ | refine Below.drew ?_))).mono ?_
  rintro x w6 ⟨⟨v, rfl⟩, h6, hv6⟩
  have hv := hv6 _ (by first | exact hv5 | exact hv5.drew)
  obtain ⟨hm, hw, d1, f1⟩ := h6.1.move hkl
  have H6 := Lib.hid (h6.trans hm)
  have hv7 : Bytes (w6.setCell ⟨g, 1, none⟩ (.int .i64 ((u : Int) + (k : Int)))) (fun x => x < g) v5 s := hv.set (fun x hx e => by have : x = g := e; omega) _
  have hgl7 : g < (w6.setCell ⟨g, 1, none⟩ (.int .i64 ((u : Int) + (k : Int)))).heap.size := H6.out.1.lt
  obtain ⟨A5, c5', rfl, -⟩ := id hv7
  have HV7 := Lib.hid hv7
  clear h6 hm hb5 hc5 c0 c1 c2 hv6 hv hv5 hv7
  have hsw6 : w.heap.size ≤ w6.heap.size := by have := H6.out.2.1.size; simpa using this
  have hsz : (w6.setCell ⟨g, 1, none⟩ (.int .i64 ((u : Int) + (k : Int)))).heap.size = w6.heap.size := by simp
  have hol := own_lit (w6.setCell ⟨g, 1, none⟩ (.int .i64 ((u : Int) + (k : Int)))) (w6.setCell ⟨g, 1, none⟩ (.int .i64 ((u : Int) + (k : Int)))).heap.size [] (Nat.le_refl _) (by simp)
  rw [hsz] at hol hgl7
  have HOL := Lib.hid hol
  clear hol
  go_wp2_with (at_builtin; go_must (refine wpList_append_bytes rfl (.tmp 37) (.tmp 38) rfl w6.heap.size (.slice (some ⟨w6.heap.size, 0, none⟩) 0 0) [] rfl HOL.out _ _ s rfl (HV7.out.alloc _) (by simp; omega) (by simp) ?_; intro v8 w8 ho8 hb8))
  rw [List.nil_append] at ho8
  have hb78 : Below w6.heap.size (w6.setCell ⟨g, 1, none⟩ (.int .i64 ((u : Int) + (k : Int)))) w8 := ((Below.refl w6.heap.size _).alloc (by simp) (.cells #[] 5)).trans hb8
  have HF : Hid (Qds g b (u + k) e1 w w8) := Lib.hid ⟨H6.out.1.below hb78 hgl7, H6.out.2.1.trans (hb78.mono (Nat.le_of_lt hgl7)), H6.out.2.2.trans (Oth.below g hb78 (by first | exact Nat.le_of_eq hsz | exact Nat.le_of_eq hsz.symm | simp))⟩
  have HO8 := Lib.hid (Bytes.of_own ho8)
  clear ho8 hb8 hb78 HOL HV7 H6
  go_ret
  exact ⟨_, rfl, HO8.out.mono fun _ _ h => Nat.le_trans hsw6 h, HF.out⟩
set_option linter.unusedSimpArgs false in
set_option linter.unusedVariables false in
set_option maxRecDepth 100000 in
set_option maxHeartbeats 4000000 in
theorem qpred (g : Nat) (b : List B8) (u e : Nat) (w : World) (h : Qrd g w b u e) (n : Prd) (k e1 : Nat) (hr : qpr b u e = (n, k, e1)) :
    Calls Try.prog 43 #[.pointer (some ⟨g, 0, none⟩)] w fun x w' => x = .returned (pv n) ∧ Qds g b (u + k) e1 w w' := by
  have hgl := h.lt
  rw [pv_row]
  obtain ⟨w0, hw0⟩ : ∃ q, q = w.alloc (.cells #[.int .i64 0, .int .u64 0, .int .i64 0, .int .i64 0, .string { data := #[] }, .int .i64 0] 24) := ⟨_, rfl⟩
  have hz0 : PRow w0 w.heap.size 0 0 0 0 [] 0 := PRow.of_zero (by rw [hw0]; exact Whole.here _ _ _)
  have hb0 : Below w.heap.size w w0 := by rw [hw0]; exact (Below.refl _ _).alloc (Nat.le_refl _) _
  have hq0 : Qrd g w0 b u e := h.below hb0 hgl
  have hsw0 : w.heap.size < w0.heap.size := hz0.lt
  have HZ0 := Lib.hid hz0
  have HB0 := Lib.hid hb0
  have HQ := Lib.hid h
  clear hz0 hb0 h
  obtain ⟨A, c, hb, hW, hu⟩ := id hq0
  have c0 := hW.cell 0
  have c1 := hW.cell 1
  have c2 := hW.cell 2
  simp only [List.getElem?_toArray, List.getElem?_cons_zero, List.getElem?_cons_succ] at c0 c1 c2
  unfold qpr at hr
  by_cases he : e = 0
  case neg =>
    rw [if_neg he] at hr
    injection hr with r1 r2
    injection r2 with r2 r3
    subst r1 r2 r3
    have he' : ¬ (e : Int) = 0 := by omega
    have hf : PRow (w0.setRow w.heap.size #[.int .i64 0, .int .u64 0, .int .i64 0, .int .i64 0, .string { data := #[] }, .int .i64 0]) w.heap.size 0 0 0 0 [] 0 := PRow.of_zero (Whole.setRow HZ0.out _)
    have hone : (#[.int .i64 0, .int .u64 0, .int .i64 0, .int .i64 0, .string { data := #[] }, .int .i64 0] : Array Value).all (·.oneCell') = true := by simp [Value.oneCell']
    have HONE := Lib.hid hone
    clear hone
    have hbf : Below w.heap.size w (w0.setRow w.heap.size #[.int .i64 0, .int .u64 0, .int .i64 0, .int .i64 0, .string { data := #[] }, .int .i64 0]) := below_setRow HB0.out (Nat.le_refl _) _
    have HF := Lib.hid (And.intro hf hbf)
    clear hb hW hq0 he hf hbf c0 c1 hu
    go_enter Try.func43, Try.ntmps43
    go_upto_region 1 with fail
    rw [← hw0]
    clear hw0
    go_wp2_with (refine wpList_store_row rfl 24 _ _ rfl w.heap.size #[.int .i64 0, .int .u64 0, .int .i64 0, .int .i64 0, .string { data := #[] }, .int .i64 0] rfl rfl 24 _ HZ0.out prdSize rfl HONE.out ?_)
    refine bodyPost_ret (results_prd (g := w.heap.size) Try.results43 _ rfl HF.out.1) rfl ?_
    exact ⟨rfl, HQ.out.below HF.out.2 hgl, HF.out.2.mono (Nat.le_of_lt hgl), Oth.below g HF.out.2⟩
  subst he
  rw [if_pos rfl] at hr
  have hk := dn_le (b.drop u)
  rw [hr] at hk
  simp only [List.length_drop] at hk
  obtain ⟨A', c', e0, hlc, hcm, -⟩ := id hb
  cases e0
  have hrun := fun W => run_cut_from A b.length c u hu W
  have hbd := hb.drop u hu
  generalize (if c = u then A else A.map (·.add u)) = A2 at hrun hbd
  have hrd : Hid (∀ W, Below w0.heap.size w0 W → Calls Try.prog 70 #[.slice A2 (b.length - u) (c - u)] W fun x w' => x = .returned (.tuple #[.agg (prow n.kind n.mask n.lo n.hi n.name n.num), .int .i64 (k : Int), .int .i64 (e1 : Int)]) ∧ Below W.heap.size W w') := Lib.hid fun W hW => by
    refine (rdecode _ _ _ W (hbd.below hW (Nat.le_refl _))).mono ?_
    rintro x w' ⟨rfl, hb'⟩
    exact ⟨by rw [hr, pv_row], hb'⟩
  have HCC : Hid (∀ W, Below w0.heap.size w0 W → W.cell? ⟨g, 0, none⟩ = some (.slice A b.length c) ∧ W.cell? ⟨g, 1, none⟩ = some (.int .i64 u)) := Lib.hid fun W hW2 => ⟨(hW2.cell (p := ⟨g, 0, none⟩) hW.lt).trans c0, (hW2.cell (p := ⟨g, 1, none⟩) hW.lt).trans c1⟩
  have hkl : u + k ≤ b.length := by omega
  have HQ0 := Lib.hid hq0
  have hg0 : g < w0.heap.size := by omega
  clear hk hW hr hb hbd hlc hcm hu hq0 c0 c1
  go_enter Try.func43, Try.ntmps43
  go_upto_region 1 with fail
  rw [← hw0]
  clear hw0
  go_upto_region 3 with fail
  clear c2
  have hbz : Below w0.heap.size w0 w0.drew := (Below.refl _ _).drew
  refine wp_region_held_drew (S := fun W : World => W.cell? ⟨g, 0, none⟩ = some (.slice A b.length c) ∧ W.cell? ⟨g, 1, none⟩ = some (.int .i64 (u : Int))) (by kernel_rfl) (HCC.out _ hbz) (fun hHeld => ?_)
  generalize w0.drew = W0 at hbz hHeld ⊢
  apply wpAnyH_take (i := 0) rfl (by kernel_rfl) (by kernel_rfl) (by kernel_rfl)
  case hQ => exact fun _ _ _ h => h
  case hS => exact hHeld
  case hy => (refine Or.inl ⟨by rfl, ?_⟩; intro w hSw; (try go_split_ands); go_simp; (try with_reducible rfl))
  (try simp only [List.getElem_toArray, List.getElem_cons_zero, Act.put, List.setIfInBounds_toArray, List.set_cons_zero, List.set_cons_succ])
  apply wpAnyH_take (i := 1) rfl (by kernel_rfl) (by kernel_rfl) (by kernel_rfl)
  case hQ => exact fun _ _ _ h => h
  case hS => exact hHeld
  case hy => (refine Or.inl ⟨by rfl, ?_⟩; intro w hSw; (try go_split_ands); go_simp; (try with_reducible rfl))
  (try simp only [List.getElem_toArray, List.getElem_cons_succ, List.getElem_cons_zero, Act.put, List.setIfInBounds_toArray, List.set_cons_zero, List.set_cons_succ])
  apply wpAnyH_take (i := 2) rfl (by kernel_rfl) (by kernel_rfl) (by kernel_rfl)
  case hQ => exact fun _ _ _ h => h
  case hS => exact hHeld
  case hy => (refine Or.inl ⟨by rfl, ?_⟩; intro w hSw; (try go_split_ands); go_simp; (try with_reducible rfl))
  (try simp only [List.getElem_toArray, List.getElem_cons_succ, List.getElem_cons_zero, Act.put, List.setIfInBounds_toArray, List.set_cons_zero, List.set_cons_succ])
  apply wpAnyH_take (i := 3) rfl (by kernel_rfl) (by kernel_rfl) (by kernel_rfl)
  case hQ => exact fun _ _ _ h => h
  case hS => exact hHeld
  case hy => (refine Or.inl ⟨by rfl, ?_⟩; intro w hSw; (try go_split_ands); go_simp; (try with_reducible rfl))
  (try simp only [List.getElem_toArray, List.getElem_cons_succ, List.getElem_cons_zero, Act.put, List.setIfInBounds_toArray, List.set_cons_zero, List.set_cons_succ])
  apply wpAnyH_take (i := 4) rfl (by kernel_rfl) (by kernel_rfl) (by kernel_rfl)
  case hQ => exact fun _ _ _ h => h
  case hS => exact hHeld
  case hy => (refine Or.inl ⟨by rfl, ?_⟩; intro w hSw; (try go_split_ands); go_simp; (try with_reducible rfl))
  (try simp only [List.getElem_toArray, List.getElem_cons_succ, List.getElem_cons_zero, Act.put, List.setIfInBounds_toArray, List.set_cons_zero, List.set_cons_succ])
  apply wpAnyH_take (i := 5) rfl (by kernel_rfl) (by kernel_rfl) (by kernel_rfl)
  case hQ => exact fun _ _ _ h => h
  case hS => exact hHeld
  case hy => (refine Or.inl ⟨by rfl, ?_⟩; intro w hSw; (try go_split_ands); go_simp; (try with_reducible rfl))
  (try simp only [List.getElem_toArray, List.getElem_cons_succ, List.getElem_cons_zero, Act.put, List.setIfInBounds_toArray, List.set_cons_zero, List.set_cons_succ])
  apply wpAnyH_take (i := 6) rfl (by kernel_rfl) (by kernel_rfl) (by kernel_rfl)
  case hQ => exact fun _ _ _ h => h
  case hS => exact hHeld
  case hy => (refine Or.inl ⟨by rfl, ?_⟩; intro w hSw; (try go_split_ands); go_simp; (try with_reducible rfl))
  (try simp only [List.getElem_toArray, List.getElem_cons_succ, List.getElem_cons_zero, Act.put, List.setIfInBounds_toArray, List.set_cons_zero, List.set_cons_succ])
  apply wpAnyH_take (i := 7) rfl (by kernel_rfl) (by kernel_rfl) (by kernel_rfl)
  case hQ => exact fun _ _ _ h => h
  case hS => exact hHeld
  case hy => (refine Or.inl ⟨by rfl, ?_⟩; intro w hSw; (try go_split_ands); go_simp; (try with_reducible rfl))
  (try simp only [List.getElem_toArray, List.getElem_cons_succ, List.getElem_cons_zero, Act.put, List.setIfInBounds_toArray, List.set_cons_zero, List.set_cons_succ])
  apply wpAnyH_take (i := 8) rfl (by kernel_rfl) (by kernel_rfl) (by kernel_rfl)
  case hQ => exact fun _ _ _ h => h
  case hS => exact hHeld
  case hy => (refine Or.inl ⟨by rfl, ?_⟩; intro w hSw; (try go_split_ands); go_simp; (try with_reducible rfl))
  (try simp only [List.getElem_toArray, List.getElem_cons_succ, List.getElem_cons_zero, Act.put, List.setIfInBounds_toArray, List.set_cons_zero, List.set_cons_succ])
  refine wpAnyH_ready (rs := [9, 14]) (by kernel_rfl) (by simp) ?_
  refine AllReadyH.cons rfl (fun KK hKK => ?_) (AllReadyH.cons rfl (fun KK hKK => ?_) AllReadyH.nil)
  · (try simp only [List.getElem_toArray, List.getElem_cons_succ, List.getElem_cons_zero])
    go_simp
    go_at_call 70
    refine (hrd.out W0 hbz).mono ?_
    rintro e V1 ⟨rfl, hv1⟩
    have hb1 := hbz.trans (hv1.mono hbz.size)
    clear hv1
    refine hKK.out _ _ (HCC.out _ hb1) (fun hHeld => ?_)
    clear hKK KK
    (try simp only [List.getElem_toArray, List.getElem_cons_succ, List.getElem_cons_zero, Act.put, List.setIfInBounds_toArray, List.set_cons_zero, List.set_cons_succ])
    apply wpAnyH_take (i := 10) rfl (by kernel_rfl) (by kernel_rfl) (by kernel_rfl)
    case hQ => exact fun _ _ _ h => h
    case hS => exact hHeld
    case hy => (refine Or.inl ⟨by rfl, ?_⟩; intro w hSw; (try go_split_ands); go_simp; (try with_reducible rfl))
    (try simp only [List.getElem_toArray, List.getElem_cons_succ, List.getElem_cons_zero, Act.put, List.setIfInBounds_toArray, List.set_cons_zero, List.set_cons_succ])
    apply wpAnyH_take (i := 11) rfl (by kernel_rfl) (by kernel_rfl) (by kernel_rfl)
    case hQ => exact fun _ _ _ h => h
    case hS => exact hHeld
    case hy => (refine Or.inl ⟨by rfl, ?_⟩; intro w hSw; (try go_split_ands); go_simp; (try with_reducible rfl))
    (try simp only [List.getElem_toArray, List.getElem_cons_succ, List.getElem_cons_zero, Act.put, List.setIfInBounds_toArray, List.set_cons_zero, List.set_cons_succ])
    apply wpAnyH_take (i := 12) rfl (by kernel_rfl) (by kernel_rfl) (by kernel_rfl)
    case hQ => exact fun _ _ _ h => h
    case hS => exact hHeld
    case hy => (refine Or.inl ⟨by rfl, ?_⟩; intro w hSw; (try go_split_ands); go_simp; (try with_reducible rfl))
    (try simp only [List.getElem_toArray, List.getElem_cons_succ, List.getElem_cons_zero, Act.put, List.setIfInBounds_toArray, List.set_cons_zero, List.set_cons_succ])
    apply wpAnyH_take (i := 13) rfl (by kernel_rfl) (by kernel_rfl) (by kernel_rfl)
    case hQ => exact fun _ _ _ h => h
    case hS => exact hHeld
    case hy => (refine Or.inl ⟨by rfl, ?_⟩; intro w hSw; (try go_split_ands); go_simp; (try with_reducible rfl))
    (try simp only [List.getElem_toArray, List.getElem_cons_succ, List.getElem_cons_zero, Act.put, List.setIfInBounds_toArray, List.set_cons_zero, List.set_cons_succ])
    refine wpAnyH_ready (rs := [14]) (by kernel_rfl) (by simp) ?_
    refine AllReadyH.cons rfl (fun KK hKK => ?_) AllReadyH.nil
    (try simp only [List.getElem_toArray, List.getElem_cons_succ, List.getElem_cons_zero])
    go_simp
    obtain ⟨G, hG⟩ : ∃ g, g = V1.heap.size := ⟨_, rfl⟩
    obtain ⟨V2, hV2⟩ : ∃ qq, qq = V1.alloc (.cells #[.int .i64 0, .int .u64 0, .int .i64 0, .int .i64 0, .string { data := #[] }, .int .i64 0] 24) := ⟨_, rfl⟩
    have hb2 : Below w0.heap.size w0 V2 := by rw [hV2]; exact hb1.alloc hb1.size _
    have z2 : PRow V2 G 0 0 0 0 [] 0 := PRow.of_zero (by rw [hV2, hG]; exact Whole.here _ _ _)
    have pG : w0.heap.size ≤ G := by rw [hG]; exact hb1.size
    rw [← hG, ← hV2]
    clear hV2 hG
    refine hKK.out _ _ (HCC.out _ hb2) (fun hHeld => ?_)
    clear hKK KK
    (try simp only [List.getElem_toArray, List.getElem_cons_succ, List.getElem_cons_zero, Act.put, List.setIfInBounds_toArray, List.set_cons_zero, List.set_cons_succ])
    refine wpAnyH_ready (rs := [15]) (by kernel_rfl) (by simp) ?_
    refine AllReadyH.cons rfl (fun KK hKK => ?_) AllReadyH.nil
    obtain ⟨V3, hV3⟩ : ∃ qq, qq = V2.setRow G (prow n.kind n.mask n.lo n.hi n.name n.num) := ⟨_, rfl⟩
    have z3 : PRow V3 G n.kind n.mask n.lo n.hi n.name n.num := by rw [hV3]; exact PRow.setRow z2 _ _ _ _ _ _
    have hb3 : Below w0.heap.size w0 V3 := by rw [hV3]; exact below_setRow hb2 pG _
    rw [if_pos (by kernel_rfl)]
    refine wp_store_row 24 _ _ rfl G (prow n.kind n.mask n.lo n.hi n.name n.num) rfl rfl 24 _ z2 prdSize rfl (by simp [Value.oneCell']) ?_
    rw [← hV3]
    clear hV3
    refine hKK.out _ _ (HCC.out _ hb3) (fun hHeld => ?_)
    clear hKK KK
    (try simp only [List.getElem_toArray, List.getElem_cons_succ, List.getElem_cons_zero, Act.put, List.setIfInBounds_toArray, List.set_cons_zero, List.set_cons_succ])
    apply wpAnyH_take (i := 16) rfl (by kernel_rfl) (by kernel_rfl) (by kernel_rfl)
    case hQ => exact fun _ _ _ h => h
    case hS => exact hHeld
    case hy => (refine Or.inl ⟨by rfl, ?_⟩; intro w hSw; (try go_split_ands); go_simp; (try with_reducible rfl))
    (try simp only [List.getElem_toArray, List.getElem_cons_succ, List.getElem_cons_zero, Act.put, List.setIfInBounds_toArray, List.set_cons_zero, List.set_cons_succ])
    apply wpAnyH_take (i := 17) rfl (by kernel_rfl) (by kernel_rfl) (by kernel_rfl)
    case hQ => exact fun _ _ _ h => h
    case hS => exact hHeld
    case hy => (refine Or.inl ⟨by rfl, ?_⟩; intro w hSw; (try go_split_ands); go_simp; (try with_reducible rfl))
    (try simp only [List.getElem_toArray, List.getElem_cons_succ, List.getElem_cons_zero, Act.put, List.setIfInBounds_toArray, List.set_cons_zero, List.set_cons_succ])
    refine wpAnyH_done (by kernel_rfl) ?_ _
    have hcl := qfail g b u 0 e1 V3 (HQ0.out.below hb3 hg0)
    have HP := Lib.hid z3
    have HB := Lib.hid hb3
    have hsv : w0.heap.size ≤ V3.heap.size := hb3.size
    clear hHeld
    go_wp2_with fail
    refine hcl.mono ?_
    rintro x w6 ⟨⟨v, rfl⟩, h6⟩
    clear hcl
    obtain ⟨hm, hw, d1, f1⟩ := h6.1.move hkl
    have HP7 : Hid (PRow (w6.setCell ⟨g, 1, none⟩ (.int .i64 ((u : Int) + (k : Int)))) G n.kind n.mask n.lo n.hi n.name n.num) := Lib.hid (Whole.far (h6.2.2.oth _ _ _ (by omega) HP.out) (a := ⟨g, 1, none⟩) (by show G ≠ g; omega) _)
    have HZ7 : Hid (PRow (w6.setCell ⟨g, 1, none⟩ (.int .i64 ((u : Int) + (k : Int)))) w.heap.size 0 0 0 0 [] 0) := Lib.hid (Whole.far (h6.2.2.oth _ _ _ (by omega) (HZ0.out.below HB.out hsw0)) (a := ⟨g, 1, none⟩) (by show w.heap.size ≠ g; omega) _)
    have hb7 : Below w.heap.size w V3 := HB0.out.trans (HB.out.mono (Nat.le_of_lt hsw0))
    have H7 : Hid (Qds g b (u + k) e1 w (w6.setCell ⟨g, 1, none⟩ (.int .i64 ((u : Int) + (k : Int))))) := by have := h6.trans hm; exact Lib.hid ⟨this.1, (hb7.mono (Nat.le_of_lt hgl)).trans this.2.1, (Oth.below g hb7).trans this.2.2⟩
    clear h6 hm hb7 HP
    have hs7 : w.heap.size < (w6.setCell ⟨g, 1, none⟩ (.int .i64 ((u : Int) + (k : Int)))).heap.size := HZ7.out.lt
    obtain ⟨w7, hw7⟩ : ∃ q, q = (w6.setCell ⟨g, 1, none⟩ (.int .i64 ((u : Int) + (k : Int)))).setRow w.heap.size (prow n.kind n.mask n.lo n.hi n.name n.num) := ⟨_, rfl⟩
    have hf : PRow w7 w.heap.size n.kind n.mask n.lo n.hi n.name n.num := by rw [hw7]; exact PRow.setRow HZ7.out _ _ _ _ _ _
    have HF : Hid (Qds g b (u + k) e1 w w7) := by rw [hw7]; exact Lib.hid ⟨H7.out.1.below (below_setRow (Below.refl w.heap.size _) (Nat.le_refl _) _) hgl, H7.out.2.1.trans (below_setRow (Below.refl _ _) (Nat.le_of_lt hgl) _), H7.out.2.2.setRow (Nat.le_refl _) (Nat.ne_of_gt hgl) _⟩
    go_wp2_with (first | (with_reducible refine wpList_load_prd rfl _ rfl (g := G) rfl HP7.out ?_) | (with_reducible refine wpList_store_prd rfl _ _ rfl (g := w.heap.size) rfl rfl HZ7.out ?_))
    rw [← hw7]
    clear hw7
    refine bodyPost_ret (results_prd (g := w.heap.size) Try.results43 _ rfl hf) rfl ?_
    exact ⟨rfl, HF.out⟩
  · (try simp only [List.getElem_toArray, List.getElem_cons_succ, List.getElem_cons_zero])
    go_simp
    obtain ⟨G, hG⟩ : ∃ g, g = W0.heap.size := ⟨_, rfl⟩
    obtain ⟨V4, hV4⟩ : ∃ qq, qq = W0.alloc (.cells #[.int .i64 0, .int .u64 0, .int .i64 0, .int .i64 0, .string { data := #[] }, .int .i64 0] 24) := ⟨_, rfl⟩
    have hb4 : Below w0.heap.size w0 V4 := by rw [hV4]; exact hbz.alloc hbz.size _
    have z4 : PRow V4 G 0 0 0 0 [] 0 := PRow.of_zero (by rw [hV4, hG]; exact Whole.here _ _ _)
    have pG : w0.heap.size ≤ G := by rw [hG]; exact hbz.size
    rw [← hG, ← hV4]
    clear hV4 hG
    refine hKK.out _ _ (HCC.out _ hb4) (fun hHeld => ?_)
    clear hKK KK
    (try simp only [List.getElem_toArray, List.getElem_cons_succ, List.getElem_cons_zero, Act.put, List.setIfInBounds_toArray, List.set_cons_zero, List.set_cons_succ])
    refine wpAnyH_ready (rs := [9]) (by kernel_rfl) (by simp) ?_
    refine AllReadyH.cons rfl (fun KK hKK => ?_) AllReadyH.nil
    (try simp only [List.getElem_toArray, List.getElem_cons_succ, List.getElem_cons_zero])
    go_simp
    go_at_call 70
    refine (hrd.out V4 hb4).mono ?_
    rintro e V5 ⟨rfl, hv5⟩
    have hb5 := hb4.trans (hv5.mono hb4.size)
    have z5 := Whole.below z4 hv5 z4.lt
    clear hv5
    refine hKK.out _ _ (HCC.out _ hb5) (fun hHeld => ?_)
    clear hKK KK
    (try simp only [List.getElem_toArray, List.getElem_cons_succ, List.getElem_cons_zero, Act.put, List.setIfInBounds_toArray, List.set_cons_zero, List.set_cons_succ])
    apply wpAnyH_take (i := 10) rfl (by kernel_rfl) (by kernel_rfl) (by kernel_rfl)
    case hQ => exact fun _ _ _ h => h
    case hS => exact hHeld
    case hy => (refine Or.inl ⟨by rfl, ?_⟩; intro w hSw; (try go_split_ands); go_simp; (try with_reducible rfl))
    (try simp only [List.getElem_toArray, List.getElem_cons_succ, List.getElem_cons_zero, Act.put, List.setIfInBounds_toArray, List.set_cons_zero, List.set_cons_succ])
    apply wpAnyH_take (i := 11) rfl (by kernel_rfl) (by kernel_rfl) (by kernel_rfl)
    case hQ => exact fun _ _ _ h => h
    case hS => exact hHeld
    case hy => (refine Or.inl ⟨by rfl, ?_⟩; intro w hSw; (try go_split_ands); go_simp; (try with_reducible rfl))
    (try simp only [List.getElem_toArray, List.getElem_cons_succ, List.getElem_cons_zero, Act.put, List.setIfInBounds_toArray, List.set_cons_zero, List.set_cons_succ])
    apply wpAnyH_take (i := 12) rfl (by kernel_rfl) (by kernel_rfl) (by kernel_rfl)
    case hQ => exact fun _ _ _ h => h
    case hS => exact hHeld
    case hy => (refine Or.inl ⟨by rfl, ?_⟩; intro w hSw; (try go_split_ands); go_simp; (try with_reducible rfl))
    (try simp only [List.getElem_toArray, List.getElem_cons_succ, List.getElem_cons_zero, Act.put, List.setIfInBounds_toArray, List.set_cons_zero, List.set_cons_succ])
    apply wpAnyH_take (i := 13) rfl (by kernel_rfl) (by kernel_rfl) (by kernel_rfl)
    case hQ => exact fun _ _ _ h => h
    case hS => exact hHeld
    case hy => (refine Or.inl ⟨by rfl, ?_⟩; intro w hSw; (try go_split_ands); go_simp; (try with_reducible rfl))
    (try simp only [List.getElem_toArray, List.getElem_cons_succ, List.getElem_cons_zero, Act.put, List.setIfInBounds_toArray, List.set_cons_zero, List.set_cons_succ])
    refine wpAnyH_ready (rs := [15]) (by kernel_rfl) (by simp) ?_
    refine AllReadyH.cons rfl (fun KK hKK => ?_) AllReadyH.nil
    obtain ⟨V6, hV6⟩ : ∃ qq, qq = V5.setRow G (prow n.kind n.mask n.lo n.hi n.name n.num) := ⟨_, rfl⟩
    have z6 : PRow V6 G n.kind n.mask n.lo n.hi n.name n.num := by rw [hV6]; exact PRow.setRow z5 _ _ _ _ _ _
    have hb6 : Below w0.heap.size w0 V6 := by rw [hV6]; exact below_setRow hb5 pG _
    rw [if_pos (by kernel_rfl)]
    refine wp_store_row 24 _ _ rfl G (prow n.kind n.mask n.lo n.hi n.name n.num) rfl rfl 24 _ z5 prdSize rfl (by simp [Value.oneCell']) ?_
    rw [← hV6]
    clear hV6
    refine hKK.out _ _ (HCC.out _ hb6) (fun hHeld => ?_)
    clear hKK KK
    (try simp only [List.getElem_toArray, List.getElem_cons_succ, List.getElem_cons_zero, Act.put, List.setIfInBounds_toArray, List.set_cons_zero, List.set_cons_succ])
    apply wpAnyH_take (i := 16) rfl (by kernel_rfl) (by kernel_rfl) (by kernel_rfl)
    case hQ => exact fun _ _ _ h => h
    case hS => exact hHeld
    case hy => (refine Or.inl ⟨by rfl, ?_⟩; intro w hSw; (try go_split_ands); go_simp; (try with_reducible rfl))
    (try simp only [List.getElem_toArray, List.getElem_cons_succ, List.getElem_cons_zero, Act.put, List.setIfInBounds_toArray, List.set_cons_zero, List.set_cons_succ])
    apply wpAnyH_take (i := 17) rfl (by kernel_rfl) (by kernel_rfl) (by kernel_rfl)
    case hQ => exact fun _ _ _ h => h
    case hS => exact hHeld
    case hy => (refine Or.inl ⟨by rfl, ?_⟩; intro w hSw; (try go_split_ands); go_simp; (try with_reducible rfl))
    (try simp only [List.getElem_toArray, List.getElem_cons_succ, List.getElem_cons_zero, Act.put, List.setIfInBounds_toArray, List.set_cons_zero, List.set_cons_succ])
    refine wpAnyH_done (by kernel_rfl) ?_ _
    have hcl := qfail g b u 0 e1 V6 (HQ0.out.below hb6 hg0)
    have HP := Lib.hid z6
    have HB := Lib.hid hb6
    have hsv : w0.heap.size ≤ V6.heap.size := hb6.size
    clear hHeld
    go_wp2_with fail
    refine hcl.mono ?_
    rintro x w6 ⟨⟨v, rfl⟩, h6⟩
    clear hcl
    obtain ⟨hm, hw, d1, f1⟩ := h6.1.move hkl
    have HP7 : Hid (PRow (w6.setCell ⟨g, 1, none⟩ (.int .i64 ((u : Int) + (k : Int)))) G n.kind n.mask n.lo n.hi n.name n.num) := Lib.hid (Whole.far (h6.2.2.oth _ _ _ (by omega) HP.out) (a := ⟨g, 1, none⟩) (by show G ≠ g; omega) _)
    have HZ7 : Hid (PRow (w6.setCell ⟨g, 1, none⟩ (.int .i64 ((u : Int) + (k : Int)))) w.heap.size 0 0 0 0 [] 0) := Lib.hid (Whole.far (h6.2.2.oth _ _ _ (by omega) (HZ0.out.below HB.out hsw0)) (a := ⟨g, 1, none⟩) (by show w.heap.size ≠ g; omega) _)
    have hb7 : Below w.heap.size w V6 := HB0.out.trans (HB.out.mono (Nat.le_of_lt hsw0))
    have H7 : Hid (Qds g b (u + k) e1 w (w6.setCell ⟨g, 1, none⟩ (.int .i64 ((u : Int) + (k : Int))))) := by have := h6.trans hm; exact Lib.hid ⟨this.1, (hb7.mono (Nat.le_of_lt hgl)).trans this.2.1, (Oth.below g hb7).trans this.2.2⟩
    clear h6 hm hb7 HP
    have hs7 : w.heap.size < (w6.setCell ⟨g, 1, none⟩ (.int .i64 ((u : Int) + (k : Int)))).heap.size := HZ7.out.lt
    obtain ⟨w7, hw7⟩ : ∃ q, q = (w6.setCell ⟨g, 1, none⟩ (.int .i64 ((u : Int) + (k : Int)))).setRow w.heap.size (prow n.kind n.mask n.lo n.hi n.name n.num) := ⟨_, rfl⟩
    have hf : PRow w7 w.heap.size n.kind n.mask n.lo n.hi n.name n.num := by rw [hw7]; exact PRow.setRow HZ7.out _ _ _ _ _ _
    have HF : Hid (Qds g b (u + k) e1 w w7) := by rw [hw7]; exact Lib.hid ⟨H7.out.1.below (below_setRow (Below.refl w.heap.size _) (Nat.le_refl _) _) hgl, H7.out.2.1.trans (below_setRow (Below.refl _ _) (Nat.le_of_lt hgl) _), H7.out.2.2.setRow (Nat.le_refl _) (Nat.ne_of_gt hgl) _⟩
    go_wp2_with (first | (with_reducible refine wpList_load_prd rfl _ rfl (g := G) rfl HP7.out ?_) | (with_reducible refine wpList_store_prd rfl _ _ rfl (g := w.heap.size) rfl rfl HZ7.out ?_))
    rw [← hw7]
    clear hw7
    refine bodyPost_ret (results_prd (g := w.heap.size) Try.results43 _ rfl hf) rfl ?_
    exact ⟨rfl, HF.out⟩
end Go.Proofs.Ytknhnkmooaopmaa
