/-
  Package predicate: Decode.
-/
import Derived.Deep.DeepCutAuto
import Derived.Deep.CutBlock
import Derived.Test.YtpodgmmgphibfaaDoorPk23
import Derived.Test.YtpodgmmgphibfaaDoorPk20
import Derived.Test.YtpodgmmgphibfaaDoorPk0
namespace Go.Proofs.YtpodgmmgphibfaaDoor
open Go Go.RowKit Sh Leaf

/-- What the end of Decode makes of a predicate, a place and an error. -/
def fin2 (p : Prd) (u e : Nat) : Prd × Nat × Nat := if e ≠ 0 then (.zero, 0, e) else fin p u
theorem fste0 (e : Nat) : fste 0 e = e := rfl
theorem fste_ne {e : Nat} (h : e ≠ 0) (e' : Nat) : fste e e' = e := by unfold fste; rw [if_neg h]
theorem desc_any (k : Nat) : ∃ (z : Int) (a c d : Value), (z = 1 ∧ 1 ≤ k ∧ k ≤ 3 ∨ z = 2 ∧ 4 ≤ k ∧ k ≤ 5 ∨ z = 3 ∧ k = 6 ∨ z = 4 ∧ k = 7 ∨ z = 0 ∧ (k = 0 ∨ 7 < k)) ∧ (∀ W, Calls Tryd.prog 31 #[.int .i64 (k : Int)] W fun e w' => e = .returned (.agg #[a, .int .i64 z, c, d]) ∧ Below W.heap.size W w') ∧ ∀ W, (Instr.field 58 (.agg #[a, .int .i64 z, c, d]) 1).run Tryd.prog W = .ok (.int .i64 z) W := by
  by_cases h : k = 0 ∨ 7 < k
  · have e := dsv_no (k := (k : Int)) (by omega) (by omega) (by omega) (by omega) (by omega) (by omega) (by omega)
    refine ⟨0, .string (sof []), .int .i64 0, .bool false, by omega, fun W => ?_, dsc_fields _ _ _ _⟩
    have := describe (k : Int) W
    rw [e] at this
    exact this
  · rcases (by omega : (1 ≤ k ∧ k ≤ 3) ∨ (4 ≤ k ∧ k ≤ 5) ∨ k = 6 ∨ k = 7) with h1 | h1 | h1 | h1
    · obtain ⟨a, c, d, h2, h3⟩ := desc_kind k (by omega) 1 (by rw [if_pos (by omega)])
      exact ⟨1, a, c, d, by omega, h2, h3⟩
    · obtain ⟨a, c, d, h2, h3⟩ := desc_kind k (by omega) 2 (by rw [if_neg (by omega), if_pos (by omega)])
      exact ⟨2, a, c, d, by omega, h2, h3⟩
    · obtain ⟨a, c, d, h2, h3⟩ := desc_kind k (by omega) 3 (by rw [if_neg (by omega), if_neg (by omega), if_pos (by omega)])
      exact ⟨3, a, c, d, by omega, h2, h3⟩
    · obtain ⟨a, c, d, h2, h3⟩ := desc_kind k (by omega) 4 (by rw [if_neg (by omega), if_neg (by omega), if_neg (by omega)])
      exact ⟨4, a, c, d, by omega, h2, h3⟩
/-- What is known ahead of Decode's end. -/
def DecR (R0 P : Nat) (b : List B8) (w : World) (wx : World) : Prop := ∃ (p : Prd) (u e : Nat), PRow wx P p.kind p.mask p.lo p.hi p.name p.num ∧ PRow wx R0 0 0 0 0 [] 0 ∧ Rdr (R0 + 1) wx b u e ∧ Below R0 w wx ∧ fin2 p u e = dn b ∧ p.mask < 18446744073709551616 ∧ p.name.length ≤ 1000000
set_option linter.unusedVariables false in
set_option maxRecDepth 100000 in
set_option maxHeartbeats 4000000 in
theorem pdecode (v : Value) (b : List B8) (Q : Nat → Prop) (w : World) (hr : Bytes w Q v b) :
    Calls Tryd.prog 21 #[v] w fun e w' => e = .returned (.tuple #[pv (dn b).1, .int .i64 ((dn b).2.1 : Int), .int .i64 ((dn b).2.2 : Int)]) ∧ Below w.heap.size w w' := by
  obtain ⟨A, c, rfl, -⟩ := id hr
  obtain ⟨⟨k, u, e1⟩, hrd⟩ : ∃ x, x = rd b := ⟨_, rfl⟩
  have hrd := hrd.symm
  have hlow := hr.mono (Q' := fun g => g < w.heap.size) fun g hg _ => hg
  have hR1 : ∀ cs t, Whole ((w.alloc (.cells cs t)).alloc (.cells #[.slice A b.length c, .int .i64 0, .int .i64 0] 78)) (w.heap.size + 1) 78 #[.slice A b.length c, .int .i64 0, .int .i64 0] := fun cs t => Whole.at_ _ _ _ _ (by simp)
  have hRd : ∀ cs t, Rdr (w.heap.size + 1) ((w.alloc (.cells cs t)).alloc (.cells #[.slice A b.length c, .int .i64 0, .int .i64 0] 78)) b 0 0 := fun cs t => ⟨A, c, ((hlow.mono fun g _ h => Nat.lt_succ_of_lt h).alloc _).alloc _, hR1 cs t, Nat.zero_le _⟩
  clear hR1 hlow hr
  go_enter Tryd.func21, Tryd.ntmps21
  go_wp2_with fail
  refine (rnumber (w.heap.size + 1) b 0 0 _ (hRd _ _) k u e1 hrd).mono ?_
  rintro e w2 ⟨rfl, h2⟩
  have hZ2 : PRow w2 w.heap.size 0 0 0 0 [] 0 := PRow.of_zero (h2.2.2 _ _ _ (by omega) ((Whole.here w _ _).alloc _))
  have hR2 : Rdr (w.heap.size + 1) w2 b u e1 := by have := h2.1; rw [Nat.zero_add, fste0] at this; exact this
  have hB2 : Below w.heap.size w w2 := (((Below.refl w.heap.size w).alloc (Nat.le_refl _) _).alloc (by simp) _).trans (h2.2.1.mono (by omega))
  have hlt2 := hR2.lt
  clear h2 hRd
  have hP3 : ∀ W o, W = w2.alloc o → o = .cells #[.int .i64 (k : Int), .int .u64 0, .int .i64 0, .int .i64 0, .string { data := #[] }, .int .i64 0] 24 → PRow W w2.heap.size k 0 0 0 [] 0 := fun W o h1 h2 => by subst h1 h2; exact PRow.of_zero (Whole.here w2 _ _)
  have c0 := (hP3 _ _ rfl rfl).cells.1
  obtain ⟨z, a, c', d, hz, hds, hfd⟩ := desc_any k
  have HP3 := Lib.hid hP3
  clear hP3
  go_wp2_with fail
  refine (hds _).mono ?_
  rintro e w4 ⟨rfl, hb4⟩
  have hb24 : Below w2.heap.size w2 w4 := ((Below.refl w2.heap.size w2).alloc (Nat.le_refl _) _).trans (hb4.mono (by simp))
  have HP4 : Hid (PRow w4 w2.heap.size k 0 0 0 [] 0) := Lib.hid ((HP3.out _ _ rfl rfl).below hb4 (by simp))
  have HZ4 : Hid (PRow w4 w.heap.size 0 0 0 0 [] 0) := Lib.hid (hZ2.below hb24 (by omega))
  have HR4 : Hid (Rdr (w.heap.size + 1) w4 b u e1) := Lib.hid (hR2.below hb24 hlt2)
  have HB4 : Hid (Below w.heap.size w w4) := Lib.hid (hB2.trans (hb24.mono (by omega)))
  have HZ := Lib.hid hz
  clear hZ2 hR2 hB2 hb24 HP3 hds hz hb4 c0
  go_upto_block 0 with fail
  go_cut [] (fun wx => DecR w.heap.size w2.heap.size b w wx)
  case first =>
    rcases HZ.out with ⟨rfl, hk1, hk3⟩ | ⟨rfl, hk4, hk5⟩ | ⟨rfl, rfl⟩ | ⟨rfl, rfl⟩ | ⟨rfl, hk0⟩
    · have he1 : e1 = 0 := by
        rcases Nat.eq_zero_or_pos e1 with h | h
        · exact h
        · have := (rd_err hrd (by omega)).1; omega
      subst he1
      have hm := rmask (w.heap.size + 1) b u 0 w4 HR4.out
      rw [fste0] at hm
      have HD : Hid (fin2 ⟨k, (rdm b u).1, 0, 0, [], 0⟩ (u + (rdm b u).2.1) (rdm b u).2.2 = dn b ∧ (rdm b u).1 < 18446744073709551616) := Lib.hid (by
        rw [dn_mask hrd (by omega)]
        unfold rdm
        by_cases hs : b.length - u < 8
        · rw [if_pos hs, if_pos hs]; exact ⟨rfl, by omega⟩
        · rw [if_neg hs, if_neg hs]; exact ⟨rfl, by have := beval_lt ((b.drop u).take 8) (by rw [List.length_take]; omega); omega⟩)
      generalize rdm b u = M at hm HD
      clear HZ
      go_wp2_with fail
      refine hm.mono ?_
      rintro e w5 ⟨rfl, h5⟩
      have hP5 : PRow w5 w2.heap.size k 0 0 0 [] 0 := h5.2.2 _ _ _ (by omega) HP4.out
      have hZ5 : PRow w5 w.heap.size 0 0 0 0 [] 0 := h5.2.2 _ _ _ (by omega) HZ4.out
      have c1 := hP5.cells.2.1
      have f1 := hP5.frozen 1
      have HF : Hid (DecR w.heap.size w2.heap.size b w (w5.setCell ⟨w2.heap.size, 1, none⟩ (.int .u64 (M.1 : Int)))) := Lib.hid
        ⟨⟨k, M.1, 0, 0, [], 0⟩, u + M.2.1, M.2.2, hP5.set1 _, hZ5.far (a := ⟨w2.heap.size, 1, none⟩) (by show w.heap.size ≠ w2.heap.size; omega) _, h5.1.below ((Below.refl w2.heap.size w5).setCell (p := ⟨w2.heap.size, 1, none⟩) (Nat.le_refl _) _) hlt2,
          (HB4.out.trans (h5.2.1.mono (by omega))).setCell (p := ⟨w2.heap.size, 1, none⟩) (by show w.heap.size ≤ w2.heap.size; omega) _, HD.out.1, HD.out.2, by simp⟩
      clear hP5 hZ5 h5 HP4 HZ4 HR4 HB4 HD hm
      go_wp2_with fail
      go_meet
      exact HF.out
    · have he1 : e1 = 0 := by
        rcases Nat.eq_zero_or_pos e1 with h | h
        · exact h
        · have := (rd_err hrd (by omega)).1; omega
      subst he1
      obtain ⟨⟨x, u1, ex⟩, hx⟩ : ∃ x, x = rd (b.drop u) := ⟨_, rfl⟩
      have hx := hx.symm
      obtain ⟨⟨y, u2, ey⟩, hy⟩ : ∃ x, x = rd (b.drop (u + u1)) := ⟨_, rfl⟩
      have hy := hy.symm
      have HD : Hid (fin2 ⟨k, 0, x, y, [], 0⟩ (u + u1 + u2) (fste ex ey) = dn b) := Lib.hid (by
        rw [dn_time hrd (by omega) hx hy]
        unfold fin2
        by_cases h1 : ex = 0
        · subst h1; rw [fste0]; simp
        · rw [fste_ne h1, if_pos h1, if_pos h1])
      have hn1 := rnumber (w.heap.size + 1) b u 0 w4 HR4.out x u1 ex hx
      rw [fste0] at hn1
      have hn2 := fun W hW => rnumber (w.heap.size + 1) b (u + u1) ex W hW y u2 ey hy
      clear HZ hx hy
      go_wp2_with fail
      refine hn1.mono ?_
      rintro e w5 ⟨rfl, h5⟩
      have hP5 : PRow w5 w2.heap.size k 0 0 0 [] 0 := h5.2.2 _ _ _ (by omega) HP4.out
      have hZ5 : PRow w5 w.heap.size 0 0 0 0 [] 0 := h5.2.2 _ _ _ (by omega) HZ4.out
      have c2 := hP5.cells.2.2.1
      have f2 := hP5.frozen 2
      have HP6 := Lib.hid (hP5.set2 (x : Int))
      have HZ6 := Lib.hid (hZ5.far (a := ⟨w2.heap.size, 2, none⟩) (by show w.heap.size ≠ w2.heap.size; omega) (.int .i64 (x : Int)))
      have HR6 := Lib.hid (h5.1.below ((Below.refl w2.heap.size w5).setCell (p := ⟨w2.heap.size, 2, none⟩) (Nat.le_refl _) (.int .i64 (x : Int))) hlt2)
      have HB6 := Lib.hid ((HB4.out.trans (h5.2.1.mono (by omega))).setCell (p := ⟨w2.heap.size, 2, none⟩) (by show w.heap.size ≤ w2.heap.size; omega) (.int .i64 (x : Int)))
      clear hP5 hZ5 h5 HP4 HZ4 HR4 HB4 hn1
      go_wp2_with fail
      refine (hn2 _ HR6.out).mono ?_
      rintro e w7 ⟨rfl, h7⟩
      have hP7 : PRow w7 w2.heap.size k 0 x 0 [] 0 := h7.2.2 _ _ _ (by omega) HP6.out
      have hZ7 : PRow w7 w.heap.size 0 0 0 0 [] 0 := h7.2.2 _ _ _ (by omega) HZ6.out
      have c3 := hP7.cells.2.2.2.1
      have f3 := hP7.frozen 3
      have HF : Hid (DecR w.heap.size w2.heap.size b w (w7.setCell ⟨w2.heap.size, 3, none⟩ (.int .i64 (y : Int)))) := Lib.hid
        ⟨⟨k, 0, x, y, [], 0⟩, u + u1 + u2, fste ex ey, hP7.set3 _, hZ7.far (a := ⟨w2.heap.size, 3, none⟩) (by show w.heap.size ≠ w2.heap.size; omega) _, h7.1.below ((Below.refl w2.heap.size w7).setCell (p := ⟨w2.heap.size, 3, none⟩) (Nat.le_refl _) _) hlt2,
          (HB6.out.trans (h7.2.1.mono (by omega))).setCell (p := ⟨w2.heap.size, 3, none⟩) (by show w.heap.size ≤ w2.heap.size; omega) _, HD.out, by simp, by simp⟩
      clear hP7 hZ7 h7 HP6 HZ6 HR6 HB6 HD hn2
      go_wp2_with fail
      go_meet
      exact HF.out
    · have he1 : e1 = 0 := by
        rcases Nat.eq_zero_or_pos e1 with h | h
        · exact h
        · have := (rd_err hrd (by omega)).1; omega
      subst he1
      obtain ⟨⟨s, u1, ex⟩, hx⟩ : ∃ x, x = rdf (b.drop u) := ⟨_, rfl⟩
      have hx := hx.symm
      have HS : Hid (s.length ≤ 1000000) := Lib.hid (by
        rcases rdf_cases (b.drop u) with ⟨e, _, h⟩ | ⟨n, k, _, _, h1, _, h2, h⟩
        · rw [hx] at h; injection h with h _; subst h; simp
        · rw [hx] at h; injection h with h _; rw [h, h2]; omega)
      have HD : Hid (fin2 ⟨6, 0, 0, 0, s, 0⟩ (u + u1) ex = dn b) := Lib.hid (by rw [dn_name hrd hx]; rfl)
      have hn1 := rname (w.heap.size + 1) b u 0 w4 HR4.out s u1 ex hx
      rw [fste0] at hn1
      clear HZ hx
      go_wp2_with fail
      refine hn1.mono ?_
      rintro e w5 ⟨rfl, h5⟩
      have hP5 : PRow w5 w2.heap.size _ 0 0 0 [] 0 := h5.2.2 _ _ _ (by omega) HP4.out
      have hZ5 : PRow w5 w.heap.size 0 0 0 0 [] 0 := h5.2.2 _ _ _ (by omega) HZ4.out
      have c4 := hP5.cells.2.2.2.2.1
      have f4 := hP5.frozen 4
      have HF : Hid (DecR w.heap.size w2.heap.size b w (w5.setCell ⟨w2.heap.size, 4, none⟩ (.string (sof s)))) := Lib.hid
        ⟨⟨6, 0, 0, 0, s, 0⟩, u + u1, ex, hP5.set4 _, hZ5.far (a := ⟨w2.heap.size, 4, none⟩) (by show w.heap.size ≠ w2.heap.size; omega) _, h5.1.below ((Below.refl w2.heap.size w5).setCell (p := ⟨w2.heap.size, 4, none⟩) (Nat.le_refl _) _) hlt2,
          (HB4.out.trans (h5.2.1.mono (by omega))).setCell (p := ⟨w2.heap.size, 4, none⟩) (by show w.heap.size ≤ w2.heap.size; omega) _, HD.out, by simp, HS.out⟩
      clear hP5 hZ5 h5 HP4 HZ4 HR4 HB4 HD hn1
      go_wp2_with fail
      go_meet
      exact HF.out
    · have he1 : e1 = 0 := by
        rcases Nat.eq_zero_or_pos e1 with h | h
        · exact h
        · have := (rd_err hrd (by omega)).1; omega
      subst he1
      obtain ⟨⟨x, u1, ex⟩, hx⟩ : ∃ x, x = rd (b.drop u) := ⟨_, rfl⟩
      have hx := hx.symm
      have HD : Hid (fin2 ⟨7, 0, 0, 0, [], x⟩ (u + u1) ex = dn b) := Lib.hid (by rw [dn_num hrd hx]; rfl)
      have hn1 := rnumber (w.heap.size + 1) b u 0 w4 HR4.out x u1 ex hx
      rw [fste0] at hn1
      clear HZ hx
      go_wp2_with fail
      refine hn1.mono ?_
      rintro e w5 ⟨rfl, h5⟩
      have hP5 : PRow w5 w2.heap.size _ 0 0 0 [] 0 := h5.2.2 _ _ _ (by omega) HP4.out
      have hZ5 : PRow w5 w.heap.size 0 0 0 0 [] 0 := h5.2.2 _ _ _ (by omega) HZ4.out
      have c5 := hP5.cells.2.2.2.2.2
      have f5 := hP5.frozen 5
      have HF : Hid (DecR w.heap.size w2.heap.size b w (w5.setCell ⟨w2.heap.size, 5, none⟩ (.int .i64 (x : Int)))) := Lib.hid
        ⟨⟨7, 0, 0, 0, [], x⟩, u + u1, ex, hP5.set5 _, hZ5.far (a := ⟨w2.heap.size, 5, none⟩) (by show w.heap.size ≠ w2.heap.size; omega) _, h5.1.below ((Below.refl w2.heap.size w5).setCell (p := ⟨w2.heap.size, 5, none⟩) (Nat.le_refl _) _) hlt2,
          (HB4.out.trans (h5.2.1.mono (by omega))).setCell (p := ⟨w2.heap.size, 5, none⟩) (by show w.heap.size ≤ w2.heap.size; omega) _, HD.out, by simp, by simp⟩
      clear hP5 hZ5 h5 HP4 HZ4 HR4 HB4 HD hn1
      go_wp2_with fail
      go_meet
      exact HF.out
    · have HD : Hid (fin2 ⟨k, 0, 0, 0, [], 0⟩ u (fste e1 6) = dn b) := Lib.hid (by
        by_cases he : e1 = 0
        · subst he; rw [fste0, dn_kind hrd hk0]; rfl
        · rw [fste_ne he, dn_err hrd he]; unfold fin2; rw [if_pos he])
      have hfl : Calls Tryd.prog 52 #[.pointer (some ⟨w.heap.size + 1, 0, none⟩), .int .i64 6] w4 fun x w' => (∃ v, x = .returned v) ∧ Reads (w.heap.size + 1) b u (fste e1 6) w4 w' := rfail (w.heap.size + 1) b u e1 6 w4 HR4.out
      clear HZ
      go_wp2_with fail
      refine hfl.mono ?_
      rintro e w5 ⟨⟨v5, rfl⟩, h5⟩
      have HF : Hid (DecR w.heap.size w2.heap.size b w w5) := Lib.hid
        ⟨⟨k, 0, 0, 0, [], 0⟩, u, fste e1 6, h5.2.2 _ _ _ (by omega) HP4.out, h5.2.2 _ _ _ (by omega) HZ4.out, h5.1, HB4.out.trans (h5.2.1.mono (by omega)), HD.out, by simp, by simp⟩
      clear h5 HP4 HZ4 HR4 HB4 HD hfl
      go_wp2_with fail
      go_meet
      exact HF.out
  case rest =>
    clear HP4 HZ4 HR4 HB4 HZ hfd
    obtain ⟨p, u', e', hP, hZ, hR, hB, hf, hm, hn⟩ := hcut
    rename World => w5
    have hv := pvalid p hm (by omega) w5
    obtain ⟨kk, m, lo, hi, nm, nu⟩ := p
    unfold pv at hv
    simp only at hv hP hm hn
    have HP5 := Lib.hid hP
    have HZ5 := Lib.hid hZ
    have HR5 := Lib.hid hR
    have HB5 := Lib.hid hB
    have hl1 := hP.lt
    have hl2 := hZ.lt
    have hl3 := hR.lt
    by_cases hp : pok ⟨kk, m, lo, hi, nm, nu⟩
    · rw [decide_eq_true hp] at hv
      clear hP hZ hR hB
      go_wp2_with (first | (with_reducible refine wpList_load_prd rfl _ rfl (g := w2.heap.size) rfl HP5.out ?_))
      refine hv.mono ?_
      rintro e w6 ⟨rfl, hb6⟩
      have hP6 : PRow w6 w2.heap.size kk m lo hi nm nu := HP5.out.below hb6 hl1
      have hZ6 : PRow w6 w.heap.size 0 0 0 0 [] 0 := HZ5.out.below hb6 hl2
      have HB6 := Lib.hid (HB5.out.trans (hb6.mono (by omega)))
      obtain ⟨A6, c6, -, hR6, -⟩ := HR5.out.below hb6 hl3
      have r1 := hR6.cell 1
      have r2 := hR6.cell 2
      simp only [List.getElem?_toArray, List.getElem?_cons_zero, List.getElem?_cons_succ] at r1 r2
      obtain ⟨c0, c1, c2, c3, c4, c5⟩ := hP6.cells
      obtain ⟨z0, z1, z2, z3, z4, z5⟩ := hZ6.cells
      obtain ⟨y0, y1, y2, y3, y4, y5⟩ := hZ6.frees
      have HZ6 := Lib.hid hZ6
      clear hP6 hZ6 hR6 hb6 hv HP5 HZ5 HR5 HB5
      by_cases he : e' = 0
      · subst he
        have HE : Hid (dn b = (⟨kk, m, lo, hi, nm, nu⟩, u', 0)) := Lib.hid (by rw [← hf]; exact fin_ok hp u')
        clear hf
        go_wp2
        go_region
        go_wp2
        refine bodyPost_ret (results_prd2 (g := w.heap.size) Tryd.results21 _ rfl _ _ rfl rfl (Whole.drew (HZ6.out.sets kk (m : Int) lo hi nm nu))) rfl ?_
        refine ⟨?_, (below_sets HB6.out (Nat.le_refl _) _ _ _ _ _ _).drew⟩
        rw [HE.out, pv_row]
        first | rfl | simp
      · have he' : ¬ (e' : Int) = 0 := by omega
        have HE : Hid (dn b = (.zero, 0, e')) := Lib.hid (by rw [← hf]; unfold fin2; first | rw [if_pos he] | (by_cases he : e' = 0 <;> simp [he, fste, fin, hp]))
        clear hf
        go_wp2
        go_region
        go_wp2
        refine bodyPost_ret (results_prd2 (g := w.heap.size) Tryd.results21 _ rfl _ _ rfl rfl (Whole.drew HZ6.out.setsz)) rfl ?_
        refine ⟨?_, (below_sets HB6.out (Nat.le_refl _) _ _ _ _ _ _).drew⟩
        rw [HE.out, pv_row]
        first | rfl | simp
    · rw [decide_eq_false hp] at hv
      have hfl : ∀ W, Rdr (w.heap.size + 1) W b u' e' → Calls Tryd.prog 52 #[.pointer (some ⟨w.heap.size + 1, 0, none⟩), .int .i64 5] W fun x w' => (∃ v, x = .returned v) ∧ Reads (w.heap.size + 1) b u' (fste e' 5) W w' := rfail (w.heap.size + 1) b u' e' 5
      have he : fste e' 5 ≠ 0 := by unfold fste; split <;> omega
      clear hP hZ hR hB
      go_wp2_with (first | (with_reducible refine wpList_load_prd rfl _ rfl (g := w2.heap.size) rfl HP5.out ?_))
      refine hv.mono ?_
      rintro e w6 ⟨rfl, hb6⟩
      have HR6 := Lib.hid (HR5.out.below hb6 hl3)
      have HZ6 := Lib.hid (HZ5.out.below hb6 hl2)
      have HB6 := Lib.hid (HB5.out.trans (hb6.mono (by omega)))
      clear hb6 hv HP5 HZ5 HR5 HB5
      go_wp2_with fail
      refine (hfl w6 HR6.out).mono ?_
      rintro e w7 ⟨⟨v7, rfl⟩, h7⟩
      have hZ7 : PRow w7 w.heap.size 0 0 0 0 [] 0 := h7.2.2 _ _ _ (by omega) HZ6.out
      have HB7 := Lib.hid (HB6.out.trans (h7.2.1.mono (by omega)))
      obtain ⟨A7, c7, -, hR7, -⟩ := h7.1
      have r2 := hR7.cell 2
      simp only [List.getElem?_toArray, List.getElem?_cons_zero, List.getElem?_cons_succ] at r2
      obtain ⟨z0, z1, z2, z3, z4, z5⟩ := hZ7.cells
      obtain ⟨y0, y1, y2, y3, y4, y5⟩ := hZ7.frees
      have HZ7 := Lib.hid hZ7
      have HE : Hid (dn b = (.zero, 0, fste e' 5)) := Lib.hid (by
        rw [← hf]
        unfold fin2
        by_cases h0 : e' = 0
        · subst h0; rw [if_neg (by simp)]; exact fin_bad hp u'
        · rw [if_pos h0, fste_ne h0])
      clear hZ7 hR7 h7 hfl hf HZ6 HR6 HB6
      generalize fste e' 5 = E at *
      have he' : ¬ (E : Int) = 0 := by omega
      go_wp2
      go_region
      go_wp2
      refine bodyPost_ret (results_prd2 (g := w.heap.size) Tryd.results21 _ rfl _ _ rfl rfl (Whole.drew HZ7.out.setsz)) rfl ?_
      refine ⟨?_, (below_sets HB7.out (Nat.le_refl _) _ _ _ _ _ _).drew⟩
      rw [HE.out, pv_row]
      first | rfl | simp
end Go.Proofs.YtpodgmmgphibfaaDoor
