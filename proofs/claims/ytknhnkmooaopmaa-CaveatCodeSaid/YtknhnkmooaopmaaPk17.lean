/-
  Package predicate: Decode.
  Package caveat: the reader.
  Package caveat: a caveat is read.
-/
import Derived.Deep.DeepCutAuto
import Derived.Deep.CutBlock
import Derived.Test.YtknhnkmooaopmaaPk16
import Derived.Test.YtknhnkmooaopmaaPk13
import Derived.Test.YtknhnkmooaopmaaPk0
import Derived.Deep.RegionHeld3
import Derived.Test.YtknhnkmooaopmaaPk6
import Derived.Test.YtknhnkmooaopmaaPk18
namespace Go.Proofs.Ytknhnkmooaopmaa
open Go Go.RowKit Sh Leaf

/-- What the end of Decode makes of a predicate, a place and an error. -/
def fin2 (p : Prd) (u e : Nat) : Prd × Nat × Nat := if e ≠ 0 then (.zero, 0, e) else fin p u
theorem fste0 (e : Nat) : fste 0 e = e := rfl
theorem fste_ne {e : Nat} (h : e ≠ 0) (e' : Nat) : fste e e' = e := by unfold fste; rw [if_neg h]
theorem desc_any (k : Nat) : ∃ (z : Int) (a c d : Value), (z = 1 ∧ 1 ≤ k ∧ k ≤ 3 ∨ z = 2 ∧ 4 ≤ k ∧ k ≤ 5 ∨ z = 3 ∧ k = 6 ∨ z = 4 ∧ k = 7 ∨ z = 0 ∧ (k = 0 ∨ 7 < k)) ∧ (∀ W, Calls Try.prog 51 #[.int .i64 (k : Int)] W fun e w' => e = .returned (.agg #[a, .int .i64 z, c, d]) ∧ Below W.heap.size W w') ∧ ∀ W, (Instr.field 81 (.agg #[a, .int .i64 z, c, d]) 1).run Try.prog W = .ok (.int .i64 z) W := by
  by_cases h : k = 0 ∨ 7 < k
  · have e := dsv_no (k := (k : Int)) (by omega) (by omega) (by omega) (by omega) (by omega) (by omega) (by omega)
    refine ⟨0, .string (sof []), .int .i64 0, .bool false, by omega, fun W => ?_, dsc_fields _ _ _ _⟩
    have := describe (k : Int) W
    rw [e] at this
    exact this
  · rcases (by omega : (1 ≤ k ∧ k ≤ 3) ∨ (4 ≤ k ∧ k ≤ 5) ∨ k = 6 ∨ k = 7) with h1 | h1 | h1 | h1
    · obtain ⟨a, c, d, h2, h3⟩ := desc_kind k (by omega) 1 (by rw [if_pos (by omega)])
      exact ⟨1, a, c, d, by omega, h2, h3⟩
    · obtain ⟨a, c, d, h2, h3⟩ := desc_kind k (by omega) 2 (by rw [if_neg (by omega), if_pos (by omega)])
      exact ⟨2, a, c, d, by omega, h2, h3⟩
    · obtain ⟨a, c, d, h2, h3⟩ := desc_kind k (by omega) 3 (by rw [if_neg (by omega), if_neg (by omega), if_pos (by omega)])
      exact ⟨3, a, c, d, by omega, h2, h3⟩
    · obtain ⟨a, c, d, h2, h3⟩ := desc_kind k (by omega) 4 (by rw [if_neg (by omega), if_neg (by omega), if_neg (by omega)])
      exact ⟨4, a, c, d, by omega, h2, h3⟩
/-- What is known ahead of Decode's end. -/
def DecR (R0 P : Nat) (b : List B8) (w : World) (wx : World) : Prop := ∃ (p : Prd) (u e : Nat), PRow wx P p.kind p.mask p.lo p.hi p.name p.num ∧ PRow wx R0 0 0 0 0 [] 0 ∧ Rdr (R0 + 1) wx b u e ∧ Below R0 w wx ∧ fin2 p u e = dn b ∧ p.mask < 18446744073709551616 ∧ p.name.length ≤ 1000000
set_option linter.unusedVariables false in
set_option maxRecDepth 100000 in
set_option maxHeartbeats 4000000 in
theorem pdecode (v : Value) (b : List B8) (Q : Nat → Prop) (w : World) (hr : Bytes w Q v b) :
    Calls Try.prog 66 #[v] w fun e w' => e = .returned (.tuple #[pv (dn b).1, .int .i64 ((dn b).2.1 : Int), .int .i64 ((dn b).2.2 : Int)]) ∧ Below w.heap.size w w' := by
  obtain ⟨A, c, rfl, -⟩ := id hr
  obtain ⟨⟨k, u, e1⟩, hrd⟩ : ∃ x, x = rd b := ⟨_, rfl⟩
  have hrd := hrd.symm
  have hlow := hr.mono (Q' := fun g => g < w.heap.size) fun g hg _ => hg
  have hR1 : ∀ cs t, Whole ((w.alloc (.cells cs t)).alloc (.cells #[.slice A b.length c, .int .i64 0, .int .i64 0] 106)) (w.heap.size + 1) 106 #[.slice A b.length c, .int .i64 0, .int .i64 0] := fun cs t => Whole.at_ _ _ _ _ (by simp)
  have hRd : ∀ cs t, Rdr (w.heap.size + 1) ((w.alloc (.cells cs t)).alloc (.cells #[.slice A b.length c, .int .i64 0, .int .i64 0] 106)) b 0 0 := fun cs t => ⟨A, c, ((hlow.mono fun g _ h => Nat.lt_succ_of_lt h).alloc _).alloc _, hR1 cs t, Nat.zero_le _⟩
  clear hR1 hlow hr
  go_enter Try.func66, Try.ntmps66
  go_wp2_with fail
  refine (rnumber (w.heap.size + 1) b 0 0 _ (hRd _ _) k u e1 hrd).mono ?_
  rintro e w2 ⟨rfl, h2⟩
  have hZ2 : PRow w2 w.heap.size 0 0 0 0 [] 0 := PRow.of_zero (h2.2.2 _ _ _ (by omega) ((Whole.here w _ _).alloc _))
  have hR2 : Rdr (w.heap.size + 1) w2 b u e1 := by have := h2.1; rw [Nat.zero_add, fste0] at this; exact this
  have hB2 : Below w.heap.size w w2 := (((Below.refl w.heap.size w).alloc (Nat.le_refl _) _).alloc (by simp) _).trans (h2.2.1.mono (by omega))
  have hlt2 := hR2.lt
  clear h2 hRd
  have hP3 : ∀ W o, W = w2.alloc o → o = .cells #[.int .i64 (k : Int), .int .u64 0, .int .i64 0, .int .i64 0, .string { data := #[] }, .int .i64 0] 24 → PRow W w2.heap.size k 0 0 0 [] 0 := fun W o h1 h2 => by subst h1 h2; exact PRow.of_zero (Whole.here w2 _ _)
  have c0 := (hP3 _ _ rfl rfl).cells.1
  obtain ⟨z, a, c', d, hz, hds, hfd⟩ := desc_any k
  have HP3 := Lib.hid hP3
  clear hP3
  go_wp2_with fail
  refine (hds _).mono ?_
  rintro e w4 ⟨rfl, hb4⟩
  have hb24 : Below w2.heap.size w2 w4 := ((Below.refl w2.heap.size w2).alloc (Nat.le_refl _) _).trans (hb4.mono (by simp))
  have HP4 : Hid (PRow w4 w2.heap.size k 0 0 0 [] 0) := Lib.hid ((HP3.out _ _ rfl rfl).below hb4 (by simp))
  have HZ4 : Hid (PRow w4 w.heap.size 0 0 0 0 [] 0) := Lib.hid (hZ2.below hb24 (by omega))
  have HR4 : Hid (Rdr (w.heap.size + 1) w4 b u e1) := Lib.hid (hR2.below hb24 hlt2)
  have HB4 : Hid (Below w.heap.size w w4) := Lib.hid (hB2.trans (hb24.mono (by omega)))
  have HZ := Lib.hid hz
  clear hZ2 hR2 hB2 hb24 HP3 hds hz hb4 c0
  go_upto_block 0 with fail
  go_cut [] (fun wx => DecR w.heap.size w2.heap.size b w wx)
  case first =>
    rcases HZ.out with ⟨rfl, hk1, hk3⟩ | ⟨rfl, hk4, hk5⟩ | ⟨rfl, rfl⟩ | ⟨rfl, rfl⟩ | ⟨rfl, hk0⟩
    · have he1 : e1 = 0 := by
        rcases Nat.eq_zero_or_pos e1 with h | h
        · exact h
        · have := (rd_err hrd (by omega)).1; omega
      subst he1
      have hm := rmask (w.heap.size + 1) b u 0 w4 HR4.out
      rw [fste0] at hm
      have HD : Hid (fin2 ⟨k, (rdm b u).1, 0, 0, [], 0⟩ (u + (rdm b u).2.1) (rdm b u).2.2 = dn b ∧ (rdm b u).1 < 18446744073709551616) := Lib.hid (by
        rw [dn_mask hrd (by omega)]
        unfold rdm
        by_cases hs : b.length - u < 8
        · rw [if_pos hs, if_pos hs]; exact ⟨rfl, by omega⟩
        · rw [if_neg hs, if_neg hs]; exact ⟨rfl, by have := beval_lt ((b.drop u).take 8) (by rw [List.length_take]; omega); omega⟩)
      generalize rdm b u = M at hm HD
      clear HZ
      go_wp2_with fail
      refine hm.mono ?_
      rintro e w5 ⟨rfl, h5⟩
      have hP5 : PRow w5 w2.heap.size k 0 0 0 [] 0 := h5.2.2 _ _ _ (by omega) HP4.out
      have hZ5 : PRow w5 w.heap.size 0 0 0 0 [] 0 := h5.2.2 _ _ _ (by omega) HZ4.out
      have c1 := hP5.cells.2.1
      have f1 := hP5.frozen 1
      have HF : Hid (DecR w.heap.size w2.heap.size b w (w5.setCell ⟨w2.heap.size, 1, none⟩ (.int .u64 (M.1 : Int)))) := Lib.hid
        ⟨⟨k, M.1, 0, 0, [], 0⟩, u + M.2.1, M.2.2, hP5.set1 _, hZ5.far (a := ⟨w2.heap.size, 1, none⟩) (by show w.heap.size ≠ w2.heap.size; omega) _, h5.1.below ((Below.refl w2.heap.size w5).setCell (p := ⟨w2.heap.size, 1, none⟩) (Nat.le_refl _) _) hlt2,
          (HB4.out.trans (h5.2.1.mono (by omega))).setCell (p := ⟨w2.heap.size, 1, none⟩) (by show w.heap.size ≤ w2.heap.size; omega) _, HD.out.1, HD.out.2, by simp⟩
      clear hP5 hZ5 h5 HP4 HZ4 HR4 HB4 HD hm
      go_wp2_with fail
      go_meet
      exact HF.out
    · have he1 : e1 = 0 := by
        rcases Nat.eq_zero_or_pos e1 with h | h
        · exact h
        · have := (rd_err hrd (by omega)).1; omega
      subst he1
      obtain ⟨⟨x, u1, ex⟩, hx⟩ : ∃ x, x = rd (b.drop u) := ⟨_, rfl⟩
      have hx := hx.symm
      obtain ⟨⟨y, u2, ey⟩, hy⟩ : ∃ x, x = rd (b.drop (u + u1)) := ⟨_, rfl⟩
      have hy := hy.symm
      have HD : Hid (fin2 ⟨k, 0, x, y, [], 0⟩ (u + u1 + u2) (fste ex ey) = dn b) := Lib.hid (by
        rw [dn_time hrd (by omega) hx hy]
        unfold fin2
        by_cases h1 : ex = 0
        · subst h1; rw [fste0]; simp
        · rw [fste_ne h1, if_pos h1, if_pos h1])
      have hn1 := rnumber (w.heap.size + 1) b u 0 w4 HR4.out x u1 ex hx
      rw [fste0] at hn1
      have hn2 := fun W hW => rnumber (w.heap.size + 1) b (u + u1) ex W hW y u2 ey hy
      clear HZ hx hy
      go_wp2_with fail
      refine hn1.mono ?_
      rintro e w5 ⟨rfl, h5⟩
      have hP5 : PRow w5 w2.heap.size k 0 0 0 [] 0 := h5.2.2 _ _ _ (by omega) HP4.out
      have hZ5 : PRow w5 w.heap.size 0 0 0 0 [] 0 := h5.2.2 _ _ _ (by omega) HZ4.out
      have c2 := hP5.cells.2.2.1
      have f2 := hP5.frozen 2
      have HP6 := Lib.hid (hP5.set2 (x : Int))
      have HZ6 := Lib.hid (hZ5.far (a := ⟨w2.heap.size, 2, none⟩) (by show w.heap.size ≠ w2.heap.size; omega) (.int .i64 (x : Int)))
      have HR6 := Lib.hid (h5.1.below ((Below.refl w2.heap.size w5).setCell (p := ⟨w2.heap.size, 2, none⟩) (Nat.le_refl _) (.int .i64 (x : Int))) hlt2)
      have HB6 := Lib.hid ((HB4.out.trans (h5.2.1.mono (by omega))).setCell (p := ⟨w2.heap.size, 2, none⟩) (by show w.heap.size ≤ w2.heap.size; omega) (.int .i64 (x : Int)))
      clear hP5 hZ5 h5 HP4 HZ4 HR4 HB4 hn1
      go_wp2_with fail
      refine (hn2 _ HR6.out).mono ?_
      rintro e w7 ⟨rfl, h7⟩
      have hP7 : PRow w7 w2.heap.size k 0 x 0 [] 0 := h7.2.2 _ _ _ (by omega) HP6.out
      have hZ7 : PRow w7 w.heap.size 0 0 0 0 [] 0 := h7.2.2 _ _ _ (by omega) HZ6.out
      have c3 := hP7.cells.2.2.2.1
      have f3 := hP7.frozen 3
      have HF : Hid (DecR w.heap.size w2.heap.size b w (w7.setCell ⟨w2.heap.size, 3, none⟩ (.int .i64 (y : Int)))) := Lib.hid
        ⟨⟨k, 0, x, y, [], 0⟩, u + u1 + u2, fste ex ey, hP7.set3 _, hZ7.far (a := ⟨w2.heap.size, 3, none⟩) (by show w.heap.size ≠ w2.heap.size; omega) _, h7.1.below ((Below.refl w2.heap.size w7).setCell (p := ⟨w2.heap.size, 3, none⟩) (Nat.le_refl _) _) hlt2,
          (HB6.out.trans (h7.2.1.mono (by omega))).setCell (p := ⟨w2.heap.size, 3, none⟩) (by show w.heap.size ≤ w2.heap.size; omega) _, HD.out, by simp, by simp⟩
      clear hP7 hZ7 h7 HP6 HZ6 HR6 HB6 HD hn2
      go_wp2_with fail
      go_meet
      exact HF.out
    · have he1 : e1 = 0 := by
        rcases Nat.eq_zero_or_pos e1 with h | h
        · exact h
        · have := (rd_err hrd (by omega)).1; omega
      subst he1
      obtain ⟨⟨s, u1, ex⟩, hx⟩ : ∃ x, x = rdf (b.drop u) := ⟨_, rfl⟩
      have hx := hx.symm
      have HS : Hid (s.length ≤ 1000000) := Lib.hid (by
        rcases rdf_cases (b.drop u) with ⟨e, _, h⟩ | ⟨n, k, _, _, h1, _, h2, h⟩
        · rw [hx] at h; injection h with h _; subst h; simp
        · rw [hx] at h; injection h with h _; rw [h, h2]; omega)
      have HD : Hid (fin2 ⟨6, 0, 0, 0, s, 0⟩ (u + u1) ex = dn b) := Lib.hid (by rw [dn_name hrd hx]; rfl)
      have hn1 := rname (w.heap.size + 1) b u 0 w4 HR4.out s u1 ex hx
      rw [fste0] at hn1
      clear HZ hx
      go_wp2_with fail
      refine hn1.mono ?_
      rintro e w5 ⟨rfl, h5⟩
      have hP5 : PRow w5 w2.heap.size _ 0 0 0 [] 0 := h5.2.2 _ _ _ (by omega) HP4.out
      have hZ5 : PRow w5 w.heap.size 0 0 0 0 [] 0 := h5.2.2 _ _ _ (by omega) HZ4.out
      have c4 := hP5.cells.2.2.2.2.1
      have f4 := hP5.frozen 4
      have HF : Hid (DecR w.heap.size w2.heap.size b w (w5.setCell ⟨w2.heap.size, 4, none⟩ (.string (sof s)))) := Lib.hid
        ⟨⟨6, 0, 0, 0, s, 0⟩, u + u1, ex, hP5.set4 _, hZ5.far (a := ⟨w2.heap.size, 4, none⟩) (by show w.heap.size ≠ w2.heap.size; omega) _, h5.1.below ((Below.refl w2.heap.size w5).setCell (p := ⟨w2.heap.size, 4, none⟩) (Nat.le_refl _) _) hlt2,
          (HB4.out.trans (h5.2.1.mono (by omega))).setCell (p := ⟨w2.heap.size, 4, none⟩) (by show w.heap.size ≤ w2.heap.size; omega) _, HD.out, by simp, HS.out⟩
      clear hP5 hZ5 h5 HP4 HZ4 HR4 HB4 HD hn1
      go_wp2_with fail
      go_meet
      exact HF.out
    · have he1 : e1 = 0 := by
        rcases Nat.eq_zero_or_pos e1 with h | h
        · exact h
        · have := (rd_err hrd (by omega)).1; omega
      subst he1
      obtain ⟨⟨x, u1, ex⟩, hx⟩ : ∃ x, x = rd (b.drop u) := ⟨_, rfl⟩
      have hx := hx.symm
      have HD : Hid (fin2 ⟨7, 0, 0, 0, [], x⟩ (u + u1) ex = dn b) := Lib.hid (by rw [dn_num hrd hx]; rfl)
      have hn1 := rnumber (w.heap.size + 1) b u 0 w4 HR4.out x u1 ex hx
      rw [fste0] at hn1
      clear HZ hx
      go_wp2_with fail
      refine hn1.mono ?_
      rintro e w5 ⟨rfl, h5⟩
      have hP5 : PRow w5 w2.heap.size _ 0 0 0 [] 0 := h5.2.2 _ _ _ (by omega) HP4.out
      have hZ5 : PRow w5 w.heap.size 0 0 0 0 [] 0 := h5.2.2 _ _ _ (by omega) HZ4.out
      have c5 := hP5.cells.2.2.2.2.2
      have f5 := hP5.frozen 5
      have HF : Hid (DecR w.heap.size w2.heap.size b w (w5.setCell ⟨w2.heap.size, 5, none⟩ (.int .i64 (x : Int)))) := Lib.hid
        ⟨⟨7, 0, 0, 0, [], x⟩, u + u1, ex, hP5.set5 _, hZ5.far (a := ⟨w2.heap.size, 5, none⟩) (by show w.heap.size ≠ w2.heap.size; omega) _, h5.1.below ((Below.refl w2.heap.size w5).setCell (p := ⟨w2.heap.size, 5, none⟩) (Nat.le_refl _) _) hlt2,
          (HB4.out.trans (h5.2.1.mono (by omega))).setCell (p := ⟨w2.heap.size, 5, none⟩) (by show w.heap.size ≤ w2.heap.size; omega) _, HD.out, by simp, by simp⟩
      clear hP5 hZ5 h5 HP4 HZ4 HR4 HB4 HD hn1
      go_wp2_with fail
      go_meet
      exact HF.out
    · have HD : Hid (fin2 ⟨k, 0, 0, 0, [], 0⟩ u (fste e1 6) = dn b) := Lib.hid (by
        by_cases he : e1 = 0
        · subst he; rw [fste0, dn_kind hrd hk0]; rfl
        · rw [fste_ne he, dn_err hrd he]; unfold fin2; rw [if_pos he])
      have hfl : Calls Try.prog 77 #[.pointer (some ⟨w.heap.size + 1, 0, none⟩), .int .i64 6] w4 fun x w' => (∃ v, x = .returned v) ∧ Reads (w.heap.size + 1) b u (fste e1 6) w4 w' := rfail (w.heap.size + 1) b u e1 6 w4 HR4.out
      clear HZ
      go_wp2_with fail
      refine hfl.mono ?_
      rintro e w5 ⟨⟨v5, rfl⟩, h5⟩
      have HF : Hid (DecR w.heap.size w2.heap.size b w w5) := Lib.hid
        ⟨⟨k, 0, 0, 0, [], 0⟩, u, fste e1 6, h5.2.2 _ _ _ (by omega) HP4.out, h5.2.2 _ _ _ (by omega) HZ4.out, h5.1, HB4.out.trans (h5.2.1.mono (by omega)), HD.out, by simp, by simp⟩
      clear h5 HP4 HZ4 HR4 HB4 HD hfl
      go_wp2_with fail
      go_meet
      exact HF.out
  case rest =>
    clear HP4 HZ4 HR4 HB4 HZ hfd
    obtain ⟨p, u', e', hP, hZ, hR, hB, hf, hm, hn⟩ := hcut
    rename World => w5
    have hv := pvalid p hm (by omega) w5
    obtain ⟨kk, m, lo, hi, nm, nu⟩ := p
    unfold pv at hv
    simp only at hv hP hm hn
    have HP5 := Lib.hid hP
    have HZ5 := Lib.hid hZ
    have HR5 := Lib.hid hR
    have HB5 := Lib.hid hB
    have hl1 := hP.lt
    have hl2 := hZ.lt
    have hl3 := hR.lt
    by_cases hp : pok ⟨kk, m, lo, hi, nm, nu⟩
    · rw [decide_eq_true hp] at hv
      clear hP hZ hR hB
      go_wp2_with (first | (with_reducible refine wpList_load_prd rfl _ rfl (g := w2.heap.size) rfl HP5.out ?_))
      refine hv.mono ?_
      rintro e w6 ⟨rfl, hb6⟩
      have hP6 : PRow w6 w2.heap.size kk m lo hi nm nu := HP5.out.below hb6 hl1
      have hZ6 : PRow w6 w.heap.size 0 0 0 0 [] 0 := HZ5.out.below hb6 hl2
      have HB6 := Lib.hid (HB5.out.trans (hb6.mono (by omega)))
      obtain ⟨A6, c6, -, hR6, -⟩ := HR5.out.below hb6 hl3
      have r1 := hR6.cell 1
      have r2 := hR6.cell 2
      simp only [List.getElem?_toArray, List.getElem?_cons_zero, List.getElem?_cons_succ] at r1 r2
      obtain ⟨c0, c1, c2, c3, c4, c5⟩ := hP6.cells
      obtain ⟨z0, z1, z2, z3, z4, z5⟩ := hZ6.cells
      obtain ⟨y0, y1, y2, y3, y4, y5⟩ := hZ6.frees
      have HZ6 := Lib.hid hZ6
      clear hP6 hZ6 hR6 hb6 hv HP5 HZ5 HR5 HB5
      by_cases he : e' = 0
      · subst he
        have HE : Hid (dn b = (⟨kk, m, lo, hi, nm, nu⟩, u', 0)) := Lib.hid (by rw [← hf]; exact fin_ok hp u')
        clear hf
        go_wp2
        go_region
        go_wp2
        refine bodyPost_ret (results_prd2 (g := w.heap.size) Try.results66 _ rfl _ _ rfl rfl (Whole.drew (HZ6.out.sets kk (m : Int) lo hi nm nu))) rfl ?_
        refine ⟨?_, (below_sets HB6.out (Nat.le_refl _) _ _ _ _ _ _).drew⟩
        rw [HE.out, pv_row]
        first | rfl | simp
      · have he' : ¬ (e' : Int) = 0 := by omega
        have HE : Hid (dn b = (.zero, 0, e')) := Lib.hid (by rw [← hf]; unfold fin2; first | rw [if_pos he] | (by_cases he : e' = 0 <;> simp [he, fste, fin, hp]))
        clear hf
        go_wp2
        go_region
        go_wp2
        refine bodyPost_ret (results_prd2 (g := w.heap.size) Try.results66 _ rfl _ _ rfl rfl (Whole.drew HZ6.out.setsz)) rfl ?_
        refine ⟨?_, (below_sets HB6.out (Nat.le_refl _) _ _ _ _ _ _).drew⟩
        rw [HE.out, pv_row]
        first | rfl | simp
    · rw [decide_eq_false hp] at hv
      have hfl : ∀ W, Rdr (w.heap.size + 1) W b u' e' → Calls Try.prog 77 #[.pointer (some ⟨w.heap.size + 1, 0, none⟩), .int .i64 5] W fun x w' => (∃ v, x = .returned v) ∧ Reads (w.heap.size + 1) b u' (fste e' 5) W w' := rfail (w.heap.size + 1) b u' e' 5
      have he : fste e' 5 ≠ 0 := by unfold fste; split <;> omega
      clear hP hZ hR hB
      go_wp2_with (first | (with_reducible refine wpList_load_prd rfl _ rfl (g := w2.heap.size) rfl HP5.out ?_))
      refine hv.mono ?_
      rintro e w6 ⟨rfl, hb6⟩
      have HR6 := Lib.hid (HR5.out.below hb6 hl3)
      have HZ6 := Lib.hid (HZ5.out.below hb6 hl2)
      have HB6 := Lib.hid (HB5.out.trans (hb6.mono (by omega)))
      clear hb6 hv HP5 HZ5 HR5 HB5
      go_wp2_with fail
      refine (hfl w6 HR6.out).mono ?_
      rintro e w7 ⟨⟨v7, rfl⟩, h7⟩
      have hZ7 : PRow w7 w.heap.size 0 0 0 0 [] 0 := h7.2.2 _ _ _ (by omega) HZ6.out
      have HB7 := Lib.hid (HB6.out.trans (h7.2.1.mono (by omega)))
      obtain ⟨A7, c7, -, hR7, -⟩ := h7.1
      have r2 := hR7.cell 2
      simp only [List.getElem?_toArray, List.getElem?_cons_zero, List.getElem?_cons_succ] at r2
      obtain ⟨z0, z1, z2, z3, z4, z5⟩ := hZ7.cells
      obtain ⟨y0, y1, y2, y3, y4, y5⟩ := hZ7.frees
      have HZ7 := Lib.hid hZ7
      have HE : Hid (dn b = (.zero, 0, fste e' 5)) := Lib.hid (by
        rw [← hf]
        unfold fin2
        by_cases h0 : e' = 0
        · subst h0; rw [if_neg (by simp)]; exact fin_bad hp u'
        · rw [if_pos h0, fste_ne h0])
      clear hZ7 hR7 h7 hfl hf HZ6 HR6 HB6
      generalize fste e' 5 = E at *
      have he' : ¬ (E : Int) = 0 := by omega
      go_wp2
      go_region
      go_wp2
      refine bodyPost_ret (results_prd2 (g := w.heap.size) Try.results66 _ rfl _ _ rfl rfl (Whole.drew HZ7.out.setsz)) rfl ?_
      refine ⟨?_, (below_sets HB7.out (Nat.le_refl _) _ _ _ _ _ _).drew⟩
      rw [HE.out, pv_row]
      first | rfl | simp
end Go.Proofs.Ytknhnkmooaopmaa
namespace Go.Proofs.Ytknhnkmooaopmaa
open Go Go.RowKit Sh Leaf

/-- A reader at block g, of the bytes b in blocks below g. -/
def Crd (g : Nat) (w : World) (b : List B8) (u e : Nat) : Prop := ∃ A c, Bytes w (fun x => x < g) (.slice A b.length c) b ∧ Whole w g 70 #[.slice A b.length c, .int .i64 u, .int .i64 e] ∧ u ≤ b.length
theorem Crd.below {g B : Nat} {w w' : World} {b : List B8} {u e : Nat} (h : Crd g w b u e) (hb : Below B w w') (hg : g < B) : Crd g w' b u e := by
  obtain ⟨A, c, h1, h2, h3⟩ := h
  exact ⟨A, c, h1.keep fun x _ hx => hb.block x (by omega), h2.below hb hg, h3⟩
theorem Crd.lt {g : Nat} {w : World} {b : List B8} {u e : Nat} (h : Crd g w b u e) : g < w.heap.size := by obtain ⟨A, c, h1, h2, h3⟩ := h; exact h2.lt
/-- What a call of the reader leaves. -/
def Cds (g : Nat) (b : List B8) (u e : Nat) (w w' : World) : Prop := Crd g w' b u e ∧ Below g w w' ∧ Oth g w w'
theorem Cds.trans {g : Nat} {b : List B8} {u e u' e' : Nat} {w w' w'' : World} (h : Cds g b u e w w') (k : Cds g b u' e' w' w'') : Cds g b u' e' w w'' := ⟨k.1, h.2.1.trans k.2.1, h.2.2.trans k.2.2⟩
theorem Cds.size {g : Nat} {b : List B8} {u e : Nat} {w w' : World} (h : Cds g b u e w w') : w.heap.size ≤ w'.heap.size := h.2.1.size
theorem Cds.pre {g : Nat} {b : List B8} {u e : Nat} {w w1 w' : World} (h : Cds g b u e w1 w') (hb : Below w.heap.size w w1) (hg : g < w.heap.size) : Cds g b u e w w' := ⟨h.1, (hb.mono (Nat.le_of_lt hg)).trans h.2.1, (Oth.below g hb).trans h.2.2⟩
theorem crfail (g : Nat) (b : List B8) (u e e' : Nat) (w : World) (h : Crd g w b u e) :
    Calls Try.prog 41 #[.pointer (some ⟨g, 0, none⟩), .int .i64 e'] w fun x w' => (∃ v, x = .returned v) ∧ Cds g b u (fste e e') w w' := by
  obtain ⟨A, c, hb, hW, hu⟩ := h
  have c2 := hW.cell 2
  have f2 := hW.frozen 2
  simp only [List.getElem?_toArray, List.getElem?_cons_zero, List.getElem?_cons_succ] at c2
  by_cases he : e = 0
  · subst he
    go_enter Try.func41, Try.ntmps41
    go_wp2
    go_end0
    have hW2 := hW.set 2 (.int .i64 (e' : Int))
    simp only [List.setIfInBounds_toArray, List.set_cons_zero, List.set_cons_succ] at hW2
    exact ⟨⟨_, rfl⟩, ⟨A, c, hb.set (fun x hx e => by have : x = g := e; omega) _, hW2, hu⟩, (Below.refl _ _).setCell (p := ⟨g, 2, none⟩) (Nat.le_refl _) _, Oth.set _ _ _ _⟩
  · have he' : ¬ (e : Int) = 0 := by omega
    go_enter Try.func41, Try.ntmps41
    go_wp2
    go_end0
    exact ⟨⟨_, rfl⟩, ⟨A, c, hb, by unfold fste; rw [if_neg he]; exact hW, hu⟩, Below.refl _ _, Oth.refl _ _⟩
theorem cruse (g : Nat) (b : List B8) (u e k : Nat) (hk : u + k ≤ b.length) (w : World) (h : Crd g w b u e) :
    Calls Try.prog 73 #[.pointer (some ⟨g, 0, none⟩), .int .i64 k] w fun x w' => (∃ v, x = .returned v) ∧ Cds g b (u + k) e w w' := by
  obtain ⟨A, c, hb, hW, hu⟩ := h
  obtain ⟨A', c', e0, hlc, hcm, -⟩ := id hb
  cases e0
  have c1 := hW.cell 1
  have f1 := hW.frozen 1
  simp only [List.getElem?_toArray, List.getElem?_cons_zero, List.getElem?_cons_succ] at c1
  have hw1 : IntKind.i64.wrap ((u : Int) + k) = (u : Int) + k := by unfold maxLen at hcm; rw [IntKind.wrap_i64]; omega
  clear hlc hcm hu
  go_enter Try.func73, Try.ntmps73
  go_wp2
  go_end0
  have hW2 := hW.set 1 (.int .i64 ((u : Int) + k))
  simp only [List.setIfInBounds_toArray, List.set_cons_zero, List.set_cons_succ] at hW2
  rw [show (u : Int) + k = ((u + k : Nat) : Int) by omega] at hW2 ⊢
  exact ⟨⟨_, rfl⟩, ⟨A, c, hb.set (fun x hx e => by have : x = g := e; omega) _, hW2, hk⟩, (Below.refl _ _).setCell (p := ⟨g, 1, none⟩) (Nat.le_refl _) _, Oth.set _ _ _ _⟩
set_option maxHeartbeats 1000000 in
theorem crrest (g : Nat) (b : List B8) (u e : Nat) (w : World) (h : Crd g w b u e) :
    Calls Try.prog 72 #[.pointer (some ⟨g, 0, none⟩)] w fun x w' => (∃ v, x = .returned v ∧ Bytes w' (fun x => x < g) v (b.drop u)) ∧ Below w.heap.size w w' := by
  obtain ⟨A, c, hb, hW, hu⟩ := id h
  obtain ⟨A', c', e0, hlc, hcm, -⟩ := id hb
  cases e0
  have hrun := fun W => run_cut_from A b.length c u hu W
  have hbd := hb.drop u hu
  generalize (if c = u then A else A.map (·.add u)) = A2 at hrun hbd
  have hkeep : Hid (∀ W, Below w.heap.size w W → Bytes W (fun x => x < g) (.slice A2 (b.length - u) (c - u)) (b.drop u)) := Lib.hid fun W hW => hbd.below hW (Nat.le_refl _)
  have c0 := hW.cell 0
  have c1 := hW.cell 1
  simp only [List.getElem?_toArray, List.getElem?_cons_zero, List.getElem?_cons_succ] at c0 c1
  have hc : Hid (∀ W, Below w.heap.size w W → W.cell? ⟨g, 0, none⟩ = some (.slice A b.length c) ∧ W.cell? ⟨g, 1, none⟩ = some (.int .i64 u)) := Lib.hid fun W hW2 => ⟨(hW2.cell (p := ⟨g, 0, none⟩) hW.lt).trans c0, (hW2.cell (p := ⟨g, 1, none⟩) hW.lt).trans c1⟩
  clear h hW hb hbd hlc hcm hu
  go_enter Try.func72, Try.ntmps72
  go_wp2
  go_region_held3 (fun w' => w'.cell? ⟨g, 0, none⟩ = some (.slice A b.length c) ∧ w'.cell? ⟨g, 1, none⟩ = some (.int .i64 (u : Int))) (first | exact ⟨c0, c1⟩ | assumption | exact hc.out _ (by assumption) | go_keep) (fail)
  go_wp2_with fail
  go_ret
  have hbw : Below w.heap.size w w.drew := (Below.refl _ _).drew
  exact ⟨⟨_, rfl, hkeep.out _ hbw⟩, hbw⟩
theorem dn_le (l : List B8) : (dn l).2.1 ≤ l.length := by
  obtain ⟨⟨n, k, e⟩, h⟩ : ∃ x, x = dn l := ⟨_, rfl⟩
  have h := h.symm
  rw [h]
  by_cases he : e = 0
  · subst he; exact (dn_back h).2.2.1
  · rw [(dn_zero h he).2]; exact Nat.zero_le _
set_option linter.unusedSimpArgs false in
set_option linter.unusedVariables false in
set_option maxHeartbeats 2000000 in
theorem cpart_int (g : Nat) (b : List B8) (u e : Nat) (w : World) (h : Crd g w b u e) (n : Nat) (k e1 : Nat) (hr : rd (b.drop u) = (n, k, e1)) :
    Calls Try.prog 63 #[.pointer (some ⟨g, 0, none⟩), .func (.func 64) #[] #[]] w fun x w' => (x = .returned (.int .i64 n)) ∧ Cds g b (u + k) (fste e e1) w w' := by
  have hk : k ≤ (b.drop u).length := by have := rd_le (b.drop u); rw [hr] at this; exact this
  simp only [List.length_drop] at hk
  have hu : u ≤ b.length := by obtain ⟨_, _, _, _, h⟩ := h; exact h
  have hgl := h.lt
  have H := Lib.hid h
  have hcl := crrest g b u e w h
  clear h
  go_enter Try.func63, Try.ntmps63
  go_wp2_with fail
  refine hcl.mono ?_
  rintro x w1 ⟨⟨v, rfl, hv⟩, hb1⟩
  clear hcl
  have hsw1 : w.heap.size ≤ w1.heap.size := hb1.size
  have H1 := Lib.hid (H.out.below hb1 hgl)
  have HB1 := Lib.hid hb1
  clear hb1
  have hc2 := read_ v (b.drop u) _ w1 hv
  rw [hr] at hc2
  clear hv hr
  dsimp only at hc2
  go_wp2_with fail
  refine hc2.mono ?_
  rintro x w2 ⟨rfl, hb2⟩
  clear hc2
  have hsw2 : w1.heap.size ≤ w2.heap.size := hb2.size
  have H2 := Lib.hid (H1.out.below hb2 (by omega))
  have HB2 := Lib.hid hb2
  clear hb2
  have hf := crfail g b u e e1 w2 H2.out
  go_wp2_with fail
  refine hf.mono ?_
  rintro x w3 ⟨⟨v3, rfl⟩, h3⟩
  clear hf
  have hsw3 : w2.heap.size ≤ w3.heap.size := h3.size
  have hf := cruse g b u (fste e e1) k (by omega) w3 h3.1
  have H3 := Lib.hid h3
  clear h3
  go_wp2_with fail
  refine hf.mono ?_
  rintro x w4 ⟨⟨v4, rfl⟩, h4⟩
  clear hf
  have HF : Hid (Cds g b (u + k) (fste e e1) w w4) := Lib.hid ((H3.out.trans h4).pre (HB1.out.trans (HB2.out.mono hsw1)) hgl)
  clear h4
  go_wp2_with fail
  go_ret
  exact ⟨rfl, HF.out⟩
set_option linter.unusedSimpArgs false in
set_option linter.unusedVariables false in
set_option maxHeartbeats 2000000 in
theorem cpart_prd (g : Nat) (b : List B8) (u e : Nat) (w : World) (h : Crd g w b u e) (p : Prd) (k e1 : Nat) (hr : dn (b.drop u) = (p, k, e1)) :
    Calls Try.prog 65 #[.pointer (some ⟨g, 0, none⟩), .func (.func 66) #[] #[]] w fun x w' => x = .returned (pv p) ∧ Cds g b (u + k) (fste e e1) w w' := by
  have hk : k ≤ (b.drop u).length := by have := dn_le (b.drop u); rw [hr] at this; exact this
  simp only [List.length_drop] at hk
  have hu : u ≤ b.length := by obtain ⟨_, _, _, _, h⟩ := h; exact h
  have hgl := h.lt
  obtain ⟨w0, hw0⟩ : ∃ q, q = w.alloc (.cells (prow 0 0 0 0 [] 0) 24) := ⟨_, rfl⟩
  have hz0 : PRow w0 w.heap.size 0 0 0 0 [] 0 := by rw [hw0]; exact Whole.here _ _ _
  have hb0 : Below w.heap.size w w0 := by rw [hw0]; exact (Below.refl _ _).alloc (Nat.le_refl _) _
  have hsw0 : w.heap.size < w0.heap.size := hz0.lt
  have H := Lib.hid (h.below hb0 hgl)
  have HZ0 := Lib.hid hz0
  have HB0 := Lib.hid hb0
  have hcl := crrest g b u e w0 H.out
  clear h hz0 hb0
  go_enter Try.func65, Try.ntmps65
  go_upto_region 1 with fail
  rw [← prow_zero, ← hw0]
  clear hw0
  go_wp2_with fail
  refine hcl.mono ?_
  rintro x w1 ⟨⟨v, rfl, hv⟩, hb1⟩
  clear hcl
  have hsw1 : w0.heap.size ≤ w1.heap.size := hb1.size
  have H1 := Lib.hid (H.out.below hb1 (by omega))
  have HZ1 := Lib.hid (Whole.below HZ0.out hb1 hsw0)
  have HB1 := Lib.hid (HB0.out.trans (hb1.mono (by omega)))
  clear hb1
  have hc2 := pdecode v (b.drop u) _ w1 hv
  rw [hr] at hc2
  clear hv hr
  dsimp only at hc2
  rw [pv_row] at hc2
  go_wp2_with fail
  refine hc2.mono ?_
  rintro x w2 ⟨rfl, hb2⟩
  clear hc2
  have hsw2 : w1.heap.size ≤ w2.heap.size := hb2.size
  have H2 := Lib.hid (H1.out.below hb2 (by omega))
  have HZ2 := Lib.hid (Whole.below HZ1.out hb2 (by omega))
  have HB2 := Lib.hid (HB1.out.trans (hb2.mono (by omega)))
  clear hb2
  obtain ⟨w3, hw3⟩ : ∃ q, q = (w2.alloc (.cells (prow 0 0 0 0 [] 0) 24)).setRow w2.heap.size (prow p.kind p.mask p.lo p.hi p.name p.num) := ⟨_, rfl⟩
  have hb3 : Below w2.heap.size w2 w3 := by rw [hw3]; exact below_setRow ((Below.refl _ _).alloc (Nat.le_refl _) _) (Nat.le_refl _) _
  have hz3 : PRow w3 w2.heap.size p.kind p.mask p.lo p.hi p.name p.num := by rw [hw3]; exact Whole.setRow (Whole.here _ _ _) _
  have hsw3 : w2.heap.size < w3.heap.size := hz3.lt
  have hkz : PRow (w2.alloc (.cells #[.int .i64 0, .int .u64 0, .int .i64 0, .int .i64 0, .string { data := #[] }, .int .i64 0] 24)) w2.heap.size 0 0 0 0 [] 0 := by rw [← prow_zero]; exact Whole.here _ _ _
  have HW3 := Lib.hid hw3
  have HKZ := Lib.hid hkz
  clear hw3 hkz
  go_upto_region 2 with (with_reducible refine wpList_store_prd rfl _ _ rfl (g := w2.heap.size) rfl rfl HKZ.out ?_)
  rw [← prow_zero, ← HW3.out]
  clear HW3 HKZ
  have H3 := Lib.hid (H2.out.below hb3 (by omega))
  have HZ3 := Lib.hid (Whole.below HZ2.out hb3 (by omega))
  have HB3 := Lib.hid (HB2.out.trans (hb3.mono (by omega)))
  have HP3 := Lib.hid hz3
  clear hb3 hz3
  have hf := crfail g b u e e1 w3 H3.out
  go_wp2_with fail
  refine hf.mono ?_
  rintro x w4 ⟨⟨v3, rfl⟩, h3⟩
  clear hf
  have hsw4 : w3.heap.size ≤ w4.heap.size := h3.size
  have HZ4 := Lib.hid (h3.2.2.oth _ _ _ (by omega) HZ3.out)
  have HP4 := Lib.hid (h3.2.2.oth _ _ _ (by omega) HP3.out)
  have hf := cruse g b u (fste e e1) k (by omega) w4 h3.1
  have H4 := Lib.hid h3
  clear h3
  go_wp2_with fail
  refine hf.mono ?_
  rintro x w5 ⟨⟨v4, rfl⟩, h4⟩
  clear hf
  have hsw5 : w4.heap.size ≤ w5.heap.size := h4.size
  have HZ5 : Hid (PRow w5 w.heap.size 0 0 0 0 [] 0) := Lib.hid (h4.2.2.oth _ _ _ (by omega) HZ4.out)
  have HP5 : Hid (PRow w5 w2.heap.size p.kind p.mask p.lo p.hi p.name p.num) := Lib.hid (h4.2.2.oth _ _ _ (by omega) HP4.out)
  have HF : Hid (Cds g b (u + k) (fste e e1) w w5) := Lib.hid ((H4.out.trans h4).pre HB3.out hgl)
  clear h4
  go_wp2_with (first
    | (with_reducible refine wpList_load_prd rfl _ rfl rfl HP5.out ?_)
    | (with_reducible refine wpList_store_prd rfl _ _ rfl (g := w.heap.size) rfl rfl HZ5.out ?_))
  have hz6 := PRow.setRow HZ5.out p.kind p.mask p.lo p.hi p.name p.num
  refine bodyPost_ret (results_prd Try.results65 _ rfl hz6) rfl ⟨by rw [pv_row], ?_⟩
  have hbs : Below w.heap.size w5 (w5.setRow w.heap.size (prow p.kind p.mask p.lo p.hi p.name p.num)) := below_setRow (Below.refl _ _) (Nat.le_refl _) _
  refine ⟨HF.out.1.below hbs hgl, HF.out.2.1.trans (hbs.mono (Nat.le_of_lt hgl)), ?_⟩
  exact ⟨fun b t cs hx _ hw => (hbs.block b (lt_of_heap hw)).trans (HF.out.2.2.oth b t cs hx hw), fun v hv => (hbs.cell (p := ⟨g, 0, none⟩) hgl).trans (HF.out.2.2.zero v hv)⟩
set_option linter.unusedSimpArgs false in
set_option linter.unusedVariables false in
set_option maxHeartbeats 2000000 in
theorem cpart_by (g : Nat) (b : List B8) (u e : Nat) (w : World) (h : Crd g w b u e) (s : List B8) (k e1 : Nat) (hr : rdf (b.drop u) = (s, k, e1)) :
    Calls Try.prog 67 #[.pointer (some ⟨g, 0, none⟩), .func (.func 68) #[] #[]] w fun x w' => (∃ v', x = .returned v' ∧ Own w' w.heap.size v' s) ∧ Cds g b (u + k) (fste e e1) w w' := by
  have hk : k ≤ (b.drop u).length := by have := rdf_le (b.drop u); rw [hr] at this; exact this
  simp only [List.length_drop] at hk
  have hu : u ≤ b.length := by obtain ⟨_, _, _, _, h⟩ := h; exact h
  have hgl := h.lt
  have H := Lib.hid h
  have hcl := crrest g b u e w h
  clear h
  go_enter Try.func67, Try.ntmps67
  go_wp2_with fail
  refine hcl.mono ?_
  rintro x w1 ⟨⟨v, rfl, hv⟩, hb1⟩
  clear hcl
  have hsw1 : w.heap.size ≤ w1.heap.size := hb1.size
  have H1 := Lib.hid (H.out.below hb1 hgl)
  have HB1 := Lib.hid hb1
  clear hb1
  have hc2 := fread v (b.drop u) _ w1 hv
  rw [hr] at hc2
  clear hv hr
  dsimp only at hc2
  go_wp2_with fail
  refine hc2.mono ?_
  rintro x w2 ⟨v2, rfl, ho2, hb2⟩
  clear hc2
  have hsw2 : w1.heap.size ≤ w2.heap.size := hb2.size
  have H2 := Lib.hid (H1.out.below hb2 (by omega))
  have HB2 := Lib.hid hb2
  have HO2 := Lib.hid (own_mono ho2 hsw1)
  clear hb2 ho2
  have hf := crfail g b u e e1 w2 H2.out
  go_wp2_with fail
  refine hf.mono ?_
  rintro x w3 ⟨⟨v3, rfl⟩, h3⟩
  clear hf
  have hsw3 : w2.heap.size ≤ w3.heap.size := h3.size
  have HO3 := Lib.hid (own_oth HO2.out h3.2.2 hgl)
  have hf := cruse g b u (fste e e1) k (by omega) w3 h3.1
  have H3 := Lib.hid h3
  clear h3
  go_wp2_with fail
  refine hf.mono ?_
  rintro x w4 ⟨⟨v4, rfl⟩, h4⟩
  clear hf
  have HF : Hid (Cds g b (u + k) (fste e e1) w w4) := Lib.hid ((H3.out.trans h4).pre (HB1.out.trans (HB2.out.mono hsw1)) hgl)
  have HO4 := Lib.hid (own_oth HO3.out h4.2.2 hgl)
  clear h4
  go_wp2_with fail
  go_ret
  exact ⟨⟨_, rfl, HO4.out⟩, HF.out⟩
end Go.Proofs.Ytknhnkmooaopmaa
namespace Go.Proofs.Ytknhnkmooaopmaa
open Go Go.RowKit Sh Leaf

theorem Cds.new {g : Nat} {b : List B8} {u e : Nat} {w wi wj : World} (h : Cds g b u e w wi) (hb : Below w.heap.size wi wj) (hg : g < w.heap.size) : Cds g b u e w wj :=
  ⟨h.1.below hb hg, h.2.1.trans (hb.mono (Nat.le_of_lt hg)), ⟨fun x t cs hx _ hw => (hb.block x (lt_of_heap hw)).trans (h.2.2.oth x t cs hx hw), fun v hv => (hb.cell (p := ⟨g, 0, none⟩) hg).trans (h.2.2.zero v hv)⟩⟩
theorem dn_wf {b : List B8} {p : Prd} {k e : Nat} (h : dn b = (p, k, e)) : p.mask < 18446744073709551616 ∧ p.name.length ≤ 9223372036854775807 := by
  by_cases he : e = 0
  · subst he
    obtain ⟨h1, h2, -, -⟩ := dn_back h
    refine ⟨by simpa using h2, ?_⟩
    unfold pok nmok at h1
    rcases h1 with h | h | h | h | h | h | h
    · rw [h.2.2.2.2.1]; simp
    · rw [h.2.2.2.2.2.1]; simp
    · rw [h.2.2.2.2.2.1]; simp
    · rw [h.2.2.2.2.2.1]; simp
    · rw [h.2.2.2.2.2.2.1]; simp
    · have := h.2.2.2.2.1; omega
    · rw [h.2.2.2.2.1]; simp
  · rw [(dn_zero h he).1]; simp
theorem rdf_wf {b s : List B8} {k e : Nat} (h : rdf b = (s, k, e)) : s.length ≤ 1024 := by
  by_cases he : e = 0
  · subst he; exact (rdf_back h).2.2.2
  · rcases rdf_cases b with ⟨e', _, h'⟩ | ⟨n, j, _, _, _, _, _, h'⟩
    · rw [h'] at h; injection h with h _; rw [← h]; simp
    · rw [h'] at h; injection h with _ h; injection h with _ h; exact absurd h.symm he
theorem CvRow.sets {w : World} {g : Nat} {th : Bool} {p : Prd} {pa : Int} {vt vb : Value} (h : CvRow w g th p pa vt vb) (q : Prd) :
    CvRow ((((((w.setCell ⟨g, 1, none⟩ (.int .i64 q.kind)).setCell ⟨g, 2, none⟩ (.int .u64 (q.mask : Int))).setCell ⟨g, 3, none⟩ (.int .i64 q.lo)).setCell ⟨g, 4, none⟩ (.int .i64 q.hi)).setCell ⟨g, 5, none⟩ (.string (sof q.name))).setCell ⟨g, 6, none⟩ (.int .i64 q.num)) g th q pa vt vb := by
  have := (((((h.set 1 (.int .i64 q.kind)).set 2 (.int .u64 (q.mask : Int))).set 3 (.int .i64 q.lo)).set 4 (.int .i64 q.hi)).set 5 (.string (sof q.name))).set 6 (.int .i64 q.num)
  simpa using this
theorem below_sets6 {B g : Nat} {W w : World} (h : Below B W w) (hg : B ≤ g) (a b c d e f : Value) : Below B W ((((((w.setCell ⟨g, 1, none⟩ a).setCell ⟨g, 2, none⟩ b).setCell ⟨g, 3, none⟩ c).setCell ⟨g, 4, none⟩ d).setCell ⟨g, 5, none⟩ e).setCell ⟨g, 6, none⟩ f) :=
  (((((h.setCell (p := ⟨g, 1, none⟩) hg a).setCell (p := ⟨g, 2, none⟩) hg b).setCell (p := ⟨g, 3, none⟩) hg c).setCell (p := ⟨g, 4, none⟩) hg d).setCell (p := ⟨g, 5, none⟩) hg e).setCell (p := ⟨g, 6, none⟩) hg f
theorem CvRow.set0 {w : World} {g : Nat} {th : Bool} {p : Prd} {pa : Int} {vt vb : Value} (h : CvRow w g th p pa vt vb) (x : Bool) : CvRow (w.setCell ⟨g, 0, none⟩ (.bool x)) g x p pa vt vb := by have := h.set 0 (.bool x); simpa using this
theorem CvRow.set7 {w : World} {g : Nat} {th : Bool} {p : Prd} {pa : Int} {vt vb : Value} (h : CvRow w g th p pa vt vb) (x : Int) : CvRow (w.setCell ⟨g, 7, none⟩ (.int .i64 x)) g th p x vt vb := by have := h.set 7 (.int .i64 x); simpa using this
theorem CvRow.set8 {w : World} {g : Nat} {th : Bool} {p : Prd} {pa : Int} {vt vb : Value} (h : CvRow w g th p pa vt vb) (x : Value) : CvRow (w.setCell ⟨g, 8, none⟩ x) g th p pa x vb := by have := h.set 8 x; simpa using this
theorem CvRow.set9 {w : World} {g : Nat} {th : Bool} {p : Prd} {pa : Int} {vt vb : Value} (h : CvRow w g th p pa vt vb) (x : Value) : CvRow (w.setCell ⟨g, 9, none⟩ x) g th p pa vt x := by have := h.set 9 x; simpa using this
set_option linter.unusedSimpArgs false in
set_option linter.unusedVariables false in
set_option maxRecDepth 100000 in
set_option maxHeartbeats 4000000 in
theorem crcav (g : Nat) (b : List B8) (w : World) (h : Crd g w b 0 0) :
    Calls Try.prog 40 #[.pointer (some ⟨g, 0, none⟩)] w fun x w' => ∃ v c u e, x = .returned v ∧ CavV w' (fun q => w.heap.size ≤ q) v c ∧ Cds g b u e w w' ∧ cdn b = (if e = 0 then cfin c u else (.zero, 0, e)) := by
  have hgl := h.lt
  obtain ⟨w0, hw0⟩ : ∃ q, q = (w.alloc (.cells (cvrow false .zero 0 (.slice none 0 0) (.slice none 0 0)) 27)).alloc (.cells (cvrow false .zero 0 (.slice none 0 0) (.slice none 0 0)) 27) := ⟨_, rfl⟩
  have hz2 : CvRow w0 w.heap.size false .zero 0 (.slice none 0 0) (.slice none 0 0) := by rw [hw0]; exact (Whole.here _ _ _).alloc _
  have hz3 : CvRow w0 (w.heap.size + 1) false .zero 0 (.slice none 0 0) (.slice none 0 0) := by rw [hw0]; exact Whole.at_ _ _ _ _ (by simp)
  have hb0 : Below w.heap.size w w0 := by rw [hw0]; exact ((Below.refl _ _).alloc (Nat.le_refl _) _).alloc (by simp) _
  have hsw0 : w.heap.size + 1 < w0.heap.size := hz3.lt
  obtain ⟨⟨n, k, e⟩, hr⟩ : ∃ r, r = rd b := ⟨_, rfl⟩
  have hr := hr.symm
  have hcl := cpart_int g b 0 0 w0 (h.below hb0 hgl) n k e (by rw [List.drop_zero]; exact hr)
  have HZ2 := Lib.hid hz2
  have HZ3 := Lib.hid hz3
  have HB0 := Lib.hid hb0
  have HRR := Lib.hid hr
  rw [show fste 0 e = e by unfold fste; rw [if_pos rfl], Nat.zero_add] at hcl
  clear hz2 hz3 hb0 hr h
  go_enter Try.func40, Try.ntmps40
  go_upto_region 2 with fail
  rw [← cvrow_zero, ← hw0]
  clear hw0
  go_wp2_with fail
  refine hcl.mono ?_
  rintro x w1 ⟨rfl, h1⟩
  clear hcl
  have hsw1 : w0.heap.size ≤ w1.heap.size := h1.size
  have HC := Lib.hid (h1.pre HB0.out hgl)
  have HY2 : Hid (CvRow w1 w.heap.size false .zero 0 (.slice none 0 0) (.slice none 0 0)) := Lib.hid (h1.2.2.oth _ _ _ (by omega) HZ2.out)
  have HY3 : Hid (CvRow w1 (w.heap.size + 1) false .zero 0 (.slice none 0 0) (.slice none 0 0)) := Lib.hid (h1.2.2.oth _ _ _ (by omega) HZ3.out)
  clear h1 HZ2 HZ3 HB0
  by_cases hn1 : n = 1
  · skip
    have he : e = 0 := by
      by_cases he : e = 0
      · exact he
      · have := (rd_err HRR.out he).1; omega
    subst hn1 he
    obtain ⟨⟨p, k1, e1⟩, hd⟩ : ∃ r, r = dn (b.drop k) := ⟨_, rfl⟩
    have hd := hd.symm
    have HD : Hid (cdn b = (if e1 = 0 then cfin ⟨false, p, 0, [], []⟩ (k + k1) else (.zero, 0, e1))) := Lib.hid (by
      rw [cdn_first HRR.out hd]
      by_cases h : e1 = 0
      · rw [if_neg (by simp [h]), if_pos h]
      · rw [if_pos h, if_neg h])
    have hwf := dn_wf hd
    have HWF := Lib.hid hwf
    have hcl := cpart_prd g b k 0 w1 HC.out.1 p k1 e1 hd
    rw [show fste 0 e1 = e1 by unfold fste; rw [if_pos rfl], pv_row] at hcl
    clear hd hwf
    go_wp2_with fail
    refine hcl.mono ?_
    rintro x w2 ⟨rfl, h2⟩
    clear hcl
    have hsw2 : w1.heap.size ≤ w2.heap.size := h2.size
    have HC2 := Lib.hid (HC.out.trans h2)
    have HX2 : Hid (CvRow w2 w.heap.size false .zero 0 (.slice none 0 0) (.slice none 0 0)) := Lib.hid (h2.2.2.oth _ _ _ (by omega) HY2.out)
    have hx3 : CvRow w2 (w.heap.size + 1) false .zero 0 (.slice none 0 0) (.slice none 0 0) := h2.2.2.oth _ _ _ (by omega) HY3.out
    have HX3 := Lib.hid hx3
    have f1 := hx3.frozen 1
    have f2 := hx3.frozen 2
    have f3 := hx3.frozen 3
    have f4 := hx3.frozen 4
    have f5 := hx3.frozen 5
    have f6 := hx3.frozen 6
    have l1 : w2.cell? ⟨w.heap.size + 1, 1, none⟩ = some (.int .i64 0) := hx3.cell 1
    have l2 : w2.cell? ⟨w.heap.size + 1, 2, none⟩ = some (.int .u64 0) := hx3.cell 2
    have l3 : w2.cell? ⟨w.heap.size + 1, 3, none⟩ = some (.int .i64 0) := hx3.cell 3
    have l4 : w2.cell? ⟨w.heap.size + 1, 4, none⟩ = some (.int .i64 0) := hx3.cell 4
    have l5 : w2.cell? ⟨w.heap.size + 1, 5, none⟩ = some (.string (sof [])) := hx3.cell 5
    have l6 : w2.cell? ⟨w.heap.size + 1, 6, none⟩ = some (.int .i64 0) := hx3.cell 6
    clear h2 hx3
    go_upto_region 11 with fail
    obtain ⟨w3, hw3⟩ : ∃ q, q = ((((((w2.setCell ⟨w.heap.size + 1, 1, none⟩ (.int .i64 p.kind)).setCell ⟨w.heap.size + 1, 2, none⟩ (.int .u64 (p.mask : Int))).setCell ⟨w.heap.size + 1, 3, none⟩ (.int .i64 p.lo)).setCell ⟨w.heap.size + 1, 4, none⟩ (.int .i64 p.hi)).setCell ⟨w.heap.size + 1, 5, none⟩ (.string (sof p.name))).setCell ⟨w.heap.size + 1, 6, none⟩ (.int .i64 p.num)) := ⟨_, rfl⟩
    rw [← hw3]
    have hb3 : Below w.heap.size w2 w3 := by rw [hw3]; exact below_sets6 (Below.refl _ _) (by omega) _ _ _ _ _ _
    have HE3 : Hid (CvRow w3 (w.heap.size + 1) false p 0 (.slice none 0 0) (.slice none 0 0)) := Lib.hid (by rw [hw3]; exact CvRow.sets HX3.out p)
    have HE2 : Hid (CvRow w3 w.heap.size false .zero 0 (.slice none 0 0) (.slice none 0 0)) := Lib.hid (by rw [hw3]; exact (((((HX2.out.far (a := ⟨w.heap.size + 1, 1, none⟩) (by show w.heap.size ≠ w.heap.size + 1; omega) _).far (a := ⟨w.heap.size + 1, 2, none⟩) (by show w.heap.size ≠ w.heap.size + 1; omega) _).far (a := ⟨w.heap.size + 1, 3, none⟩) (by show w.heap.size ≠ w.heap.size + 1; omega) _).far (a := ⟨w.heap.size + 1, 4, none⟩) (by show w.heap.size ≠ w.heap.size + 1; omega) _).far (a := ⟨w.heap.size + 1, 5, none⟩) (by show w.heap.size ≠ w.heap.size + 1; omega) _).far (a := ⟨w.heap.size + 1, 6, none⟩) (by show w.heap.size ≠ w.heap.size + 1; omega) _)
    have HCE := Lib.hid (HC2.out.new hb3 hgl)
    clear hw3 hb3 f1 f2 f3 f4 f5 f6 l1 l2 l3 l4 l5 l6
    go_wp2_with (first
      | (with_reducible refine wpList_load_cav rfl _ rfl rfl HE3.out ?_)
      | (with_reducible refine wpList_store_cav rfl _ _ rfl (g := w.heap.size) rfl rfl HE2.out (cvrow_size _ _ _ _ _) ?_))
    have hz6 := Whole.setRow HE2.out (cvrow false p 0 (.slice none 0 0) (.slice none 0 0))
    refine bodyPost_ret (results_cav Try.results40 _ rfl hz6) rfl ?_
    have hbs := below_setRow (B := w.heap.size) (Below.refl _ w3) (Nat.le_refl w.heap.size) (cvrow false p 0 (.slice none 0 0) (.slice none 0 0))
    refine ⟨_, ⟨false, p, 0, [], []⟩, _, _, rfl, ⟨none, 0, none, 0, rfl, Bytes.nil _ _, Bytes.nil _ _, HWF.out.1, HWF.out.2, by simp, by simp⟩, HCE.out.new hbs hgl, HD.out⟩
  by_cases hn2 : n = 2
  · skip
    have he : e = 0 := by
      by_cases he : e = 0
      · exact he
      · have := (rd_err HRR.out he).1; omega
    subst hn2 he
    obtain ⟨⟨n2, k2, e2⟩, h2r⟩ : ∃ r, r = rd (b.drop k) := ⟨_, rfl⟩
    obtain ⟨⟨tk, k3, e3⟩, h3r⟩ : ∃ r, r = rdf (b.drop (k + k2)) := ⟨_, rfl⟩
    obtain ⟨⟨bx, k4, e4⟩, h4r⟩ : ∃ r, r = rdf (b.drop (k + k2 + k3)) := ⟨_, rfl⟩
    have h2r := h2r.symm
    have h3r := h3r.symm
    have h4r := h4r.symm
    obtain ⟨E3, hE3⟩ : ∃ E, E = fste e2 e3 := ⟨_, rfl⟩
    obtain ⟨E4, hE4⟩ : ∃ E, E = fste E3 e4 := ⟨_, rfl⟩
    have HD : Hid (cdn b = (if E4 = 0 then cfin ⟨true, .zero, (n2 : Int), tk, bx⟩ (k + k2 + k3 + k4) else (.zero, 0, E4))) := Lib.hid (by
      rw [cdn_third HRR.out h2r h3r h4r, hE4, hE3]
      unfold fste
      by_cases q2 : e2 = 0
      · rw [if_neg (by simp [q2]), if_pos q2]
        by_cases q3 : e3 = 0
        · rw [if_neg (by simp [q3]), if_pos q3]
          by_cases q4 : e4 = 0
          · rw [if_neg (by simp [q4]), if_pos q4]
          · rw [if_pos q4, if_neg q4]
        · rw [if_pos q3, if_neg q3, if_neg q3]
      · rw [if_pos q2, if_neg q2, if_neg q2, if_neg q2])
    have HT := Lib.hid (And.intro (rdf_wf h3r) (rdf_wf h4r))
    have HH3 := Lib.hid (And.intro h3r (And.intro h4r (And.intro hE3 hE4)))
    have hcl := fun W hW => cpart_int g b k 0 W hW n2 k2 e2 h2r
    rw [show fste 0 e2 = e2 by unfold fste; rw [if_pos rfl]] at hcl
    have hcl3 := fun W hW => cpart_by g b (k + k2) e2 W hW tk k3 e3 h3r
    rw [← hE3] at hcl3
    have hcl4 := fun W hW => cpart_by g b (k + k2 + k3) E3 W hW bx k4 e4 h4r
    rw [← hE4] at hcl4
    have HCL3 := Lib.hid hcl3
    have HCL4 := Lib.hid hcl4
    have hy3 : CvRow w1 (w.heap.size + 1) false .zero 0 (.slice none 0 0) (.slice none 0 0) := HY3.out
    have f0 := hy3.frozen 0
    have l0 : w1.cell? ⟨w.heap.size + 1, 0, none⟩ = some (.bool false) := hy3.cell 0
    clear h2r h3r h4r hE3 hE4 hcl3 hcl4 hy3
    go_upto_region 8 with fail
    obtain ⟨v1, hv1⟩ : ∃ q, q = w1.setCell ⟨w.heap.size + 1, 0, none⟩ (.bool true) := ⟨_, rfl⟩
    rw [← hv1]
    have hb1 : Below w.heap.size w1 v1 := by rw [hv1]; exact (Below.refl _ _).setCell (p := ⟨w.heap.size + 1, 0, none⟩) (by show w.heap.size ≤ w.heap.size + 1; omega) _
    have HV3 : Hid (CvRow v1 (w.heap.size + 1) true .zero 0 (.slice none 0 0) (.slice none 0 0)) := Lib.hid (by rw [hv1]; exact CvRow.set0 HY3.out true)
    have HV2 : Hid (CvRow v1 w.heap.size false .zero 0 (.slice none 0 0) (.slice none 0 0)) := Lib.hid (by rw [hv1]; exact HY2.out.far (a := ⟨w.heap.size + 1, 0, none⟩) (by show w.heap.size ≠ w.heap.size + 1; omega) _)
    have HCV := Lib.hid (HC.out.new hb1 hgl)
    have hsv1 : w1.heap.size = v1.heap.size := by rw [hv1]; simp
    clear hv1 hb1 f0 l0
    have hcl := hcl v1 HCV.out.1
    go_wp2_with fail
    refine hcl.mono ?_
    rintro x w2 ⟨rfl, h2⟩
    clear hcl
    have hsw2 : v1.heap.size ≤ w2.heap.size := h2.size
    have HC2 := Lib.hid (HCV.out.trans h2)
    have HX2 : Hid (CvRow w2 w.heap.size false .zero 0 (.slice none 0 0) (.slice none 0 0)) := Lib.hid (h2.2.2.oth _ _ _ (by omega) HV2.out)
    have hx3 : CvRow w2 (w.heap.size + 1) true .zero 0 (.slice none 0 0) (.slice none 0 0) := h2.2.2.oth _ _ _ (by omega) HV3.out
    have HX3 := Lib.hid hx3
    have f7 := hx3.frozen 7
    have l7 : w2.cell? ⟨w.heap.size + 1, 7, none⟩ = some (.int .i64 0) := hx3.cell 7
    clear h2 hx3
    go_upto_region 9 with fail
    obtain ⟨v2, hv2⟩ : ∃ q, q = w2.setCell ⟨w.heap.size + 1, 7, none⟩ (.int .i64 (n2 : Int)) := ⟨_, rfl⟩
    rw [← hv2]
    have hb2 : Below w.heap.size w2 v2 := by rw [hv2]; exact (Below.refl _ _).setCell (p := ⟨w.heap.size + 1, 7, none⟩) (by show w.heap.size ≤ w.heap.size + 1; omega) _
    have HV3 : Hid (CvRow v2 (w.heap.size + 1) true .zero (n2 : Int) (.slice none 0 0) (.slice none 0 0)) := Lib.hid (by rw [hv2]; exact CvRow.set7 HX3.out _)
    have HV2 : Hid (CvRow v2 w.heap.size false .zero 0 (.slice none 0 0) (.slice none 0 0)) := Lib.hid (by rw [hv2]; exact HX2.out.far (a := ⟨w.heap.size + 1, 7, none⟩) (by show w.heap.size ≠ w.heap.size + 1; omega) _)
    have HCV := Lib.hid (HC2.out.new hb2 hgl)
    have hsv2 : w2.heap.size = v2.heap.size := by rw [hv2]; simp
    clear hv2 hb2 f7 l7
    have hcl := HCL3.out v2 HCV.out.1
    go_wp2_with fail
    refine hcl.mono ?_
    rintro x w3 ⟨⟨t3, rfl, ho3⟩, h3⟩
    clear hcl
    have hsw3 : v2.heap.size ≤ w3.heap.size := h3.size
    have hbt := Bytes.of_own ho3
    obtain ⟨A3, c3, rfl, -⟩ := id hbt
    have HBT : Hid (Bytes w3 (fun q => w.heap.size + 2 ≤ q) (.slice A3 tk.length c3) tk) := Lib.hid (hbt.mono fun q _ hq => by have hq : v2.heap.size ≤ q := hq; omega)
    have HC3 := Lib.hid (HCV.out.trans h3)
    have HX2 : Hid (CvRow w3 w.heap.size false .zero 0 (.slice none 0 0) (.slice none 0 0)) := Lib.hid (h3.2.2.oth _ _ _ (by omega) HV2.out)
    have hx3 : CvRow w3 (w.heap.size + 1) true .zero (n2 : Int) (.slice none 0 0) (.slice none 0 0) := h3.2.2.oth _ _ _ (by omega) HV3.out
    have HX3 := Lib.hid hx3
    have f8 := hx3.frozen 8
    have l8 : w3.cell? ⟨w.heap.size + 1, 8, none⟩ = some (.slice none 0 0) := hx3.cell 8
    clear h3 hx3 ho3 hbt
    go_upto_region 10 with fail
    obtain ⟨v3, hv3⟩ : ∃ q, q = w3.setCell ⟨w.heap.size + 1, 8, none⟩ (.slice A3 tk.length c3) := ⟨_, rfl⟩
    rw [← hv3]
    have hb3 : Below w.heap.size w3 v3 := by rw [hv3]; exact (Below.refl _ _).setCell (p := ⟨w.heap.size + 1, 8, none⟩) (by show w.heap.size ≤ w.heap.size + 1; omega) _
    have HV3 : Hid (CvRow v3 (w.heap.size + 1) true .zero (n2 : Int) (.slice A3 tk.length c3) (.slice none 0 0)) := Lib.hid (by rw [hv3]; exact CvRow.set8 HX3.out _)
    have HV2 : Hid (CvRow v3 w.heap.size false .zero 0 (.slice none 0 0) (.slice none 0 0)) := Lib.hid (by rw [hv3]; exact HX2.out.far (a := ⟨w.heap.size + 1, 8, none⟩) (by show w.heap.size ≠ w.heap.size + 1; omega) _)
    have HBT3 : Hid (Bytes v3 (fun q => w.heap.size + 2 ≤ q) (.slice A3 tk.length c3) tk) := Lib.hid (by rw [hv3]; exact HBT.out.keep fun q _ hq => heap_setCell_other _ ⟨w.heap.size + 1, 8, none⟩ q _ (by show q ≠ w.heap.size + 1; omega))
    have HCV := Lib.hid (HC3.out.new hb3 hgl)
    have hsv3 : w3.heap.size = v3.heap.size := by rw [hv3]; simp
    clear hv3 hb3 f8 l8 HBT
    have hcl := HCL4.out v3 HCV.out.1
    go_wp2_with fail
    refine hcl.mono ?_
    rintro x w4 ⟨⟨t4, rfl, ho4⟩, h4⟩
    clear hcl
    have hsw4 : v3.heap.size ≤ w4.heap.size := h4.size
    have hbt := Bytes.of_own ho4
    obtain ⟨A4, c4, rfl, -⟩ := id hbt
    have HBB : Hid (Bytes w4 (fun q => w.heap.size + 2 ≤ q) (.slice A4 bx.length c4) bx) := Lib.hid (hbt.mono fun q _ hq => by have hq : v3.heap.size ≤ q := hq; omega)
    have HBT4 : Hid (Bytes w4 (fun q => w.heap.size + 2 ≤ q) (.slice A3 tk.length c3) tk) := Lib.hid (HBT3.out.oth h4.2.2 fun q hq => by have hq : w.heap.size + 2 ≤ q := hq; omega)
    have HC4 := Lib.hid (HCV.out.trans h4)
    have HX2 : Hid (CvRow w4 w.heap.size false .zero 0 (.slice none 0 0) (.slice none 0 0)) := Lib.hid (h4.2.2.oth _ _ _ (by omega) HV2.out)
    have hx3 : CvRow w4 (w.heap.size + 1) true .zero (n2 : Int) (.slice A3 tk.length c3) (.slice none 0 0) := h4.2.2.oth _ _ _ (by omega) HV3.out
    have HX3 := Lib.hid hx3
    have f9 := hx3.frozen 9
    have l9 : w4.cell? ⟨w.heap.size + 1, 9, none⟩ = some (.slice none 0 0) := hx3.cell 9
    clear h4 hx3 ho4 hbt
    go_upto_region 11 with fail
    obtain ⟨v4, hv4⟩ : ∃ q, q = w4.setCell ⟨w.heap.size + 1, 9, none⟩ (.slice A4 bx.length c4) := ⟨_, rfl⟩
    rw [← hv4]
    have hb4 : Below w.heap.size w4 v4 := by rw [hv4]; exact (Below.refl _ _).setCell (p := ⟨w.heap.size + 1, 9, none⟩) (by show w.heap.size ≤ w.heap.size + 1; omega) _
    have HE3 : Hid (CvRow v4 (w.heap.size + 1) true .zero (n2 : Int) (.slice A3 tk.length c3) (.slice A4 bx.length c4)) := Lib.hid (by rw [hv4]; exact CvRow.set9 HX3.out _)
    have HE2 : Hid (CvRow v4 w.heap.size false .zero 0 (.slice none 0 0) (.slice none 0 0)) := Lib.hid (by rw [hv4]; exact HX2.out.far (a := ⟨w.heap.size + 1, 9, none⟩) (by show w.heap.size ≠ w.heap.size + 1; omega) _)
    have HBT5 : Hid (Bytes v4 (fun q => w.heap.size + 2 ≤ q) (.slice A3 tk.length c3) tk) := Lib.hid (by rw [hv4]; exact HBT4.out.keep fun q _ hq => heap_setCell_other _ ⟨w.heap.size + 1, 9, none⟩ q _ (by show q ≠ w.heap.size + 1; omega))
    have HBB5 : Hid (Bytes v4 (fun q => w.heap.size + 2 ≤ q) (.slice A4 bx.length c4) bx) := Lib.hid (by rw [hv4]; exact HBB.out.keep fun q _ hq => heap_setCell_other _ ⟨w.heap.size + 1, 9, none⟩ q _ (by show q ≠ w.heap.size + 1; omega))
    have HCE := Lib.hid (HC4.out.new hb4 hgl)
    clear hv4 hb4 f9 l9 HBT4 HBB
    go_wp2_with (first
      | (with_reducible refine wpList_load_cav rfl _ rfl rfl HE3.out ?_)
      | (with_reducible refine wpList_store_cav rfl _ _ rfl (g := w.heap.size) rfl rfl HE2.out (cvrow_size _ _ _ _ _) ?_))
    have hz6 := Whole.setRow HE2.out (cvrow true .zero (n2 : Int) (.slice A3 tk.length c3) (.slice A4 bx.length c4))
    refine bodyPost_ret (results_cav Try.results40 _ rfl hz6) rfl ?_
    have hbs := below_setRow (B := w.heap.size) (Below.refl _ v4) (Nat.le_refl w.heap.size) (cvrow true .zero (n2 : Int) (.slice A3 tk.length c3) (.slice A4 bx.length c4))
    refine ⟨_, ⟨true, .zero, (n2 : Int), tk, bx⟩, _, _, rfl, ⟨A3, c3, A4, c4, rfl, (Bytes.mono (Q := fun q => w.heap.size + 2 ≤ q) (HBT5.out.keep fun q _ hq => setRow_other _ _ q _ (by omega)) fun q _ hq => by omega), (Bytes.mono (Q := fun q => w.heap.size + 2 ≤ q) (HBB5.out.keep fun q _ hq => setRow_other _ _ q _ (by omega)) fun q _ hq => by omega), by simp, by simp, Nat.le_trans HT.out.1 (by omega), Nat.le_trans HT.out.2 (by omega)⟩, HCE.out.new hbs hgl, HD.out⟩
  have HD : Hid (cdn b = (if fste e 6 = 0 then cfin .zero k else (.zero, 0, fste e 6))) := Lib.hid (by
    unfold fste
    by_cases he : e = 0
    · subst he
      rw [if_pos rfl, if_neg (by simp), cdn_kind HRR.out hn1 hn2]
    · rw [if_neg he, if_neg he, cdn_err HRR.out he])
  have hcl := crfail g b k e 6 w1 HC.out.1
  obtain ⟨E, hE⟩ : ∃ E, E = fste e 6 := ⟨_, rfl⟩
  rw [← hE] at hcl HD
  have i1 : ¬ (n : Int) = 1 := by omega
  have i2 : ¬ (n : Int) = 2 := by omega
  clear hE hn1 hn2
  go_wp2_with fail
  refine hcl.mono ?_
  rintro x w2 ⟨⟨v, rfl⟩, h2⟩
  clear hcl
  have hsw2 : w1.heap.size ≤ w2.heap.size := h2.size
  have HCE := Lib.hid (HC.out.trans h2)
  have HE2 : Hid (CvRow w2 w.heap.size false .zero 0 (.slice none 0 0) (.slice none 0 0)) := Lib.hid (h2.2.2.oth _ _ _ (by omega) HY2.out)
  have HE3 : Hid (CvRow w2 (w.heap.size + 1) false .zero 0 (.slice none 0 0) (.slice none 0 0)) := Lib.hid (h2.2.2.oth _ _ _ (by omega) HY3.out)
  clear h2
  go_wp2_with (first
    | (with_reducible refine wpList_load_cav rfl _ rfl rfl HE3.out ?_)
    | (with_reducible refine wpList_store_cav rfl _ _ rfl (g := w.heap.size) rfl rfl HE2.out (cvrow_size _ _ _ _ _) ?_))
  have hz6 := Whole.setRow HE2.out (cvrow false .zero 0 (.slice none 0 0) (.slice none 0 0))
  refine bodyPost_ret (results_cav Try.results40 _ rfl hz6) rfl ?_
  have hbs := below_setRow (B := w.heap.size) (Below.refl _ w2) (Nat.le_refl w.heap.size) (cvrow false .zero 0 (.slice none 0 0) (.slice none 0 0))
  refine ⟨_, .zero, _, _, rfl, ⟨none, 0, none, 0, rfl, Bytes.nil _ _, Bytes.nil _ _, by simp, by simp, by simp, by simp⟩, HCE.out.new hbs hgl, HD.out⟩
end Go.Proofs.Ytknhnkmooaopmaa
