/-
  The deck: mask, Predicate.
  The deck: Context.
-/
import Derived.Deep.RegionHeld3
import Derived.Deep.DeepCutAuto
import Derived.Deep.CutBlock
import Derived.Test.YtbbkjdckogcbgaaPk10
import Derived.Test.YtbbkjdckogcbgaaPk6
namespace Go.Proofs.Ytbbkjdckogcbgaa
open Go Go.RowKit Sh Leaf

theorem Turn.from {g : Nat} {w w2 w3 : World} (h : Turn g w w2) (hg : g < w.heap.size) (hb : Below w.heap.size w2 w3) : Turn g w w3 :=
  ⟨h.1.below hb hg, h.2.1.trans (hb.mono (Nat.le_of_lt hg)), fun b t cs hn hw => (h.2.2 b t cs hn hw).below hb hw.lt⟩
/-- z is a word of 64 bits. -/
def U64 (z : Int) : Prop := ∃ x : Nat, z = (x : Int) ∧ x < 18446744073709551616
theorem u64_and (z : Int) (hz : U64 z) (y : Nat) (hy : y < 18446744073709551616) : ∃ x : Nat, bits .and .u64 z (y : Int) = (x : Int) ∧ x ≤ y := by
  obtain ⟨x, rfl, hx⟩ := hz
  exact ⟨x &&& y, bits_and_u64_nat x y hx hy, Nat.and_le_right⟩
theorem u64_wrap (z : Int) : U64 (IntKind.u64.wrap z) := by
  rw [IntKind.wrap_u64]
  obtain ⟨x, hx⟩ := Int.eq_ofNat_of_zero_le (Int.emod_nonneg z (b := 18446744073709551616) (by omega))
  have := Int.emod_lt_of_pos z (b := 18446744073709551616) (by omega)
  exact ⟨x, hx, by omega⟩
theorem u64_bits (o : BinOp) (a b : Int) : U64 (bits o .u64 a b) := by
  unfold bits
  split <;> exact u64_wrap _
theorem u64_nat (j : Nat) (h : (j : Int) < 65536) : U64 (j : Int) := ⟨j, rfl, by omega⟩
set_option maxRecDepth 100000 in
set_option maxHeartbeats 2000000 in
theorem dmask (B : Nat) (hbt : B = 64 ∨ B = 32 ∨ B = 7) (g : Nat) (w : World) (h : Deck g w) :
    Calls Try.prog 27 #[.pointer (some ⟨g, 0, none⟩), .int .i64 (B : Int)] w fun e w' => ∃ m : Nat, m ≠ 0 ∧ m < 2 ^ B ∧ e = .returned (.int .u64 (m : Int)) ∧ Turn g w w' := by
  go_enter Try.func27, Try.ntmps27
  go_wp2_with fail
  refine (dnext 3 (by omega) (by omega) g w h).mono ?_
  rintro e w1 ⟨i, hi, rfl, ht1⟩
  have hd1 := ht1.1
  have HT := Lib.hid ht1
  clear ht1 h
  go_upto_block 0 with fail
  go_cut [5] (fun s wx => ∃ z, s = .int .u64 z ∧ U64 z ∧ Turn g w wx)
  case first =>
    rcases (by omega : i = 0 ∨ i = 1 ∨ i = 2) with rfl | rfl | rfl
    · go_wp2_with fail
      refine (dnext 16 (by omega) (by omega) g w1 hd1).mono ?_
      rintro e w2 ⟨j, hj, rfl, ht2⟩
      have HT2 := Lib.hid (HT.out.trans ht2)
      have hwj : IntKind.u64.wrap (j : Int) = (j : Int) := by rw [IntKind.wrap_u64]; omega
      have HU := Lib.hid (u64_nat j (by omega))
      clear ht2 hj
      go_wp2_with fail
      go_meet
      exact ⟨_, rfl, HU.out, HT2.out⟩
    · go_wp2_with fail
      refine (dnext 65536 (by omega) (by omega) g w1 hd1).mono ?_
      rintro e w2 ⟨j, hj, rfl, ht2⟩
      have hd2 := ht2.1
      have HT2 := Lib.hid (HT.out.trans ht2)
      have hwj : IntKind.u64.wrap (j : Int) = (j : Int) := by rw [IntKind.wrap_u64]; omega
      clear ht2 hj
      go_wp2_with fail
      refine (dnext 65536 (by omega) (by omega) g w2 hd2).mono ?_
      rintro e w3 ⟨j2, hj2, rfl, ht3⟩
      have HT3 := Lib.hid (HT2.out.trans ht3)
      have hwj2 : IntKind.u64.wrap (j2 : Int) = (j2 : Int) := by rw [IntKind.wrap_u64]; omega
      clear ht3 hj2
      go_wp2_with fail
      go_meet
      exact ⟨_, rfl, u64_bits _ _ _, HT3.out⟩
    · go_wp2_with fail
      refine (dnext 65536 (by omega) (by omega) g w1 hd1).mono ?_
      rintro e w2 ⟨j, hj, rfl, ht2⟩
      have HT2 := Lib.hid (HT.out.trans ht2)
      have hwj : IntKind.u64.wrap (j : Int) = (j : Int) := by rw [IntKind.wrap_u64]; omega
      clear ht2 hj
      go_wp2_with fail
      go_meet
      exact ⟨_, rfl, u64_bits _ _ _, HT2.out⟩
  case rest =>
    obtain ⟨z, rfl, hz, ht⟩ := hcut
    rename World => w2
    have hd2 := ht.1
    have HT2 := Lib.hid ht
    clear ht hd1 HT
    have hpw : Hid (∀ i B : Nat, (i : Int) < (B : Int) → B ≤ 64 → IntKind.u64.wrap (2 ^ i) = ((2 ^ i : Nat) : Int) ∧ 2 ^ i ≠ 0 ∧ 2 ^ i < 2 ^ B) := Lib.hid fun i B h h2 => by
      have h3 : (2 : Nat) ^ i < 2 ^ B := (Nat.pow_lt_pow_iff_right (by omega)).2 (by omega)
      have h4 : (2 : Nat) ^ B ≤ 2 ^ 64 := Nat.pow_le_pow_right (by omega) h2
      have h5 : ((2 : Int) ^ i) = ((2 ^ i : Nat) : Int) := by push_cast; rfl
      have h6 := Nat.two_pow_pos i
      refine ⟨?_, by omega, h3⟩
      rw [h5, IntKind.wrap_u64]
      omega
    rcases hbt with rfl | rfl | rfl
    · obtain ⟨x, rfl, hx⟩ := hz
      have HX := Lib.hid hx
      clear hx
      by_cases hx0 : (x : Int) = 0
      · go_wp2_with fail
        refine (dnext 64 (by omega) (by omega) g w2 hd2).mono ?_
        rintro e w3 ⟨j, hj, rfl, ht3⟩
        have HT3 := Lib.hid (HT2.out.trans ht3)
        obtain ⟨hp1, hp2, hp3⟩ := hpw.out j 64 (by omega) (by omega)
        have HP := Lib.hid (And.intro hp2 hp3)
        have hj0 : (0 : Int) ≤ j := by omega
        clear ht3 hp2 hp3
        go_wp2
        go_ret
        exact ⟨2 ^ j, HP.out.1, HP.out.2, rfl, HT3.out⟩
      · go_wp2_with fail
        go_ret
        exact ⟨x, by omega, HX.out, rfl, HT2.out⟩
    · obtain ⟨x, hx, hxl⟩ := u64_and z hz 4294967295 (by omega)
      have hx' : bits .and .u64 z 4294967295 = (x : Int) := hx
      have HX := Lib.hid hxl
      clear hx hxl hz
      by_cases hx0 : (x : Int) = 0
      · go_wp2_with fail
        refine (dnext 32 (by omega) (by omega) g w2 hd2).mono ?_
        rintro e w3 ⟨j, hj, rfl, ht3⟩
        have HT3 := Lib.hid (HT2.out.trans ht3)
        obtain ⟨hp1, hp2, hp3⟩ := hpw.out j 32 (by omega) (by omega)
        have HP := Lib.hid (And.intro hp2 hp3)
        have hj0 : (0 : Int) ≤ j := by omega
        clear ht3 hp2 hp3
        go_wp2
        go_ret
        exact ⟨2 ^ j, HP.out.1, HP.out.2, rfl, HT3.out⟩
      · go_wp2_with fail
        go_ret
        exact ⟨x, by omega, by have := HX.out; omega, rfl, HT2.out⟩
    · obtain ⟨x, hx, hxl⟩ := u64_and z hz 127 (by omega)
      have hx' : bits .and .u64 z 127 = (x : Int) := hx
      have HX := Lib.hid hxl
      clear hx hxl hz
      by_cases hx0 : (x : Int) = 0
      · go_wp2_with fail
        refine (dnext 7 (by omega) (by omega) g w2 hd2).mono ?_
        rintro e w3 ⟨j, hj, rfl, ht3⟩
        have HT3 := Lib.hid (HT2.out.trans ht3)
        obtain ⟨hp1, hp2, hp3⟩ := hpw.out j 7 (by omega) (by omega)
        have HP := Lib.hid (And.intro hp2 hp3)
        have hj0 : (0 : Int) ≤ j := by omega
        clear ht3 hp2 hp3
        go_wp2
        go_ret
        exact ⟨2 ^ j, HP.out.1, HP.out.2, rfl, HT3.out⟩
      · go_wp2_with fail
        go_ret
        exact ⟨x, by omega, by have := HX.out; omega, rfl, HT2.out⟩
set_option linter.unusedVariables false in
set_option maxRecDepth 100000 in
set_option maxHeartbeats 4000000 in
theorem dpred (g : Nat) (w : World) (h : Deck g w) :
    Calls Try.prog 14 #[.pointer (some ⟨g, 0, none⟩), .bool true] w fun e w' => ∃ p : Prd, pok p ∧ p.mask < 18446744073709551616 ∧ e = .returned (pv p) ∧ Turn g w w' := by
  go_enter Try.func14, Try.ntmps14
  go_wp2_with fail
  refine (drange 1 7 (by omega) (by omega) (by omega) g _ (h.alloc _)).mono ?_
  rintro e w1 ⟨k, ⟨hk1, hk7⟩, rfl, ht1⟩
  have hd1 := ht1.1
  have hR1 : PRow w1 w.heap.size 0 0 0 0 [] 0 := PRow.of_zero (ht1.2.2 _ _ _ (by have := h.lt; omega) (Whole.here w _ _))
  have hT1 : Turn g w w1 := ⟨hd1, ((Below.refl g w).alloc (Nat.le_of_lt h.lt) _).trans ht1.2.1, (Oth.alloc g w _).trans ht1.2.2⟩
  have hRP : w.heap.size < w1.heap.size := hR1.lt
  have hgR : g < w.heap.size := h.lt
  have H1 := Lib.hid hR1
  have HT1 := Lib.hid hT1
  clear ht1 h hR1 hT1
  rcases (by omega : k = 1 ∨ k = 2 ∨ k = 3 ∨ k = 4 ∨ k = 5 ∨ k = 6 ∨ k = 7) with rfl | rfl | rfl | rfl | rfl | rfl | rfl
  · have hP1 : PRow (w1.alloc _) w1.heap.size 1 0 0 0 [] 0 := PRow.of_zero (Whole.here w1 _ _)
    have HA : Hid (∀ o, Turn g w (w1.alloc o)) := Lib.hid fun o => HT1.out.trans ⟨hd1.alloc o, (Below.refl g w1).alloc (by omega) o, Oth.alloc g w1 o⟩
    have HP1 := Lib.hid hP1
    clear hP1
    go_wp2_with fail
    refine (dmask 64 (by simp) g _ (hd1.alloc _)).mono ?_
    rintro e w2 ⟨m, hm0, hm1, rfl, ht2⟩
    have hP2 : PRow w2 w1.heap.size 1 0 0 0 [] 0 := ht2.2.2 _ _ _ (by omega) HP1.out
    have hR2 : PRow w2 w.heap.size 0 0 0 0 [] 0 := ht2.2.2 _ _ _ (by omega) (H1.out.alloc _)
    have HT2 := Lib.hid ((HA.out _).trans ht2)
    obtain ⟨c0, c1, c2, c3, c4, c5⟩ := hP2.cells
    have f1 := hP2.frozen 1
    have HPf := Lib.hid (hP2.set1 (m : Int))
    have HRf := Lib.hid (hR2.far (a := ⟨w1.heap.size, 1, none⟩) (by show w.heap.size ≠ w1.heap.size; omega) (.int .u64 (m : Int)))
    have HTf := Lib.hid ((HT2.out).from (w3 := (w2.setCell ⟨w1.heap.size, 1, none⟩ (.int .u64 (m : Int))).setRow w.heap.size (prow 1 (m : Int) 0 0 [] 0)) hgR (below_setRow ((Below.refl _ _).setCell (p := ⟨w1.heap.size, 1, none⟩) (by show w.heap.size ≤ w1.heap.size; omega) (.int .u64 (m : Int))) (Nat.le_refl _) _))
    have HK : Hid (pok ⟨1, m, 0, 0, [], 0⟩) := Lib.hid (by unfold pok; simp <;> omega)
    clear hP2 hR2 ht2 HA HP1 H1 HT1
    go_wp2_with (first
      | (with_reducible refine wpList_load_prd rfl _ rfl (g := w1.heap.size) rfl HPf.out ?_)
      | (with_reducible refine wpList_store_prd rfl _ _ rfl (g := w.heap.size) rfl rfl HRf.out ?_))
    refine bodyPost_ret (results_prd (g := w.heap.size) Try.results14 _ rfl (Whole.setRow HRf.out _)) rfl ?_
    exact ⟨⟨1, m, 0, 0, [], 0⟩, HK.out, by have := hm1; simp at this ⊢ <;> omega, by rw [pv_row] <;> rfl, HTf.out⟩
  · have hP1 : PRow (w1.alloc _) w1.heap.size 2 0 0 0 [] 0 := PRow.of_zero (Whole.here w1 _ _)
    have HA : Hid (∀ o, Turn g w (w1.alloc o)) := Lib.hid fun o => HT1.out.trans ⟨hd1.alloc o, (Below.refl g w1).alloc (by omega) o, Oth.alloc g w1 o⟩
    have HP1 := Lib.hid hP1
    clear hP1
    go_wp2_with fail
    refine (dmask 32 (by simp) g _ (hd1.alloc _)).mono ?_
    rintro e w2 ⟨m, hm0, hm1, rfl, ht2⟩
    have hP2 : PRow w2 w1.heap.size 2 0 0 0 [] 0 := ht2.2.2 _ _ _ (by omega) HP1.out
    have hR2 : PRow w2 w.heap.size 0 0 0 0 [] 0 := ht2.2.2 _ _ _ (by omega) (H1.out.alloc _)
    have HT2 := Lib.hid ((HA.out _).trans ht2)
    obtain ⟨c0, c1, c2, c3, c4, c5⟩ := hP2.cells
    have f1 := hP2.frozen 1
    have HPf := Lib.hid (hP2.set1 (m : Int))
    have HRf := Lib.hid (hR2.far (a := ⟨w1.heap.size, 1, none⟩) (by show w.heap.size ≠ w1.heap.size; omega) (.int .u64 (m : Int)))
    have HTf := Lib.hid ((HT2.out).from (w3 := (w2.setCell ⟨w1.heap.size, 1, none⟩ (.int .u64 (m : Int))).setRow w.heap.size (prow 2 (m : Int) 0 0 [] 0)) hgR (below_setRow ((Below.refl _ _).setCell (p := ⟨w1.heap.size, 1, none⟩) (by show w.heap.size ≤ w1.heap.size; omega) (.int .u64 (m : Int))) (Nat.le_refl _) _))
    have HK : Hid (pok ⟨2, m, 0, 0, [], 0⟩) := Lib.hid (by unfold pok; simp <;> omega)
    clear hP2 hR2 ht2 HA HP1 H1 HT1
    go_wp2_with (first
      | (with_reducible refine wpList_load_prd rfl _ rfl (g := w1.heap.size) rfl HPf.out ?_)
      | (with_reducible refine wpList_store_prd rfl _ _ rfl (g := w.heap.size) rfl rfl HRf.out ?_))
    refine bodyPost_ret (results_prd (g := w.heap.size) Try.results14 _ rfl (Whole.setRow HRf.out _)) rfl ?_
    exact ⟨⟨2, m, 0, 0, [], 0⟩, HK.out, by have := hm1; simp at this ⊢ <;> omega, by rw [pv_row] <;> rfl, HTf.out⟩
  · have hP1 : PRow (w1.alloc _) w1.heap.size 3 0 0 0 [] 0 := PRow.of_zero (Whole.here w1 _ _)
    have HA : Hid (∀ o, Turn g w (w1.alloc o)) := Lib.hid fun o => HT1.out.trans ⟨hd1.alloc o, (Below.refl g w1).alloc (by omega) o, Oth.alloc g w1 o⟩
    have HP1 := Lib.hid hP1
    clear hP1
    go_wp2_with fail
    refine (dmask 7 (by simp) g _ (hd1.alloc _)).mono ?_
    rintro e w2 ⟨m, hm0, hm1, rfl, ht2⟩
    have hP2 : PRow w2 w1.heap.size 3 0 0 0 [] 0 := ht2.2.2 _ _ _ (by omega) HP1.out
    have hR2 : PRow w2 w.heap.size 0 0 0 0 [] 0 := ht2.2.2 _ _ _ (by omega) (H1.out.alloc _)
    have HT2 := Lib.hid ((HA.out _).trans ht2)
    obtain ⟨c0, c1, c2, c3, c4, c5⟩ := hP2.cells
    have f1 := hP2.frozen 1
    have HPf := Lib.hid (hP2.set1 (m : Int))
    have HRf := Lib.hid (hR2.far (a := ⟨w1.heap.size, 1, none⟩) (by show w.heap.size ≠ w1.heap.size; omega) (.int .u64 (m : Int)))
    have HTf := Lib.hid ((HT2.out).from (w3 := (w2.setCell ⟨w1.heap.size, 1, none⟩ (.int .u64 (m : Int))).setRow w.heap.size (prow 3 (m : Int) 0 0 [] 0)) hgR (below_setRow ((Below.refl _ _).setCell (p := ⟨w1.heap.size, 1, none⟩) (by show w.heap.size ≤ w1.heap.size; omega) (.int .u64 (m : Int))) (Nat.le_refl _) _))
    have HK : Hid (pok ⟨3, m, 0, 0, [], 0⟩) := Lib.hid (by unfold pok; simp <;> omega)
    clear hP2 hR2 ht2 HA HP1 H1 HT1
    go_wp2_with (first
      | (with_reducible refine wpList_load_prd rfl _ rfl (g := w1.heap.size) rfl HPf.out ?_)
      | (with_reducible refine wpList_store_prd rfl _ _ rfl (g := w.heap.size) rfl rfl HRf.out ?_))
    refine bodyPost_ret (results_prd (g := w.heap.size) Try.results14 _ rfl (Whole.setRow HRf.out _)) rfl ?_
    exact ⟨⟨3, m, 0, 0, [], 0⟩, HK.out, by have := hm1; simp at this ⊢ <;> omega, by rw [pv_row] <;> rfl, HTf.out⟩
  · have hP1 : PRow (w1.alloc _) w1.heap.size 4 0 0 0 [] 0 := PRow.of_zero (Whole.here w1 _ _)
    have HA : Hid (∀ o, Turn g w (w1.alloc o)) := Lib.hid fun o => HT1.out.trans ⟨hd1.alloc o, (Below.refl g w1).alloc (by omega) o, Oth.alloc g w1 o⟩
    have HP1 := Lib.hid hP1
    clear hP1
    go_wp2_with fail
    refine (dminute g _ (hd1.alloc _)).mono ?_
    rintro e w2 ⟨a, ⟨ha0, ha1⟩, rfl, ht2⟩
    have hP2 : PRow w2 w1.heap.size 4 0 0 0 [] 0 := ht2.2.2 _ _ _ (by omega) HP1.out
    have hR2 : PRow w2 w.heap.size 0 0 0 0 [] 0 := ht2.2.2 _ _ _ (by omega) (H1.out.alloc _)
    have hd2 := ht2.1
    have HT2 := Lib.hid ((HA.out _).trans ht2)
    have HP2 := Lib.hid hP2
    have HR2 := Lib.hid hR2
    clear hP2 hR2 ht2 HA HP1 H1 HT1
    go_wp2_with fail
    refine (dminute g w2 hd2).mono ?_
    rintro e w3 ⟨b, ⟨hb0, hb1⟩, rfl, ht3⟩
    have hP3 : PRow w3 w1.heap.size 4 0 0 0 [] 0 := ht3.2.2 _ _ _ (by omega) HP2.out
    have hR3 : PRow w3 w.heap.size 0 0 0 0 [] 0 := ht3.2.2 _ _ _ (by omega) HR2.out
    have HT3 := Lib.hid (HT2.out.trans ht3)
    clear ht3 HT2 HP2 HR2 hd2
    rcases Int.lt_trichotomy a b with hab | hab | hab
    · have hle := hab
      obtain ⟨c0, c1, c2, c3, c4, c5⟩ := hP3.cells
      have f2 := hP3.frozen 2
      have f3 := hP3.frozen 3
      have HPf := Lib.hid ((hP3.set2 a).set3 b)
      have HRf := Lib.hid ((hR3.far (a := ⟨w1.heap.size, 2, none⟩) (by show w.heap.size ≠ w1.heap.size; omega) (.int .i64 a)).far (a := ⟨w1.heap.size, 3, none⟩) (by show w.heap.size ≠ w1.heap.size; omega) (.int .i64 b))
      have HTf := Lib.hid ((HT3.out).from (w3 := ((w3.setCell ⟨w1.heap.size, 2, none⟩ (.int .i64 a)).setCell ⟨w1.heap.size, 3, none⟩ (.int .i64 b)).setRow w.heap.size (prow 4 0 a b [] 0)) hgR (below_setRow (((Below.refl _ _).setCell (p := ⟨w1.heap.size, 2, none⟩) (by show w.heap.size ≤ w1.heap.size; omega) (.int .i64 a)).setCell (p := ⟨w1.heap.size, 3, none⟩) (by show w.heap.size ≤ w1.heap.size; omega) (.int .i64 b)) (Nat.le_refl _) _))
      have HK : Hid (pok ⟨4, 0, a, b, [], 0⟩) := Lib.hid (by unfold pok; simp <;> omega)
      clear hP3 hR3
      go_wp2_with (first
        | (with_reducible refine wpList_load_prd rfl _ rfl (g := w1.heap.size) rfl HPf.out ?_)
        | (with_reducible refine wpList_store_prd rfl _ _ rfl (g := w.heap.size) rfl rfl HRf.out ?_))
      refine bodyPost_ret (results_prd (g := w.heap.size) Try.results14 _ rfl (Whole.setRow HRf.out _)) rfl ?_
      exact ⟨⟨4, 0, a, b, [], 0⟩, HK.out, by simp, by rw [pv_row] <;> rfl, HTf.out⟩
    · subst hab
      obtain ⟨c0, c1, c2, c3, c4, c5⟩ := hP3.cells
      have f2 := hP3.frozen 2
      have f3 := hP3.frozen 3
      have HPf := Lib.hid ((hP3.set2 a).set3 a)
      have HRf := Lib.hid ((hR3.far (a := ⟨w1.heap.size, 2, none⟩) (by show w.heap.size ≠ w1.heap.size; omega) (.int .i64 a)).far (a := ⟨w1.heap.size, 3, none⟩) (by show w.heap.size ≠ w1.heap.size; omega) (.int .i64 a))
      have HTf := Lib.hid ((HT3.out).from (w3 := ((w3.setCell ⟨w1.heap.size, 2, none⟩ (.int .i64 a)).setCell ⟨w1.heap.size, 3, none⟩ (.int .i64 a)).setRow w.heap.size (prow 4 0 a a [] 0)) hgR (below_setRow (((Below.refl _ _).setCell (p := ⟨w1.heap.size, 2, none⟩) (by show w.heap.size ≤ w1.heap.size; omega) (.int .i64 a)).setCell (p := ⟨w1.heap.size, 3, none⟩) (by show w.heap.size ≤ w1.heap.size; omega) (.int .i64 a)) (Nat.le_refl _) _))
      have HK : Hid (pok ⟨4, 0, a, a, [], 0⟩) := Lib.hid (by unfold pok; simp <;> omega)
      clear hP3 hR3
      go_wp2_with (first
        | (with_reducible refine wpList_load_prd rfl _ rfl (g := w1.heap.size) rfl HPf.out ?_)
        | (with_reducible refine wpList_store_prd rfl _ _ rfl (g := w.heap.size) rfl rfl HRf.out ?_))
      refine bodyPost_ret (results_prd (g := w.heap.size) Try.results14 _ rfl (Whole.setRow HRf.out _)) rfl ?_
      exact ⟨⟨4, 0, a, a, [], 0⟩, HK.out, by simp, by rw [pv_row] <;> rfl, HTf.out⟩
    · have hle := hab
      obtain ⟨c0, c1, c2, c3, c4, c5⟩ := hP3.cells
      have f2 := hP3.frozen 2
      have f3 := hP3.frozen 3
      have HPf := Lib.hid ((hP3.set2 b).set3 a)
      have HRf := Lib.hid ((hR3.far (a := ⟨w1.heap.size, 2, none⟩) (by show w.heap.size ≠ w1.heap.size; omega) (.int .i64 b)).far (a := ⟨w1.heap.size, 3, none⟩) (by show w.heap.size ≠ w1.heap.size; omega) (.int .i64 a))
      have HTf := Lib.hid ((HT3.out).from (w3 := ((w3.setCell ⟨w1.heap.size, 2, none⟩ (.int .i64 b)).setCell ⟨w1.heap.size, 3, none⟩ (.int .i64 a)).setRow w.heap.size (prow 4 0 b a [] 0)) hgR (below_setRow (((Below.refl _ _).setCell (p := ⟨w1.heap.size, 2, none⟩) (by show w.heap.size ≤ w1.heap.size; omega) (.int .i64 b)).setCell (p := ⟨w1.heap.size, 3, none⟩) (by show w.heap.size ≤ w1.heap.size; omega) (.int .i64 a)) (Nat.le_refl _) _))
      have HK : Hid (pok ⟨4, 0, b, a, [], 0⟩) := Lib.hid (by unfold pok; simp <;> omega)
      clear hP3 hR3
      go_wp2_with (first
        | (with_reducible refine wpList_load_prd rfl _ rfl (g := w1.heap.size) rfl HPf.out ?_)
        | (with_reducible refine wpList_store_prd rfl _ _ rfl (g := w.heap.size) rfl rfl HRf.out ?_))
      refine bodyPost_ret (results_prd (g := w.heap.size) Try.results14 _ rfl (Whole.setRow HRf.out _)) rfl ?_
      exact ⟨⟨4, 0, b, a, [], 0⟩, HK.out, by simp, by rw [pv_row] <;> rfl, HTf.out⟩
  · have hP1 : PRow (w1.alloc _) w1.heap.size 5 0 0 0 [] 0 := PRow.of_zero (Whole.here w1 _ _)
    have HA : Hid (∀ o, Turn g w (w1.alloc o)) := Lib.hid fun o => HT1.out.trans ⟨hd1.alloc o, (Below.refl g w1).alloc (by omega) o, Oth.alloc g w1 o⟩
    have HP1 := Lib.hid hP1
    clear hP1
    go_wp2_with fail
    refine (dnext 1440 (by omega) (by omega) g _ (hd1.alloc _)).mono ?_
    rintro e w2 ⟨a, ha1, rfl, ht2⟩
    have hP2 : PRow w2 w1.heap.size 5 0 0 0 [] 0 := ht2.2.2 _ _ _ (by omega) HP1.out
    have hR2 : PRow w2 w.heap.size 0 0 0 0 [] 0 := ht2.2.2 _ _ _ (by omega) (H1.out.alloc _)
    have hd2 := ht2.1
    have HT2 := Lib.hid ((HA.out _).trans ht2)
    have HP2 := Lib.hid hP2
    have HR2 := Lib.hid hR2
    clear hP2 hR2 ht2 HA HP1 H1 HT1
    go_wp2_with fail
    refine (dnext 1440 (by omega) (by omega) g w2 hd2).mono ?_
    rintro e w3 ⟨b, hb1, rfl, ht3⟩
    have hP3 : PRow w3 w1.heap.size 5 0 0 0 [] 0 := ht3.2.2 _ _ _ (by omega) HP2.out
    have hR3 : PRow w3 w.heap.size 0 0 0 0 [] 0 := ht3.2.2 _ _ _ (by omega) HR2.out
    have HT3 := Lib.hid (HT2.out.trans ht3)
    have hd3 := ht3.1
    clear ht3 HT2 HP2 HR2 hd2
    obtain ⟨c0, c1, c2, c3, c4, c5⟩ := hP3.cells
    have f2 := hP3.frozen 2
    have f3 := hP3.frozen 3
    have HP3 := Lib.hid ((hP3.set2 (a : Int)).set3 (b : Int))
    have HR3 := Lib.hid ((hR3.far (a := ⟨w1.heap.size, 2, none⟩) (by show w.heap.size ≠ w1.heap.size; omega) (.int .i64 (a : Int))).far (a := ⟨w1.heap.size, 3, none⟩) (by show w.heap.size ≠ w1.heap.size; omega) (.int .i64 (b : Int)))
    have HB3 := Lib.hid (((Below.refl w.heap.size w3).setCell (p := ⟨w1.heap.size, 2, none⟩) (by show w.heap.size ≤ w1.heap.size; omega) (.int .i64 (a : Int))).setCell (p := ⟨w1.heap.size, 3, none⟩) (by show w.heap.size ≤ w1.heap.size; omega) (.int .i64 (b : Int)))
    have HT4 := Lib.hid (HT3.out.from hgR HB3.out)
    clear hP3 hR3 HB3 hd3 HT3
    go_wp2_with fail
    refine (dnext 3 (by omega) (by omega) g _ HT4.out.1).mono ?_
    rintro e w4 ⟨i, hi, rfl, ht4⟩
    clear c0 c1 c2 c3 c4 c5 f2 f3
    have hP4 : PRow w4 w1.heap.size 5 0 a b [] 0 := ht4.2.2 _ _ _ (by omega) HP3.out
    have hR4 : PRow w4 w.heap.size 0 0 0 0 [] 0 := ht4.2.2 _ _ _ (by omega) HR3.out
    have HT5 := Lib.hid (HT4.out.trans ht4)
    have hd4 := ht4.1
    clear ht4 HT4 HP3 HR3
    by_cases hi0 : i = 0
    · subst hi0
      obtain ⟨c0, c1, c2, c3, c4, c5⟩ := hP4.cells
      have HP4 := Lib.hid hP4
      have HR4 := Lib.hid hR4
      have HDC : Hid (∀ W i, Turn g w4.drew W → ((i : Nat) : Int) < 3 → W.cell? ⟨w1.heap.size, 2, none⟩ = some (.int .i64 (a : Int)) ∧ PRow W w1.heap.size 5 0 a b [] 0 ∧ PRow W w.heap.size 0 0 0 0 [] 0 ∧ IntKind.i64.wrap ((a : Int) + i) = (a : Int) + i ∧ IntKind.i64.wrap ((a : Int) + i + 1440) = (a : Int) + i + 1440 ∧ IntKind.i64.wrap ((a : Int) + i + 1440 - 1) = (a : Int) + i + 1440 - 1 ∧ W.frozen? ⟨w1.heap.size, 3, none⟩ = false ∧ W.cell? ⟨w1.heap.size, 3, none⟩ = some (.int .i64 (b : Int))) := Lib.hid fun W i hW hi => by
        have hp := hW.2.2 _ _ _ (by omega) (Whole.drew HP4.out)
        refine ⟨PRow.cells hp |>.2.2.1, hp, hW.2.2 _ _ _ (by omega) (Whole.drew HR4.out), ?_, ?_, ?_, hp.frozen 3, PRow.cells hp |>.2.2.2.1⟩ <;> (rw [IntKind.wrap_i64]; omega)
      clear hP4 hR4
      go_wp2_with fail
      go_region_held3 (fun W => W.cell? ⟨w1.heap.size, 2, none⟩ = some (.int .i64 (a : Int))) (first | exact c2 | assumption | exact hcx.1 | exact (hcx.2.1.set3 _).cells.2.2.1 | go_keep)
        (first | (go_at_call 20; refine (dnext 3 (by omega) (by omega) g _ hd4.drew).mono ?_; rintro e w5 ⟨i, hi, rfl, ht5⟩; have hcx := HDC.out _ i ht5 hi; obtain ⟨-, -, -, hw1, hw2, hw3, hf3, hc3⟩ := id hcx))
      obtain ⟨z, hz⟩ : ∃ z, z = ((a : Int) + i + 1440 - 1).tmod 1440 := ⟨_, rfl⟩
      have hz0 : 0 ≤ z ∧ z < 1440 := by rw [hz, Int.tmod_eq_emod_of_nonneg (by omega)]; omega
      rw [← hz]
      have hP6 : PRow (w5.setCell ⟨w1.heap.size, 3, none⟩ (.int .i64 z)) w1.heap.size 5 0 a z [] 0 := hcx.2.1.set3 z
      have hR6 : PRow (w5.setCell ⟨w1.heap.size, 3, none⟩ (.int .i64 z)) w.heap.size 0 0 0 0 [] 0 := hcx.2.2.1.far (a := ⟨w1.heap.size, 3, none⟩) (by show w.heap.size ≠ w1.heap.size; omega) (.int .i64 z)
      have HT5d : Turn g w w4.drew := ⟨hd4.drew, HT5.out.2.1.drew, fun b t cs h k => (HT5.out.2.2 b t cs h k).drew⟩
      have HT6 : Turn g w (w5.setCell ⟨w1.heap.size, 3, none⟩ (.int .i64 z)) := (HT5d.trans ht5).from hgR ((Below.refl _ _).setCell (p := ⟨w1.heap.size, 3, none⟩) (by show w.heap.size ≤ w1.heap.size; omega) (.int .i64 z))
      clear hcx HDC hf3 hc3 ht5 HT5d hw1 hw2 hw3 HT5 hd4 HP4 HR4 c0 c1 c2 c3 c4 c5 hz hi
      generalize w5.setCell ⟨w1.heap.size, 3, none⟩ (.int .i64 z) = w6 at hP6 hR6 HT6 ⊢
      obtain ⟨c0, c1, c2, c3, c4, c5⟩ := hP6.cells
      have HPf := Lib.hid hP6
      have HRf := Lib.hid hR6
      have HTf := Lib.hid ((HT6).from (w3 := w6.setRow w.heap.size (prow 5 0 (a : Int) z [] 0)) hgR (below_setRow (Below.refl _ _) (Nat.le_refl _) _))
      have HK : Hid (pok ⟨5, 0, (a : Int), z, [], 0⟩) := Lib.hid (by unfold pok; simp <;> omega)
      clear hP6 hR6
      go_wp2_with (first
        | (with_reducible refine wpList_load_prd rfl _ rfl (g := w1.heap.size) rfl HPf.out ?_)
        | (with_reducible refine wpList_store_prd rfl _ _ rfl (g := w.heap.size) rfl rfl HRf.out ?_))
      refine bodyPost_ret (results_prd (g := w.heap.size) Try.results14 _ rfl (Whole.setRow HRf.out _)) rfl ?_
      exact ⟨⟨5, 0, (a : Int), z, [], 0⟩, HK.out, by simp, by rw [pv_row] <;> rfl, HTf.out⟩
    · obtain ⟨c0, c1, c2, c3, c4, c5⟩ := hP4.cells
      have HPf := Lib.hid hP4
      have HRf := Lib.hid hR4
      have HTf := Lib.hid ((HT5.out).from (w3 := w4.setRow w.heap.size (prow 5 0 (a : Int) (b : Int) [] 0)) hgR (below_setRow (Below.refl _ _) (Nat.le_refl _) _))
      have HK : Hid (pok ⟨5, 0, (a : Int), (b : Int), [], 0⟩) := Lib.hid (by unfold pok; simp <;> omega)
      clear hP4 hR4
      go_wp2_with (first
        | (with_reducible refine wpList_load_prd rfl _ rfl (g := w1.heap.size) rfl HPf.out ?_)
        | (with_reducible refine wpList_store_prd rfl _ _ rfl (g := w.heap.size) rfl rfl HRf.out ?_))
      refine bodyPost_ret (results_prd (g := w.heap.size) Try.results14 _ rfl (Whole.setRow HRf.out _)) rfl ?_
      exact ⟨⟨5, 0, (a : Int), (b : Int), [], 0⟩, HK.out, by simp, by rw [pv_row] <;> rfl, HTf.out⟩
  · have hP1 : PRow (w1.alloc _) w1.heap.size 6 0 0 0 [] 0 := PRow.of_zero (Whole.here w1 _ _)
    have HA : Hid (∀ o, Turn g w (w1.alloc o)) := Lib.hid fun o => HT1.out.trans ⟨hd1.alloc o, (Below.refl g w1).alloc (by omega) o, Oth.alloc g w1 o⟩
    have HP1 := Lib.hid hP1
    clear hP1
    go_wp2_with fail
    refine (dnam g _ (hd1.alloc _)).mono ?_
    rintro e w2 ⟨s, hs, rfl, ht2⟩
    have hP2 : PRow w2 w1.heap.size 6 0 0 0 [] 0 := ht2.2.2 _ _ _ (by omega) HP1.out
    have hR2 : PRow w2 w.heap.size 0 0 0 0 [] 0 := ht2.2.2 _ _ _ (by omega) (H1.out.alloc _)
    have HT2 := Lib.hid ((HA.out _).trans ht2)
    obtain ⟨c0, c1, c2, c3, c4, c5⟩ := hP2.cells
    have f4 := hP2.frozen 4
    have HPf := Lib.hid (hP2.set4 s)
    have HRf := Lib.hid (hR2.far (a := ⟨w1.heap.size, 4, none⟩) (by show w.heap.size ≠ w1.heap.size; omega) (.string (sof s)))
    have HTf := Lib.hid ((HT2.out).from (w3 := (w2.setCell ⟨w1.heap.size, 4, none⟩ (.string (sof s))).setRow w.heap.size (prow 6 0 0 0 s 0)) hgR (below_setRow ((Below.refl _ _).setCell (p := ⟨w1.heap.size, 4, none⟩) (by show w.heap.size ≤ w1.heap.size; omega) (.string (sof s))) (Nat.le_refl _) _))
    have HK : Hid (pok ⟨6, 0, 0, 0, s, 0⟩) := Lib.hid (by unfold pok; simp; exact hs)
    clear hP2 hR2 ht2 HA HP1 H1 HT1 hs
    go_wp2_with (first
      | (with_reducible refine wpList_load_prd rfl _ rfl (g := w1.heap.size) rfl HPf.out ?_)
      | (with_reducible refine wpList_store_prd rfl _ _ rfl (g := w.heap.size) rfl rfl HRf.out ?_))
    refine bodyPost_ret (results_prd (g := w.heap.size) Try.results14 _ rfl (Whole.setRow HRf.out _)) rfl ?_
    exact ⟨⟨6, 0, 0, 0, s, 0⟩, HK.out, by simp, by rw [pv_row] <;> rfl, HTf.out⟩
  · have hP1 : PRow (w1.alloc _) w1.heap.size 7 0 0 0 [] 0 := PRow.of_zero (Whole.here w1 _ _)
    have HA : Hid (∀ o, Turn g w (w1.alloc o)) := Lib.hid fun o => HT1.out.trans ⟨hd1.alloc o, (Below.refl g w1).alloc (by omega) o, Oth.alloc g w1 o⟩
    have HP1 := Lib.hid hP1
    clear hP1
    go_wp2_with fail
    refine (dupto 1000000 (by omega) (by omega) g _ (hd1.alloc _)).mono ?_
    rintro e w2 ⟨n, ⟨hn0, hn1⟩, rfl, ht2⟩
    have hP2 : PRow w2 w1.heap.size 7 0 0 0 [] 0 := ht2.2.2 _ _ _ (by omega) HP1.out
    have hR2 : PRow w2 w.heap.size 0 0 0 0 [] 0 := ht2.2.2 _ _ _ (by omega) (H1.out.alloc _)
    have HT2 := Lib.hid ((HA.out _).trans ht2)
    obtain ⟨c0, c1, c2, c3, c4, c5⟩ := hP2.cells
    have f5 := hP2.frozen 5
    have HPf := Lib.hid (hP2.set5 n)
    have HRf := Lib.hid (hR2.far (a := ⟨w1.heap.size, 5, none⟩) (by show w.heap.size ≠ w1.heap.size; omega) (.int .i64 n))
    have HTf := Lib.hid ((HT2.out).from (w3 := (w2.setCell ⟨w1.heap.size, 5, none⟩ (.int .i64 n)).setRow w.heap.size (prow 7 0 0 0 [] n)) hgR (below_setRow ((Below.refl _ _).setCell (p := ⟨w1.heap.size, 5, none⟩) (by show w.heap.size ≤ w1.heap.size; omega) (.int .i64 n)) (Nat.le_refl _) _))
    have HK : Hid (pok ⟨7, 0, 0, 0, [], n⟩) := Lib.hid (by unfold pok; simp <;> omega)
    clear hP2 hR2 ht2 HA HP1 H1 HT1
    go_wp2_with (first
      | (with_reducible refine wpList_load_prd rfl _ rfl (g := w1.heap.size) rfl HPf.out ?_)
      | (with_reducible refine wpList_store_prd rfl _ _ rfl (g := w.heap.size) rfl rfl HRf.out ?_))
    refine bodyPost_ret (results_prd (g := w.heap.size) Try.results14 _ rfl (Whole.setRow HRf.out _)) rfl ?_
    exact ⟨⟨7, 0, 0, 0, [], n⟩, HK.out, by simp, by rw [pv_row] <;> rfl, HTf.out⟩
end Go.Proofs.Ytbbkjdckogcbgaa
namespace Go.Proofs.Ytbbkjdckogcbgaa
open Go Go.RowKit Sh Leaf

theorem CRow.of_zero {w : World} {g : Nat} (h : Whole w g 23 #[.int .i64 0, .int .i64 0, .int .i64 0, .string { data := #[] }]) : CRow w g 0 0 0 [] := by
  show Whole w g _ #[.int .i64 0, .int .i64 0, .int .i64 0, .string (sof [])]
  rw [sof_none]; exact h
set_option maxRecDepth 100000 in
set_option maxHeartbeats 1000000 in
theorem dctx (g : Nat) (w : World) (h : Deck g w) :
    Calls Try.prog 9 #[.pointer (some ⟨g, 0, none⟩)] w fun e w' => ∃ c, cok c ∧ e = .returned (cv c) ∧ Turn g w w' := by
  have hgl := h.lt
  have H0 : Hid (∀ o, Turn g w (w.alloc o)) := Lib.hid fun o => ⟨h.alloc o, (Below.refl g w).alloc (by omega) o, Oth.alloc g w o⟩
  have hd0 := fun o => h.alloc o
  have HR : Hid (CRow (w.alloc (.cells #[.int .i64 0, .int .i64 0, .int .i64 0, .string { data := #[] }] 23)) w.heap.size 0 0 0 []) := Lib.hid (CRow.of_zero (Whole.here _ _ _))
  clear h
  go_enter Try.func9, Try.ntmps9
  go_wp2_with fail
  refine (dnext 4 (by omega) (by omega) g _ (hd0 _)).mono ?_
  rintro e w1 ⟨i, hi, rfl, ht1⟩
  have hd1 := ht1.1
  have HT1 := Lib.hid ((H0.out _).trans ht1)
  have HR1 := Lib.hid (ht1.2.2 _ _ _ (by omega) HR.out)
  clear ht1 hd0 HR
  go_wp2_with fail
  refine (drange 1 21 (by omega) (by omega) (by omega) g _ hd1).mono ?_
  rintro e w2 ⟨z, ⟨hz0, hz1⟩, rfl, ht2⟩
  have hd2 := ht2.1
  have HT2 := Lib.hid (HT1.out.trans ht2)
  have HR2 := Lib.hid (ht2.2.2 _ _ _ (by omega) HR1.out)
  have hi3 : (i : Int) ≤ 3 := by omega
  have hm1 : (i : Int) * z ≤ 3 * 21 := Int.mul_le_mul hi3 hz1 (by omega) (by omega)
  have hm0 : 0 ≤ (i : Int) * z := Int.mul_nonneg (by omega) (by omega)
  obtain ⟨q, hq⟩ : ∃ q, q = (i : Int) * z := ⟨_, rfl⟩
  have hw1 : IntKind.i64.wrap ((i : Int) * z) = q := by rw [← hq, IntKind.wrap_i64]; rw [← hq] at hm0 hm1; omega
  rw [← hq] at hm0 hm1
  have HZ : Hid (0 ≤ q ∧ q ≤ 63) := Lib.hid ⟨hm0, by omega⟩
  clear ht2 hd1 HT1 HR1 hm0 hm1 hq hi3
  go_wp2_with fail
  refine (dnext 32 (by omega) (by omega) g _ hd2).mono ?_
  rintro e w3 ⟨j, hj, rfl, ht3⟩
  have hd3 := ht3.1
  have HT3 := Lib.hid (HT2.out.trans ht3)
  have HR3 := Lib.hid (ht3.2.2 _ _ _ (by omega) HR2.out)
  clear ht3 hd2 HT2 HR2
  go_wp2_with fail
  refine (dminute g _ hd3).mono ?_
  rintro e w4 ⟨m, ⟨hm0, hm1⟩, rfl, ht4⟩
  have hd4 := ht4.1
  have HT4 := Lib.hid (HT3.out.trans ht4)
  have HR4 := Lib.hid (ht4.2.2 _ _ _ (by omega) HR3.out)
  clear ht4 hd3 HT3 HR3
  go_wp2_with fail
  refine (dnam g _ hd4).mono ?_
  rintro e w5 ⟨s, hs, rfl, ht5⟩
  have HT5 := Lib.hid (HT4.out.trans ht5)
  have HR5 := Lib.hid (ht5.2.2 _ _ _ (by omega) HR4.out)
  have HTf := Lib.hid ((HT5.out).from (w3 := w5.setRow w.heap.size (crow q j m s)) hgl (below_setRow (Below.refl _ _) (Nat.le_refl _) _))
  clear ht5 hd4 HT4 HR4
  go_wp2_with (with_reducible refine wpList_store_ctx rfl _ _ rfl (g := w.heap.size) rfl rfl HR5.out ?_)
  refine bodyPost_ret (results_ctx (g := w.heap.size) Try.results9 _ rfl (Whole.setRow HR5.out _)) rfl ?_
  exact ⟨⟨q, j, m, s⟩, ⟨HZ.out, ⟨by show (0 : Int) ≤ (j : Int); omega, by show (j : Int) ≤ 31; omega⟩, ⟨hm0, hm1⟩, hs⟩, by rw [cv_row], HTf.out⟩
end Go.Proofs.Ytbbkjdckogcbgaa
