/-
  The deck: mask, Predicate.
  The deck's caveats.
  The reference's Same.
  The program's Firsts.
  The reference's Firsts.
  The reference's SamePredicates.
-/
import Derived.Deep.RegionHeld3
import Derived.Deep.DeepCutAuto
import Derived.Deep.CutBlock
import Derived.Test.YtodmfippjcfbbaaPk22
import Derived.Test.YtodmfippjcfbbaaPk8
import Derived.Test.YtodmfippjcfbbaaPk21
import Derived.Test.YtodmfippjcfbbaaPk3
namespace Go.Proofs.Ytodmfippjcfbbaa
open Go Go.RowKit Sh Leaf

theorem Turn.from {g : Nat} {w w2 w3 : World} (h : Turn g w w2) (hg : g < w.heap.size) (hb : Below w.heap.size w2 w3) : Turn g w w3 :=
  ⟨h.1.below hb hg, h.2.1.trans (hb.mono (Nat.le_of_lt hg)), ⟨fun b t cs hn _ hw => (hb.block b (lt_of_heap hw)).trans (h.2.2.oth b t cs hn hw), fun v hv => (hb.cell (p := ⟨g, 0, none⟩) hg).trans (h.2.2.zero v hv)⟩⟩
/-- z is a word of 64 bits. -/
def U64 (z : Int) : Prop := ∃ x : Nat, z = (x : Int) ∧ x < 18446744073709551616
theorem u64_and (z : Int) (hz : U64 z) (y : Nat) (hy : y < 18446744073709551616) : ∃ x : Nat, bits .and .u64 z (y : Int) = (x : Int) ∧ x ≤ y := by
  obtain ⟨x, rfl, hx⟩ := hz
  exact ⟨x &&& y, bits_and_u64_nat x y hx hy, Nat.and_le_right⟩
theorem u64_wrap (z : Int) : U64 (IntKind.u64.wrap z) := by
  rw [IntKind.wrap_u64]
  obtain ⟨x, hx⟩ := Int.eq_ofNat_of_zero_le (Int.emod_nonneg z (b := 18446744073709551616) (by omega))
  have := Int.emod_lt_of_pos z (b := 18446744073709551616) (by omega)
  exact ⟨x, hx, by omega⟩
theorem u64_bits (o : BinOp) (a b : Int) : U64 (bits o .u64 a b) := by
  unfold bits
  split <;> exact u64_wrap _
theorem u64_nat (j : Nat) (h : (j : Int) < 65536) : U64 (j : Int) := ⟨j, rfl, by omega⟩
set_option maxRecDepth 100000 in
set_option maxHeartbeats 2000000 in
theorem dmask (B : Nat) (hbt : B = 64 ∨ B = 32 ∨ B = 7) (g : Nat) (w : World) (h : Deck g w) :
    Calls Try.prog 28 #[.pointer (some ⟨g, 0, none⟩), .int .i64 (B : Int)] w fun e w' => ∃ m : Nat, m ≠ 0 ∧ m < 2 ^ B ∧ e = .returned (.int .u64 (m : Int)) ∧ Turn g w w' := by
  go_enter Try.func28, Try.ntmps28
  go_wp2_with fail
  refine (dnext 3 (by omega) (by omega) g w h).mono ?_
  rintro e w1 ⟨i, hi, rfl, ht1⟩
  have hd1 := ht1.1
  have HT := Lib.hid ht1
  clear ht1 h
  go_upto_block 0 with fail
  go_cut [5] (fun s wx => ∃ z, s = .int .u64 z ∧ U64 z ∧ Turn g w wx)
  case first =>
    rcases (by omega : i = 0 ∨ i = 1 ∨ i = 2) with rfl | rfl | rfl
    · go_wp2_with fail
      refine (dnext 16 (by omega) (by omega) g w1 hd1).mono ?_
      rintro e w2 ⟨j, hj, rfl, ht2⟩
      have HT2 := Lib.hid (HT.out.trans ht2)
      have hwj : IntKind.u64.wrap (j : Int) = (j : Int) := by rw [IntKind.wrap_u64]; omega
      have HU := Lib.hid (u64_nat j (by omega))
      clear ht2 hj
      go_wp2_with fail
      go_meet
      exact ⟨_, rfl, HU.out, HT2.out⟩
    · go_wp2_with fail
      refine (dnext 65536 (by omega) (by omega) g w1 hd1).mono ?_
      rintro e w2 ⟨j, hj, rfl, ht2⟩
      have hd2 := ht2.1
      have HT2 := Lib.hid (HT.out.trans ht2)
      have hwj : IntKind.u64.wrap (j : Int) = (j : Int) := by rw [IntKind.wrap_u64]; omega
      clear ht2 hj
      go_wp2_with fail
      refine (dnext 65536 (by omega) (by omega) g w2 hd2).mono ?_
      rintro e w3 ⟨j2, hj2, rfl, ht3⟩
      have HT3 := Lib.hid (HT2.out.trans ht3)
      have hwj2 : IntKind.u64.wrap (j2 : Int) = (j2 : Int) := by rw [IntKind.wrap_u64]; omega
      clear ht3 hj2
      go_wp2_with fail
      go_meet
      exact ⟨_, rfl, u64_bits _ _ _, HT3.out⟩
    · go_wp2_with fail
      refine (dnext 65536 (by omega) (by omega) g w1 hd1).mono ?_
      rintro e w2 ⟨j, hj, rfl, ht2⟩
      have HT2 := Lib.hid (HT.out.trans ht2)
      have hwj : IntKind.u64.wrap (j : Int) = (j : Int) := by rw [IntKind.wrap_u64]; omega
      clear ht2 hj
      go_wp2_with fail
      go_meet
      exact ⟨_, rfl, u64_bits _ _ _, HT2.out⟩
  case rest =>
    obtain ⟨z, rfl, hz, ht⟩ := hcut
    rename World => w2
    have hd2 := ht.1
    have HT2 := Lib.hid ht
    clear ht hd1 HT
    have hpw : Hid (∀ i B : Nat, (i : Int) < (B : Int) → B ≤ 64 → IntKind.u64.wrap (2 ^ i) = ((2 ^ i : Nat) : Int) ∧ 2 ^ i ≠ 0 ∧ 2 ^ i < 2 ^ B) := Lib.hid fun i B h h2 => by
      have h3 : (2 : Nat) ^ i < 2 ^ B := (Nat.pow_lt_pow_iff_right (by omega)).2 (by omega)
      have h4 : (2 : Nat) ^ B ≤ 2 ^ 64 := Nat.pow_le_pow_right (by omega) h2
      have h5 : ((2 : Int) ^ i) = ((2 ^ i : Nat) : Int) := by push_cast; rfl
      have h6 := Nat.two_pow_pos i
      refine ⟨?_, by omega, h3⟩
      rw [h5, IntKind.wrap_u64]
      omega
    rcases hbt with rfl | rfl | rfl
    · obtain ⟨x, rfl, hx⟩ := hz
      have HX := Lib.hid hx
      clear hx
      by_cases hx0 : (x : Int) = 0
      · go_wp2_with fail
        refine (dnext 64 (by omega) (by omega) g w2 hd2).mono ?_
        rintro e w3 ⟨j, hj, rfl, ht3⟩
        have HT3 := Lib.hid (HT2.out.trans ht3)
        obtain ⟨hp1, hp2, hp3⟩ := hpw.out j 64 (by omega) (by omega)
        have HP := Lib.hid (And.intro hp2 hp3)
        have hj0 : (0 : Int) ≤ j := by omega
        clear ht3 hp2 hp3
        go_wp2
        go_ret
        exact ⟨2 ^ j, HP.out.1, HP.out.2, rfl, HT3.out⟩
      · go_wp2_with fail
        go_ret
        exact ⟨x, by omega, HX.out, rfl, HT2.out⟩
    · obtain ⟨x, hx, hxl⟩ := u64_and z hz 4294967295 (by omega)
      have hx' : bits .and .u64 z 4294967295 = (x : Int) := hx
      have HX := Lib.hid hxl
      clear hx hxl hz
      by_cases hx0 : (x : Int) = 0
      · go_wp2_with fail
        refine (dnext 32 (by omega) (by omega) g w2 hd2).mono ?_
        rintro e w3 ⟨j, hj, rfl, ht3⟩
        have HT3 := Lib.hid (HT2.out.trans ht3)
        obtain ⟨hp1, hp2, hp3⟩ := hpw.out j 32 (by omega) (by omega)
        have HP := Lib.hid (And.intro hp2 hp3)
        have hj0 : (0 : Int) ≤ j := by omega
        clear ht3 hp2 hp3
        go_wp2
        go_ret
        exact ⟨2 ^ j, HP.out.1, HP.out.2, rfl, HT3.out⟩
      · go_wp2_with fail
        go_ret
        exact ⟨x, by omega, by have := HX.out; omega, rfl, HT2.out⟩
    · obtain ⟨x, hx, hxl⟩ := u64_and z hz 127 (by omega)
      have hx' : bits .and .u64 z 127 = (x : Int) := hx
      have HX := Lib.hid hxl
      clear hx hxl hz
      by_cases hx0 : (x : Int) = 0
      · go_wp2_with fail
        refine (dnext 7 (by omega) (by omega) g w2 hd2).mono ?_
        rintro e w3 ⟨j, hj, rfl, ht3⟩
        have HT3 := Lib.hid (HT2.out.trans ht3)
        obtain ⟨hp1, hp2, hp3⟩ := hpw.out j 7 (by omega) (by omega)
        have HP := Lib.hid (And.intro hp2 hp3)
        have hj0 : (0 : Int) ≤ j := by omega
        clear ht3 hp2 hp3
        go_wp2
        go_ret
        exact ⟨2 ^ j, HP.out.1, HP.out.2, rfl, HT3.out⟩
      · go_wp2_with fail
        go_ret
        exact ⟨x, by omega, by have := HX.out; omega, rfl, HT2.out⟩
set_option linter.unusedVariables false in
set_option maxRecDepth 100000 in
set_option maxHeartbeats 4000000 in
theorem dpred (g : Nat) (w : World) (h : Deck g w) :
    Calls Try.prog 17 #[.pointer (some ⟨g, 0, none⟩), .bool true] w fun e w' => ∃ p : Prd, pok p ∧ p.mask < 18446744073709551616 ∧ e = .returned (pv p) ∧ Turn g w w' := by
  go_enter Try.func17, Try.ntmps17
  go_wp2_with fail
  refine (drange 1 7 (by omega) (by omega) (by omega) g _ (h.alloc _)).mono ?_
  rintro e w1 ⟨k, ⟨hk1, hk7⟩, rfl, ht1⟩
  have hd1 := ht1.1
  have hR1 : PRow w1 w.heap.size 0 0 0 0 [] 0 := PRow.of_zero (ht1.2.2 _ _ _ (by have := h.lt; omega) (Whole.here w _ _))
  have hT1 : Turn g w w1 := ⟨hd1, ((Below.refl g w).alloc (Nat.le_of_lt h.lt) _).trans ht1.2.1, (Oth.alloc g w _).trans ht1.2.2⟩
  have hRP : w.heap.size < w1.heap.size := hR1.lt
  have hgR : g < w.heap.size := h.lt
  have H1 := Lib.hid hR1
  have HT1 := Lib.hid hT1
  clear ht1 h hR1 hT1
  rcases (by omega : k = 1 ∨ k = 2 ∨ k = 3 ∨ k = 4 ∨ k = 5 ∨ k = 6 ∨ k = 7) with rfl | rfl | rfl | rfl | rfl | rfl | rfl
  · have hP1 : PRow (w1.alloc _) w1.heap.size 1 0 0 0 [] 0 := PRow.of_zero (Whole.here w1 _ _)
    have HA : Hid (∀ o, Turn g w (w1.alloc o)) := Lib.hid fun o => HT1.out.trans ⟨hd1.alloc o, (Below.refl g w1).alloc (by omega) o, Oth.alloc g w1 o⟩
    have HP1 := Lib.hid hP1
    clear hP1
    go_wp2_with fail
    refine (dmask 64 (by simp) g _ (hd1.alloc _)).mono ?_
    rintro e w2 ⟨m, hm0, hm1, rfl, ht2⟩
    have hP2 : PRow w2 w1.heap.size 1 0 0 0 [] 0 := ht2.2.2 _ _ _ (by omega) HP1.out
    have hR2 : PRow w2 w.heap.size 0 0 0 0 [] 0 := ht2.2.2 _ _ _ (by omega) (H1.out.alloc _)
    have HT2 := Lib.hid ((HA.out _).trans ht2)
    obtain ⟨c0, c1, c2, c3, c4, c5⟩ := hP2.cells
    have f1 := hP2.frozen 1
    have HPf := Lib.hid (hP2.set1 (m : Int))
    have HRf := Lib.hid (hR2.far (a := ⟨w1.heap.size, 1, none⟩) (by show w.heap.size ≠ w1.heap.size; omega) (.int .u64 (m : Int)))
    have HTf := Lib.hid ((HT2.out).from (w3 := (w2.setCell ⟨w1.heap.size, 1, none⟩ (.int .u64 (m : Int))).setRow w.heap.size (prow 1 (m : Int) 0 0 [] 0)) hgR (below_setRow ((Below.refl _ _).setCell (p := ⟨w1.heap.size, 1, none⟩) (by show w.heap.size ≤ w1.heap.size; omega) (.int .u64 (m : Int))) (Nat.le_refl _) _))
    have HK : Hid (pok ⟨1, m, 0, 0, [], 0⟩) := Lib.hid (by unfold pok; simp <;> omega)
    clear hP2 hR2 ht2 HA HP1 H1 HT1
    go_wp2_with (first
      | (with_reducible refine wpList_load_prd rfl _ rfl (g := w1.heap.size) rfl HPf.out ?_)
      | (with_reducible refine wpList_store_prd rfl _ _ rfl (g := w.heap.size) rfl rfl HRf.out ?_))
    refine bodyPost_ret (results_prd (g := w.heap.size) Try.results17 _ rfl (Whole.setRow HRf.out _)) rfl ?_
    exact ⟨⟨1, m, 0, 0, [], 0⟩, HK.out, by have := hm1; simp at this ⊢ <;> omega, by rw [pv_row] <;> rfl, HTf.out⟩
  · have hP1 : PRow (w1.alloc _) w1.heap.size 2 0 0 0 [] 0 := PRow.of_zero (Whole.here w1 _ _)
    have HA : Hid (∀ o, Turn g w (w1.alloc o)) := Lib.hid fun o => HT1.out.trans ⟨hd1.alloc o, (Below.refl g w1).alloc (by omega) o, Oth.alloc g w1 o⟩
    have HP1 := Lib.hid hP1
    clear hP1
    go_wp2_with fail
    refine (dmask 32 (by simp) g _ (hd1.alloc _)).mono ?_
    rintro e w2 ⟨m, hm0, hm1, rfl, ht2⟩
    have hP2 : PRow w2 w1.heap.size 2 0 0 0 [] 0 := ht2.2.2 _ _ _ (by omega) HP1.out
    have hR2 : PRow w2 w.heap.size 0 0 0 0 [] 0 := ht2.2.2 _ _ _ (by omega) (H1.out.alloc _)
    have HT2 := Lib.hid ((HA.out _).trans ht2)
    obtain ⟨c0, c1, c2, c3, c4, c5⟩ := hP2.cells
    have f1 := hP2.frozen 1
    have HPf := Lib.hid (hP2.set1 (m : Int))
    have HRf := Lib.hid (hR2.far (a := ⟨w1.heap.size, 1, none⟩) (by show w.heap.size ≠ w1.heap.size; omega) (.int .u64 (m : Int)))
    have HTf := Lib.hid ((HT2.out).from (w3 := (w2.setCell ⟨w1.heap.size, 1, none⟩ (.int .u64 (m : Int))).setRow w.heap.size (prow 2 (m : Int) 0 0 [] 0)) hgR (below_setRow ((Below.refl _ _).setCell (p := ⟨w1.heap.size, 1, none⟩) (by show w.heap.size ≤ w1.heap.size; omega) (.int .u64 (m : Int))) (Nat.le_refl _) _))
    have HK : Hid (pok ⟨2, m, 0, 0, [], 0⟩) := Lib.hid (by unfold pok; simp <;> omega)
    clear hP2 hR2 ht2 HA HP1 H1 HT1
    go_wp2_with (first
      | (with_reducible refine wpList_load_prd rfl _ rfl (g := w1.heap.size) rfl HPf.out ?_)
      | (with_reducible refine wpList_store_prd rfl _ _ rfl (g := w.heap.size) rfl rfl HRf.out ?_))
    refine bodyPost_ret (results_prd (g := w.heap.size) Try.results17 _ rfl (Whole.setRow HRf.out _)) rfl ?_
    exact ⟨⟨2, m, 0, 0, [], 0⟩, HK.out, by have := hm1; simp at this ⊢ <;> omega, by rw [pv_row] <;> rfl, HTf.out⟩
  · have hP1 : PRow (w1.alloc _) w1.heap.size 3 0 0 0 [] 0 := PRow.of_zero (Whole.here w1 _ _)
    have HA : Hid (∀ o, Turn g w (w1.alloc o)) := Lib.hid fun o => HT1.out.trans ⟨hd1.alloc o, (Below.refl g w1).alloc (by omega) o, Oth.alloc g w1 o⟩
    have HP1 := Lib.hid hP1
    clear hP1
    go_wp2_with fail
    refine (dmask 7 (by simp) g _ (hd1.alloc _)).mono ?_
    rintro e w2 ⟨m, hm0, hm1, rfl, ht2⟩
    have hP2 : PRow w2 w1.heap.size 3 0 0 0 [] 0 := ht2.2.2 _ _ _ (by omega) HP1.out
    have hR2 : PRow w2 w.heap.size 0 0 0 0 [] 0 := ht2.2.2 _ _ _ (by omega) (H1.out.alloc _)
    have HT2 := Lib.hid ((HA.out _).trans ht2)
    obtain ⟨c0, c1, c2, c3, c4, c5⟩ := hP2.cells
    have f1 := hP2.frozen 1
    have HPf := Lib.hid (hP2.set1 (m : Int))
    have HRf := Lib.hid (hR2.far (a := ⟨w1.heap.size, 1, none⟩) (by show w.heap.size ≠ w1.heap.size; omega) (.int .u64 (m : Int)))
    have HTf := Lib.hid ((HT2.out).from (w3 := (w2.setCell ⟨w1.heap.size, 1, none⟩ (.int .u64 (m : Int))).setRow w.heap.size (prow 3 (m : Int) 0 0 [] 0)) hgR (below_setRow ((Below.refl _ _).setCell (p := ⟨w1.heap.size, 1, none⟩) (by show w.heap.size ≤ w1.heap.size; omega) (.int .u64 (m : Int))) (Nat.le_refl _) _))
    have HK : Hid (pok ⟨3, m, 0, 0, [], 0⟩) := Lib.hid (by unfold pok; simp <;> omega)
    clear hP2 hR2 ht2 HA HP1 H1 HT1
    go_wp2_with (first
      | (with_reducible refine wpList_load_prd rfl _ rfl (g := w1.heap.size) rfl HPf.out ?_)
      | (with_reducible refine wpList_store_prd rfl _ _ rfl (g := w.heap.size) rfl rfl HRf.out ?_))
    refine bodyPost_ret (results_prd (g := w.heap.size) Try.results17 _ rfl (Whole.setRow HRf.out _)) rfl ?_
    exact ⟨⟨3, m, 0, 0, [], 0⟩, HK.out, by have := hm1; simp at this ⊢ <;> omega, by rw [pv_row] <;> rfl, HTf.out⟩
  · have hP1 : PRow (w1.alloc _) w1.heap.size 4 0 0 0 [] 0 := PRow.of_zero (Whole.here w1 _ _)
    have HA : Hid (∀ o, Turn g w (w1.alloc o)) := Lib.hid fun o => HT1.out.trans ⟨hd1.alloc o, (Below.refl g w1).alloc (by omega) o, Oth.alloc g w1 o⟩
    have HP1 := Lib.hid hP1
    clear hP1
    go_wp2_with fail
    refine (dminute g _ (hd1.alloc _)).mono ?_
    rintro e w2 ⟨a, ⟨ha0, ha1⟩, rfl, ht2⟩
    have hP2 : PRow w2 w1.heap.size 4 0 0 0 [] 0 := ht2.2.2 _ _ _ (by omega) HP1.out
    have hR2 : PRow w2 w.heap.size 0 0 0 0 [] 0 := ht2.2.2 _ _ _ (by omega) (H1.out.alloc _)
    have hd2 := ht2.1
    have HT2 := Lib.hid ((HA.out _).trans ht2)
    have HP2 := Lib.hid hP2
    have HR2 := Lib.hid hR2
    clear hP2 hR2 ht2 HA HP1 H1 HT1
    go_wp2_with fail
    refine (dminute g w2 hd2).mono ?_
    rintro e w3 ⟨b, ⟨hb0, hb1⟩, rfl, ht3⟩
    have hP3 : PRow w3 w1.heap.size 4 0 0 0 [] 0 := ht3.2.2 _ _ _ (by omega) HP2.out
    have hR3 : PRow w3 w.heap.size 0 0 0 0 [] 0 := ht3.2.2 _ _ _ (by omega) HR2.out
    have HT3 := Lib.hid (HT2.out.trans ht3)
    clear ht3 HT2 HP2 HR2 hd2
    rcases Int.lt_trichotomy a b with hab | hab | hab
    · have hle := hab
      obtain ⟨c0, c1, c2, c3, c4, c5⟩ := hP3.cells
      have f2 := hP3.frozen 2
      have f3 := hP3.frozen 3
      have HPf := Lib.hid ((hP3.set2 a).set3 b)
      have HRf := Lib.hid ((hR3.far (a := ⟨w1.heap.size, 2, none⟩) (by show w.heap.size ≠ w1.heap.size; omega) (.int .i64 a)).far (a := ⟨w1.heap.size, 3, none⟩) (by show w.heap.size ≠ w1.heap.size; omega) (.int .i64 b))
      have HTf := Lib.hid ((HT3.out).from (w3 := ((w3.setCell ⟨w1.heap.size, 2, none⟩ (.int .i64 a)).setCell ⟨w1.heap.size, 3, none⟩ (.int .i64 b)).setRow w.heap.size (prow 4 0 a b [] 0)) hgR (below_setRow (((Below.refl _ _).setCell (p := ⟨w1.heap.size, 2, none⟩) (by show w.heap.size ≤ w1.heap.size; omega) (.int .i64 a)).setCell (p := ⟨w1.heap.size, 3, none⟩) (by show w.heap.size ≤ w1.heap.size; omega) (.int .i64 b)) (Nat.le_refl _) _))
      have HK : Hid (pok ⟨4, 0, a, b, [], 0⟩) := Lib.hid (by unfold pok; simp <;> omega)
      clear hP3 hR3
      go_wp2_with (first
        | (with_reducible refine wpList_load_prd rfl _ rfl (g := w1.heap.size) rfl HPf.out ?_)
        | (with_reducible refine wpList_store_prd rfl _ _ rfl (g := w.heap.size) rfl rfl HRf.out ?_))
      refine bodyPost_ret (results_prd (g := w.heap.size) Try.results17 _ rfl (Whole.setRow HRf.out _)) rfl ?_
      exact ⟨⟨4, 0, a, b, [], 0⟩, HK.out, by simp, by rw [pv_row] <;> rfl, HTf.out⟩
    · subst hab
      obtain ⟨c0, c1, c2, c3, c4, c5⟩ := hP3.cells
      have f2 := hP3.frozen 2
      have f3 := hP3.frozen 3
      have HPf := Lib.hid ((hP3.set2 a).set3 a)
      have HRf := Lib.hid ((hR3.far (a := ⟨w1.heap.size, 2, none⟩) (by show w.heap.size ≠ w1.heap.size; omega) (.int .i64 a)).far (a := ⟨w1.heap.size, 3, none⟩) (by show w.heap.size ≠ w1.heap.size; omega) (.int .i64 a))
      have HTf := Lib.hid ((HT3.out).from (w3 := ((w3.setCell ⟨w1.heap.size, 2, none⟩ (.int .i64 a)).setCell ⟨w1.heap.size, 3, none⟩ (.int .i64 a)).setRow w.heap.size (prow 4 0 a a [] 0)) hgR (below_setRow (((Below.refl _ _).setCell (p := ⟨w1.heap.size, 2, none⟩) (by show w.heap.size ≤ w1.heap.size; omega) (.int .i64 a)).setCell (p := ⟨w1.heap.size, 3, none⟩) (by show w.heap.size ≤ w1.heap.size; omega) (.int .i64 a)) (Nat.le_refl _) _))
      have HK : Hid (pok ⟨4, 0, a, a, [], 0⟩) := Lib.hid (by unfold pok; simp <;> omega)
      clear hP3 hR3
      go_wp2_with (first
        | (with_reducible refine wpList_load_prd rfl _ rfl (g := w1.heap.size) rfl HPf.out ?_)
        | (with_reducible refine wpList_store_prd rfl _ _ rfl (g := w.heap.size) rfl rfl HRf.out ?_))
      refine bodyPost_ret (results_prd (g := w.heap.size) Try.results17 _ rfl (Whole.setRow HRf.out _)) rfl ?_
      exact ⟨⟨4, 0, a, a, [], 0⟩, HK.out, by simp, by rw [pv_row] <;> rfl, HTf.out⟩
    · have hle := hab
      obtain ⟨c0, c1, c2, c3, c4, c5⟩ := hP3.cells
      have f2 := hP3.frozen 2
      have f3 := hP3.frozen 3
      have HPf := Lib.hid ((hP3.set2 b).set3 a)
      have HRf := Lib.hid ((hR3.far (a := ⟨w1.heap.size, 2, none⟩) (by show w.heap.size ≠ w1.heap.size; omega) (.int .i64 b)).far (a := ⟨w1.heap.size, 3, none⟩) (by show w.heap.size ≠ w1.heap.size; omega) (.int .i64 a))
      have HTf := Lib.hid ((HT3.out).from (w3 := ((w3.setCell ⟨w1.heap.size, 2, none⟩ (.int .i64 b)).setCell ⟨w1.heap.size, 3, none⟩ (.int .i64 a)).setRow w.heap.size (prow 4 0 b a [] 0)) hgR (below_setRow (((Below.refl _ _).setCell (p := ⟨w1.heap.size, 2, none⟩) (by show w.heap.size ≤ w1.heap.size; omega) (.int .i64 b)).setCell (p := ⟨w1.heap.size, 3, none⟩) (by show w.heap.size ≤ w1.heap.size; omega) (.int .i64 a)) (Nat.le_refl _) _))
      have HK : Hid (pok ⟨4, 0, b, a, [], 0⟩) := Lib.hid (by unfold pok; simp <;> omega)
      clear hP3 hR3
      go_wp2_with (first
        | (with_reducible refine wpList_load_prd rfl _ rfl (g := w1.heap.size) rfl HPf.out ?_)
        | (with_reducible refine wpList_store_prd rfl _ _ rfl (g := w.heap.size) rfl rfl HRf.out ?_))
      refine bodyPost_ret (results_prd (g := w.heap.size) Try.results17 _ rfl (Whole.setRow HRf.out _)) rfl ?_
      exact ⟨⟨4, 0, b, a, [], 0⟩, HK.out, by simp, by rw [pv_row] <;> rfl, HTf.out⟩
  · have hP1 : PRow (w1.alloc _) w1.heap.size 5 0 0 0 [] 0 := PRow.of_zero (Whole.here w1 _ _)
    have HA : Hid (∀ o, Turn g w (w1.alloc o)) := Lib.hid fun o => HT1.out.trans ⟨hd1.alloc o, (Below.refl g w1).alloc (by omega) o, Oth.alloc g w1 o⟩
    have HP1 := Lib.hid hP1
    clear hP1
    go_wp2_with fail
    refine (dnext 1440 (by omega) (by omega) g _ (hd1.alloc _)).mono ?_
    rintro e w2 ⟨a, ha1, rfl, ht2⟩
    have hP2 : PRow w2 w1.heap.size 5 0 0 0 [] 0 := ht2.2.2 _ _ _ (by omega) HP1.out
    have hR2 : PRow w2 w.heap.size 0 0 0 0 [] 0 := ht2.2.2 _ _ _ (by omega) (H1.out.alloc _)
    have hd2 := ht2.1
    have HT2 := Lib.hid ((HA.out _).trans ht2)
    have HP2 := Lib.hid hP2
    have HR2 := Lib.hid hR2
    clear hP2 hR2 ht2 HA HP1 H1 HT1
    go_wp2_with fail
    refine (dnext 1440 (by omega) (by omega) g w2 hd2).mono ?_
    rintro e w3 ⟨b, hb1, rfl, ht3⟩
    have hP3 : PRow w3 w1.heap.size 5 0 0 0 [] 0 := ht3.2.2 _ _ _ (by omega) HP2.out
    have hR3 : PRow w3 w.heap.size 0 0 0 0 [] 0 := ht3.2.2 _ _ _ (by omega) HR2.out
    have HT3 := Lib.hid (HT2.out.trans ht3)
    have hd3 := ht3.1
    clear ht3 HT2 HP2 HR2 hd2
    obtain ⟨c0, c1, c2, c3, c4, c5⟩ := hP3.cells
    have f2 := hP3.frozen 2
    have f3 := hP3.frozen 3
    have HP3 := Lib.hid ((hP3.set2 (a : Int)).set3 (b : Int))
    have HR3 := Lib.hid ((hR3.far (a := ⟨w1.heap.size, 2, none⟩) (by show w.heap.size ≠ w1.heap.size; omega) (.int .i64 (a : Int))).far (a := ⟨w1.heap.size, 3, none⟩) (by show w.heap.size ≠ w1.heap.size; omega) (.int .i64 (b : Int)))
    have HB3 := Lib.hid (((Below.refl w.heap.size w3).setCell (p := ⟨w1.heap.size, 2, none⟩) (by show w.heap.size ≤ w1.heap.size; omega) (.int .i64 (a : Int))).setCell (p := ⟨w1.heap.size, 3, none⟩) (by show w.heap.size ≤ w1.heap.size; omega) (.int .i64 (b : Int)))
    have HT4 := Lib.hid (HT3.out.from hgR HB3.out)
    clear hP3 hR3 HB3 hd3 HT3
    go_wp2_with fail
    refine (dnext 3 (by omega) (by omega) g _ HT4.out.1).mono ?_
    rintro e w4 ⟨i, hi, rfl, ht4⟩
    clear c0 c1 c2 c3 c4 c5 f2 f3
    have hP4 : PRow w4 w1.heap.size 5 0 a b [] 0 := ht4.2.2 _ _ _ (by omega) HP3.out
    have hR4 : PRow w4 w.heap.size 0 0 0 0 [] 0 := ht4.2.2 _ _ _ (by omega) HR3.out
    have HT5 := Lib.hid (HT4.out.trans ht4)
    have hd4 := ht4.1
    clear ht4 HT4 HP3 HR3
    by_cases hi0 : i = 0
    · subst hi0
      obtain ⟨c0, c1, c2, c3, c4, c5⟩ := hP4.cells
      have HP4 := Lib.hid hP4
      have HR4 := Lib.hid hR4
      have HDC : Hid (∀ W i, Turn g w4.drew W → ((i : Nat) : Int) < 3 → W.cell? ⟨w1.heap.size, 2, none⟩ = some (.int .i64 (a : Int)) ∧ PRow W w1.heap.size 5 0 a b [] 0 ∧ PRow W w.heap.size 0 0 0 0 [] 0 ∧ IntKind.i64.wrap ((a : Int) + i) = (a : Int) + i ∧ IntKind.i64.wrap ((a : Int) + i + 1440) = (a : Int) + i + 1440 ∧ IntKind.i64.wrap ((a : Int) + i + 1440 - 1) = (a : Int) + i + 1440 - 1 ∧ W.frozen? ⟨w1.heap.size, 3, none⟩ = false ∧ W.cell? ⟨w1.heap.size, 3, none⟩ = some (.int .i64 (b : Int))) := Lib.hid fun W i hW hi => by
        have hp : PRow W w1.heap.size 5 0 a b [] 0 := hW.2.2 _ _ _ (by omega) (Whole.drew HP4.out)
        refine ⟨PRow.cells hp |>.2.2.1, hp, hW.2.2 _ _ _ (by omega) (Whole.drew HR4.out), ?_, ?_, ?_, hp.frozen 3, PRow.cells hp |>.2.2.2.1⟩ <;> (rw [IntKind.wrap_i64]; omega)
      clear hP4 hR4
      go_wp2_with fail
      go_region_held3 (fun W => W.cell? ⟨w1.heap.size, 2, none⟩ = some (.int .i64 (a : Int))) (first | exact c2 | assumption | exact hcx.1 | exact (hcx.2.1.set3 _).cells.2.2.1 | go_keep)
        (first | (go_at_call 16; refine (dnext 3 (by omega) (by omega) g _ hd4.drew).mono ?_; rintro e w5 ⟨i, hi, rfl, ht5⟩; have hcx := HDC.out _ i ht5 hi; obtain ⟨-, -, -, hw1, hw2, hw3, hf3, hc3⟩ := id hcx))
      obtain ⟨z, hz⟩ : ∃ z, z = ((a : Int) + i + 1440 - 1).tmod 1440 := ⟨_, rfl⟩
      have hz0 : 0 ≤ z ∧ z < 1440 := by rw [hz, Int.tmod_eq_emod_of_nonneg (by omega)]; omega
      rw [← hz]
      have hP6 : PRow (w5.setCell ⟨w1.heap.size, 3, none⟩ (.int .i64 z)) w1.heap.size 5 0 a z [] 0 := hcx.2.1.set3 z
      have hR6 : PRow (w5.setCell ⟨w1.heap.size, 3, none⟩ (.int .i64 z)) w.heap.size 0 0 0 0 [] 0 := hcx.2.2.1.far (a := ⟨w1.heap.size, 3, none⟩) (by show w.heap.size ≠ w1.heap.size; omega) (.int .i64 z)
      have HT5d : Turn g w w4.drew := ⟨hd4.drew, HT5.out.2.1.drew, HT5.out.2.2.drew⟩
      have HT6 : Turn g w (w5.setCell ⟨w1.heap.size, 3, none⟩ (.int .i64 z)) := (HT5d.trans ht5).from hgR ((Below.refl _ _).setCell (p := ⟨w1.heap.size, 3, none⟩) (by show w.heap.size ≤ w1.heap.size; omega) (.int .i64 z))
      clear hcx HDC hf3 hc3 ht5 HT5d hw1 hw2 hw3 HT5 hd4 HP4 HR4 c0 c1 c2 c3 c4 c5 hz hi
      generalize w5.setCell ⟨w1.heap.size, 3, none⟩ (.int .i64 z) = w6 at hP6 hR6 HT6 ⊢
      obtain ⟨c0, c1, c2, c3, c4, c5⟩ := hP6.cells
      have HPf := Lib.hid hP6
      have HRf := Lib.hid hR6
      have HTf := Lib.hid ((HT6).from (w3 := w6.setRow w.heap.size (prow 5 0 (a : Int) z [] 0)) hgR (below_setRow (Below.refl _ _) (Nat.le_refl _) _))
      have HK : Hid (pok ⟨5, 0, (a : Int), z, [], 0⟩) := Lib.hid (by unfold pok; simp <;> omega)
      clear hP6 hR6
      go_wp2_with (first
        | (with_reducible refine wpList_load_prd rfl _ rfl (g := w1.heap.size) rfl HPf.out ?_)
        | (with_reducible refine wpList_store_prd rfl _ _ rfl (g := w.heap.size) rfl rfl HRf.out ?_))
      refine bodyPost_ret (results_prd (g := w.heap.size) Try.results17 _ rfl (Whole.setRow HRf.out _)) rfl ?_
      exact ⟨⟨5, 0, (a : Int), z, [], 0⟩, HK.out, by simp, by rw [pv_row] <;> rfl, HTf.out⟩
    · obtain ⟨c0, c1, c2, c3, c4, c5⟩ := hP4.cells
      have HPf := Lib.hid hP4
      have HRf := Lib.hid hR4
      have HTf := Lib.hid ((HT5.out).from (w3 := w4.setRow w.heap.size (prow 5 0 (a : Int) (b : Int) [] 0)) hgR (below_setRow (Below.refl _ _) (Nat.le_refl _) _))
      have HK : Hid (pok ⟨5, 0, (a : Int), (b : Int), [], 0⟩) := Lib.hid (by unfold pok; simp <;> omega)
      clear hP4 hR4
      go_wp2_with (first
        | (with_reducible refine wpList_load_prd rfl _ rfl (g := w1.heap.size) rfl HPf.out ?_)
        | (with_reducible refine wpList_store_prd rfl _ _ rfl (g := w.heap.size) rfl rfl HRf.out ?_))
      refine bodyPost_ret (results_prd (g := w.heap.size) Try.results17 _ rfl (Whole.setRow HRf.out _)) rfl ?_
      exact ⟨⟨5, 0, (a : Int), (b : Int), [], 0⟩, HK.out, by simp, by rw [pv_row] <;> rfl, HTf.out⟩
  · have hP1 : PRow (w1.alloc _) w1.heap.size 6 0 0 0 [] 0 := PRow.of_zero (Whole.here w1 _ _)
    have HA : Hid (∀ o, Turn g w (w1.alloc o)) := Lib.hid fun o => HT1.out.trans ⟨hd1.alloc o, (Below.refl g w1).alloc (by omega) o, Oth.alloc g w1 o⟩
    have HP1 := Lib.hid hP1
    clear hP1
    go_wp2_with fail
    refine (dnam g _ (hd1.alloc _)).mono ?_
    rintro e w2 ⟨s, hs, rfl, ht2⟩
    have hP2 : PRow w2 w1.heap.size 6 0 0 0 [] 0 := ht2.2.2 _ _ _ (by omega) HP1.out
    have hR2 : PRow w2 w.heap.size 0 0 0 0 [] 0 := ht2.2.2 _ _ _ (by omega) (H1.out.alloc _)
    have HT2 := Lib.hid ((HA.out _).trans ht2)
    obtain ⟨c0, c1, c2, c3, c4, c5⟩ := hP2.cells
    have f4 := hP2.frozen 4
    have HPf := Lib.hid (hP2.set4 s)
    have HRf := Lib.hid (hR2.far (a := ⟨w1.heap.size, 4, none⟩) (by show w.heap.size ≠ w1.heap.size; omega) (.string (sof s)))
    have HTf := Lib.hid ((HT2.out).from (w3 := (w2.setCell ⟨w1.heap.size, 4, none⟩ (.string (sof s))).setRow w.heap.size (prow 6 0 0 0 s 0)) hgR (below_setRow ((Below.refl _ _).setCell (p := ⟨w1.heap.size, 4, none⟩) (by show w.heap.size ≤ w1.heap.size; omega) (.string (sof s))) (Nat.le_refl _) _))
    have HK : Hid (pok ⟨6, 0, 0, 0, s, 0⟩) := Lib.hid (by unfold pok; simp; exact hs)
    clear hP2 hR2 ht2 HA HP1 H1 HT1 hs
    go_wp2_with (first
      | (with_reducible refine wpList_load_prd rfl _ rfl (g := w1.heap.size) rfl HPf.out ?_)
      | (with_reducible refine wpList_store_prd rfl _ _ rfl (g := w.heap.size) rfl rfl HRf.out ?_))
    refine bodyPost_ret (results_prd (g := w.heap.size) Try.results17 _ rfl (Whole.setRow HRf.out _)) rfl ?_
    exact ⟨⟨6, 0, 0, 0, s, 0⟩, HK.out, by simp, by rw [pv_row] <;> rfl, HTf.out⟩
  · have hP1 : PRow (w1.alloc _) w1.heap.size 7 0 0 0 [] 0 := PRow.of_zero (Whole.here w1 _ _)
    have HA : Hid (∀ o, Turn g w (w1.alloc o)) := Lib.hid fun o => HT1.out.trans ⟨hd1.alloc o, (Below.refl g w1).alloc (by omega) o, Oth.alloc g w1 o⟩
    have HP1 := Lib.hid hP1
    clear hP1
    go_wp2_with fail
    refine (dupto 1000000 (by omega) (by omega) g _ (hd1.alloc _)).mono ?_
    rintro e w2 ⟨n, ⟨hn0, hn1⟩, rfl, ht2⟩
    have hP2 : PRow w2 w1.heap.size 7 0 0 0 [] 0 := ht2.2.2 _ _ _ (by omega) HP1.out
    have hR2 : PRow w2 w.heap.size 0 0 0 0 [] 0 := ht2.2.2 _ _ _ (by omega) (H1.out.alloc _)
    have HT2 := Lib.hid ((HA.out _).trans ht2)
    obtain ⟨c0, c1, c2, c3, c4, c5⟩ := hP2.cells
    have f5 := hP2.frozen 5
    have HPf := Lib.hid (hP2.set5 n)
    have HRf := Lib.hid (hR2.far (a := ⟨w1.heap.size, 5, none⟩) (by show w.heap.size ≠ w1.heap.size; omega) (.int .i64 n))
    have HTf := Lib.hid ((HT2.out).from (w3 := (w2.setCell ⟨w1.heap.size, 5, none⟩ (.int .i64 n)).setRow w.heap.size (prow 7 0 0 0 [] n)) hgR (below_setRow ((Below.refl _ _).setCell (p := ⟨w1.heap.size, 5, none⟩) (by show w.heap.size ≤ w1.heap.size; omega) (.int .i64 n)) (Nat.le_refl _) _))
    have HK : Hid (pok ⟨7, 0, 0, 0, [], n⟩) := Lib.hid (by unfold pok; simp <;> omega)
    clear hP2 hR2 ht2 HA HP1 H1 HT1
    go_wp2_with (first
      | (with_reducible refine wpList_load_prd rfl _ rfl (g := w1.heap.size) rfl HPf.out ?_)
      | (with_reducible refine wpList_store_prd rfl _ _ rfl (g := w.heap.size) rfl rfl HRf.out ?_))
    refine bodyPost_ret (results_prd (g := w.heap.size) Try.results17 _ rfl (Whole.setRow HRf.out _)) rfl ?_
    exact ⟨⟨7, 0, 0, 0, [], n⟩, HK.out, by simp, by rw [pv_row] <;> rfl, HTf.out⟩
end Go.Proofs.Ytodmfippjcfbbaa
namespace Go.Proofs.Ytodmfippjcfbbaa
open Go Go.RowKit Sh Leaf

theorem built_cav1 (k m lo hi nu : Int) (nm : ByteArray) : Try.prog.built 27 [(1, .agg #[.int .i64 k, .int .u64 m, .int .i64 lo, .int .i64 hi, .string nm, .int .i64 nu])] = some #[.bool false, .int .i64 k, .int .u64 m, .int .i64 lo, .int .i64 hi, .string nm, .int .i64 nu, .int .i64 0, .slice none 0 0, .slice none 0 0] := by kernel_rfl
theorem built_cav4 (pa : Int) (A1 A2 : Option Addr) (n1 c1 n2 c2 : Nat) : Try.prog.built 27 [(0, .bool true), (2, .int .i64 pa), (3, .slice A1 n1 c1), (4, .slice A2 n2 c2)] = some #[.bool true, .int .i64 0, .int .u64 0, .int .i64 0, .int .i64 0, .string { data := #[] }, .int .i64 0, .int .i64 pa, .slice A1 n1 c1, .slice A2 n2 c2] := by kernel_rfl
theorem cv4 (pa : Int) (vt vb : Value) : (#[.bool true, .int .i64 0, .int .u64 0, .int .i64 0, .int .i64 0, .string { data := #[] }, .int .i64 0, .int .i64 pa, vt, vb] : Array Value) = cvrow true .zero pa vt vb := by
  unfold cvrow
  rw [← sof_none]
  rfl
theorem wpList_build_cav1 {w : World} {ops : Array Oper} {rest : List Oper} {o : Oper} {a : Act} {Q : Exit → Act → World → Prop} (hgd : o.guard = none) (x : Operand) (ho : o.op = .build 27 #[(1, x)])
    (p : Prd) (hx : a.eval x = pv p) (h : wpList Try.prog ops Q rest (a.put o.dst (.agg (cvrow false p 0 (.slice none 0 0) (.slice none 0 0)))) w) : wpList Try.prog ops Q (o :: rest) a w := by
  refine wpList_build_as hgd 27 _ ho _ ?_ h
  have e : (#[(1, x)].map fun (i, x) => (i, a.eval x)).toList = [(1, pv p)] := by simp [hx]
  rw [e, pv_row, built_cav1]
theorem wpList_build_cav4 {w : World} {ops : Array Oper} {rest : List Oper} {o : Oper} {a : Act} {Q : Exit → Act → World → Prop} (hgd : o.guard = none) (b x y z : Operand) (ho : o.op = .build 27 #[(0, b), (2, x), (3, y), (4, z)])
    (pa : Int) (A1 A2 : Option Addr) (n1 c1 n2 c2 : Nat) (hb : a.eval b = .bool true) (hx : a.eval x = .int .i64 pa) (hy : a.eval y = .slice A1 n1 c1) (hz : a.eval z = .slice A2 n2 c2)
    (h : wpList Try.prog ops Q rest (a.put o.dst (.agg (cvrow true .zero pa (.slice A1 n1 c1) (.slice A2 n2 c2)))) w) : wpList Try.prog ops Q (o :: rest) a w := by
  refine wpList_build_as hgd 27 _ ho _ ?_ h
  have e : (#[(0, b), (2, x), (3, y), (4, z)].map fun (i, x) => (i, a.eval x)).toList = [(0, .bool true), (2, .int .i64 pa), (3, .slice A1 n1 c1), (4, .slice A2 n2 c2)] := by simp [hb, hx, hy, hz]
  rw [e, built_cav4, ← sof_none]
  rfl
set_option linter.unusedSimpArgs false in
set_option linter.unusedVariables false in
set_option maxRecDepth 100000 in
set_option maxHeartbeats 4000000 in
theorem dcav (g : Nat) (w : World) (h : Deck g w) :
    Calls Try.prog 6 #[.pointer (some ⟨g, 0, none⟩)] w fun e w' => (∃ v c, e = .returned v ∧ cvok c ∧ CavV w' (fun b => w.heap.size ≤ b) v c) ∧ Turn g w w' := by
  have hgw := h.lt
  obtain ⟨w0, hw0⟩ : ∃ q, q = w.alloc (.cells (cvrow false .zero 0 (.slice none 0 0) (.slice none 0 0)) 27) := ⟨_, rfl⟩
  have hz : CvRow w0 w.heap.size false .zero 0 (.slice none 0 0) (.slice none 0 0) := by rw [hw0]; exact Whole.here _ _ _
  have hb0 : Below w.heap.size w w0 := by rw [hw0]; exact (Below.refl _ _).alloc (Nat.le_refl _) _
  have hsw0 : w.heap.size < w0.heap.size := hz.lt
  have hdk := h.below hb0 hgw
  have ht0 : Turn g w w0 := h.here hb0
  have hcl := dnext 4 (by omega) (by omega) g w0 hdk
  have HZ := Lib.hid hz
  have HT0 := Lib.hid ht0
  clear hz hb0 hdk ht0 h
  go_enter Try.func6, Try.ntmps6
  go_upto_region 1 with fail
  rw [← cvrow_zero, ← hw0]
  clear hw0
  go_wp2_with fail
  refine hcl.mono ?_
  rintro e w1 ⟨i, hi, rfl, ht1⟩
  clear hcl
  have hsw1 : w0.heap.size ≤ w1.heap.size := ht1.2.1.size
  have HT1 := Lib.hid (HT0.out.trans ht1)
  have HZ1 : Hid (CvRow w1 w.heap.size false .zero 0 (.slice none 0 0) (.slice none 0 0)) := Lib.hid (ht1.2.2.oth _ _ _ (by omega) HZ.out)
  clear ht1 HT0 HZ
  by_cases hi0 : 0 < i
  · skip
    have hi1 : (0 : Int) < (i : Int) := by omega
    have hcl := dpred g w1 HT1.out.1
    go_wp2_with fail
    refine hcl.mono ?_
    rintro e w2 ⟨p, hpok, hpm, rfl, ht2⟩
    clear hcl
    have hsw2 : w1.heap.size ≤ w2.heap.size := ht2.2.1.size
    have HT2 := Lib.hid (HT1.out.trans ht2)
    have HZ2 : Hid (CvRow w2 w.heap.size false .zero 0 (.slice none 0 0) (.slice none 0 0)) := Lib.hid (ht2.2.2.oth _ _ _ (by omega) HZ1.out)
    have hok : cvok ⟨false, p, 0, [], []⟩ := cvok_mk.2 (.inr ⟨rfl, hpok, rfl, rfl, rfl⟩)
    have hwf : Cwf ⟨false, p, 0, [], []⟩ := ⟨hpm, by
      unfold pok nmok at hpok
      rcases hpok with h | h | h | h | h | h | h
      · rw [h.2.2.2.2.1]; simp
      · rw [h.2.2.2.2.2.1]; simp
      · rw [h.2.2.2.2.2.1]; simp
      · rw [h.2.2.2.2.2.1]; simp
      · rw [h.2.2.2.2.2.2.1]; simp
      · have := h.2.2.2.2.1; show p.name.length ≤ _; omega
      · rw [h.2.2.2.2.1]; simp, by simp, by simp⟩
    have HOK := Lib.hid (And.intro hok hwf)
    clear ht2 hok hwf hpok
    go_wp2_with (first
      | (with_reducible refine wpList_build_cav1 rfl _ rfl p rfl ?_)
      | (with_reducible refine wpList_store_cav rfl _ _ rfl (g := w.heap.size) rfl rfl HZ2.out (cvrow_size _ _ _ _ _) ?_))
    have hz6 := Whole.setRow HZ2.out (cvrow false p 0 (.slice none 0 0) (.slice none 0 0))
    refine bodyPost_ret (results_cav Try.results6 _ rfl hz6) rfl ?_
    exact ⟨⟨_, ⟨false, p, 0, [], []⟩, rfl, HOK.out.1, none, 0, none, 0, rfl, Bytes.nil _ _, Bytes.nil _ _, HOK.out.2⟩, Turn.below HT2.out (below_setRow (Below.refl _ _) (Nat.le_refl _) _) hgw (Nat.le_refl _)⟩
  · skip
    have hi1 : ¬ (0 : Int) < (i : Int) := by omega
    clear hi0
    have hcl := dnext 8 (by omega) (by omega) g w1 HT1.out.1
    go_wp2_with fail
    refine hcl.mono ?_
    rintro e w2 ⟨pa, hpa, rfl, ht2⟩
    clear hcl
    have hsw2 : w1.heap.size ≤ w2.heap.size := ht2.2.1.size
    have HT2 := Lib.hid (HT1.out.trans ht2)
    have HZ2 : Hid (CvRow w2 w.heap.size false .zero 0 (.slice none 0 0) (.slice none 0 0)) := Lib.hid (ht2.2.2.oth _ _ _ (by omega) HZ1.out)
    clear ht2
    have hcl := dbyo 20 (by omega) g w2 HT2.out.1
    go_wp2_with fail
    refine hcl.mono ?_
    rintro e w3 ⟨⟨A1, c1, tk, htl, rfl, ho3⟩, ht3⟩
    clear hcl
    have hsw3 : w2.heap.size ≤ w3.heap.size := ht3.2.1.size
    have HT3 := Lib.hid (HT2.out.trans ht3)
    have HZ3 : Hid (CvRow w3 w.heap.size false .zero 0 (.slice none 0 0) (.slice none 0 0)) := Lib.hid (ht3.2.2.oth _ _ _ (by omega) HZ2.out)
    have HO3 := Lib.hid ho3
    clear ht3 ho3
    have hby3 : Bytes (w3.alloc (.cells #[.int .u8 1] 5)) (fun _ => True) (.slice (some ⟨w3.heap.size, 0, none⟩) 1 1) [1#8] := bytes_one w3 1 1#8 (by unfold bv; decide)
    go_wp2_with (at_builtin; go_must (refine wpList_append_bytes rfl _ _ rfl w2.heap.size _ tk rfl (HO3.out.alloc _) _ (.slice (some ⟨w3.heap.size, 0, none⟩) 1 1) [1#8] rfl hby3 (by simp only [List.length_singleton]; omega) (by simp; omega) ?_; intro v4 w4 ho4 hb4))
    have hb34 : Below w2.heap.size w3 w4 := ((Below.refl _ _).alloc hsw3 _).trans hb4
    have hsw4 : w3.heap.size ≤ w4.heap.size := hb34.size
    have HT4 : Hid (Turn g w w4) := Lib.hid (Turn.below HT3.out hb34 (by omega) (by omega))
    have HZ4 : Hid (CvRow w4 w.heap.size false .zero 0 (.slice none 0 0) (.slice none 0 0)) := Lib.hid (Whole.below HZ3.out hb34 (by omega))
    have HO4 := Lib.hid ho4
    obtain ⟨A4, c4, rfl, -⟩ := id (Bytes.of_own ho4)
    clear hb34 hb4 ho4 hby3
    have hcl := dbyo 20 (by omega) g w4 HT4.out.1
    go_wp2_with fail
    refine hcl.mono ?_
    rintro e w5 ⟨⟨A5, c5, bx, hbl, rfl, ho5⟩, ht5⟩
    clear hcl
    have hsw5 : w4.heap.size ≤ w5.heap.size := ht5.2.1.size
    have HT5 := Lib.hid (HT4.out.trans ht5)
    have HZ5 : Hid (CvRow w5 w.heap.size false .zero 0 (.slice none 0 0) (.slice none 0 0)) := Lib.hid (ht5.2.2.oth _ _ _ (by omega) HZ4.out)
    have HO5 := Lib.hid ho5
    have h4 : Bytes w4 (fun q => w2.heap.size ≤ q ∧ q < w4.heap.size) (.slice A4 (tk ++ [1#8]).length c4) (tk ++ [1#8]) := (Bytes.of_own HO4.out).mono fun q hq h => ⟨h, hq⟩
    have HO45 := Lib.hid (h4.oth ht5.2.2 fun q hq => by omega)
    clear ht5 ho5 h4
    have hby5 : Bytes (w5.alloc (.cells #[.int .u8 2] 5)) (fun _ => True) (.slice (some ⟨w5.heap.size, 0, none⟩) 1 1) [2#8] := bytes_one w5 2 2#8 (by unfold bv; decide)
    have HZA : Hid (∀ W, Below w4.heap.size w5 W → CvRow W w.heap.size false .zero 0 (.slice none 0 0) (.slice none 0 0)) := Lib.hid fun W hW => Whole.below HZ5.out hW (by omega)
    go_wp2_with (first
      | (at_builtin; go_must (refine wpList_append_bytes rfl _ _ rfl w4.heap.size _ bx rfl (HO5.out.alloc _) _ (.slice (some ⟨w5.heap.size, 0, none⟩) 1 1) [2#8] rfl hby5 (by simp only [List.length_singleton]; omega) (by simp; omega) ?_; intro v6 w6 ho6 hb6; obtain ⟨A6, c6, rfl, -⟩ := id (Bytes.of_own ho6)))
      | (refine wpList_store_row rfl 27 _ _ rfl w.heap.size _ rfl rfl 27 _ (HZA.out _ (((Below.refl _ _).alloc (by omega) _).trans hb6)) (by rw [cavSize]; rfl) (by rw [cvrow_size]; rfl) (by simp [Value.oneCell']) ?_))
    rw [cv4]
    have hb56 : Below w4.heap.size w5 w6 := ((Below.refl _ _).alloc (by omega) _).trans hb6
    have hz6 := Whole.setRow (HZA.out _ hb56) (cvrow true .zero (pa : Int) (.slice A4 (tk.length + 1) c4) (.slice A6 (bx.length + 1) c6))
    have ht6 : Turn g w w6 := Turn.below HT5.out hb56 (by omega) (by omega)
    have hl1 : (tk ++ [1#8]).length = tk.length + 1 := by simp
    have hl2 : (bx ++ [2#8]).length = bx.length + 1 := by simp
    have hB1 := HO45.out.keep fun q _ hq => hb56.block q hq.2
    have hB2 := Bytes.of_own ho6
    refine bodyPost_ret (results_cav Try.results6 _ rfl hz6) rfl ?_
    refine ⟨⟨_, ⟨true, .zero, (pa : Int), tk ++ [1#8], bx ++ [2#8]⟩, rfl, cvok_mk.2 (.inl ⟨rfl, rfl, by omega, by omega, by omega, by omega, by omega, by omega⟩), A4, c4, A6, c6, by rw [hl1, hl2], ?_, ?_, by simp, by simp, by simp; omega, by simp; omega⟩, Turn.below ht6 (below_setRow (Below.refl _ _) (Nat.le_refl _) _) hgw (Nat.le_refl _)⟩
    · exact (hB1.keep fun q _ hq => setRow_other _ _ q _ (by have := hq.1; omega)).mono fun q _ hq => by have := hq.1; omega
    · exact (hB2.keep fun q _ hq => setRow_other _ _ q _ (by have hq : w4.heap.size ≤ q := hq; omega)).mono fun q _ hq => by have hq : w4.heap.size ≤ q := hq; omega
end Go.Proofs.Ytodmfippjcfbbaa
namespace Go.Proofs.Ytodmfippjcfbbaa
open Go Go.RowKit Sh Leaf

set_option maxRecDepth 100000 in
theorem neq_prds (p q : Prd) (w : World) : (binOp .neq 24 (pv p) (pv q)).run Try.prog w = .ok (.bool (!decide (p = q))) w := by
  have h := run_eql_prd p.kind (p.mask : Int) p.lo p.hi p.num q.kind (q.mask : Int) q.lo q.hi q.num p.name q.name w
  rw [run_eql_struct] at h
  rw [pv_row, pv_row]
  rw [run_neq_struct]
  have e : (p.kind = q.kind ∧ (p.mask : Int) = (q.mask : Int) ∧ p.lo = q.lo ∧ p.hi = q.hi ∧ p.name = q.name ∧ p.num = q.num) ↔ p = q := by
    obtain ⟨a, b, c, d, n, f⟩ := p
    obtain ⟨a', b', c', d', n', f'⟩ := q
    simp only [Prd.mk.injEq]
    constructor
    · rintro ⟨h1, h2, h3, h4, h5, h6⟩
      exact ⟨h1, by omega, h3, h4, h5, h6⟩
    · rintro ⟨h1, h2, h3, h4, h5, h6⟩
      exact ⟨h1, by omega, h3, h4, h5, h6⟩
  simp only [e] at h
  obtain ⟨r, hr⟩ : ∃ r, r = (Op.equalIn 10000 24 (.agg (prow p.kind (p.mask : Int) p.lo p.hi p.name p.num)) (.agg (prow q.kind (q.mask : Int) q.lo q.hi q.name q.num))).run Try.prog w := ⟨_, rfl⟩
  rw [← hr] at h ⊢
  clear hr
  cases r with
  | ok b w2 =>
    unfold Result.andThen at h ⊢
    dsimp only at h ⊢
    injection h with h1 h2
    injection h1 with h1
    rw [h1, h2]
  | halt x w2 =>
    unfold Result.andThen at h
    cases h
theorem wpList_load_guarded {ops : Array Oper} {rest : List Oper} {o : Oper} {a : Act} {w : World} {Q : Exit → Act → World → Prop} {g : Nat} {th : Bool} {p : Prd} {pa : Int} {vt vb : Value} (hgd : Region.wanted o (yielded ops a.tmps) = true) (x : Operand) (ho : o.op = .load 24 x)
    (hx : a.eval x = .pointer (some ⟨g, 1, none⟩)) (hg : CvRow w g th p pa vt vb) (h : wpList Try.prog ops Q rest (a.put o.dst (pv p)) w) : wpList Try.prog ops Q (o :: rest) a w := by
  show if Region.wanted o (yielded ops a.tmps) then _ else _
  rw [if_pos hgd]
  left
  refine wp_load_mid 24 x ho g 1 hx _ _ (CvRow.prd hg) Try.underlying24 rfl (by rw [prdSize]; rfl) ?_
  rw [pv_list] at h
  exact h
/-- The slice's caveats. -/
def Cvs (w : World) (A : Option Addr) (l : List Cav) : Prop := ∀ (i : Nat) (c : Cav), l[i]? = some c → ∃ g o A1 c1 A2 c2, A = some ⟨g, o, none⟩ ∧ g < w.heap.size ∧ w.rangeAt g (o + i * 10) [.bool c.third, .int .i64 c.first.kind, .int .u64 (c.first.mask : Int), .int .i64 c.first.lo, .int .i64 c.first.hi, .string (sof c.first.name), .int .i64 c.first.num, .int .i64 c.party, .slice A1 c.ticket.length c1, .slice A2 c.box.length c2] ∧ Bytes w (fun _ => True) (.slice A1 c.ticket.length c1) c.ticket ∧ Bytes w (fun _ => True) (.slice A2 c.box.length c2) c.box ∧ Cwf c
theorem Cvs.below {w w' : World} {A : Option Addr} {l : List Cav} (h : Cvs w A l) (hb : Below w.heap.size w w') : Cvs w' A l := fun i c hc => by
  obtain ⟨g, o, A1, c1, A2, c2, h1, h2, h3, h4, h5, h6⟩ := h i c hc
  exact ⟨g, o, A1, c1, A2, c2, h1, Nat.lt_of_lt_of_le h2 hb.size, fun j v hv => (hb.cell (p := ⟨g, o + i * 10 + j, none⟩) h2).trans (h3 j v hv), h4.below hb (Nat.le_refl _), h5.below hb (Nat.le_refl _), h6⟩
theorem Cvs.one {w : World} {g : Nat} {c : Cav} {A1 A2 : Option Addr} {c1 c2 : Nat} (h : CvRow w g c.third c.first c.party (.slice A1 c.ticket.length c1) (.slice A2 c.box.length c2)) (h1 : Bytes w (fun _ => True) (.slice A1 c.ticket.length c1) c.ticket) (h2 : Bytes w (fun _ => True) (.slice A2 c.box.length c2) c.box) (hw : Cwf c) : Cvs w (some ⟨g, 0, none⟩) [c] := fun i d hd => by
  match i, hd with
  | 0, hd =>
    injection hd with hd
    subst hd
    refine ⟨g, 0, A1, c1, A2, c2, rfl, h.lt, fun j v hj => ?_, h1, h2, hw⟩
    show w.cell? ⟨g, 0 + 0 * 10 + j, none⟩ = some v
    rw [Nat.zero_mul, Nat.zero_add, Whole.cell h]
    unfold cvrow
    rw [List.getElem?_toArray]
    exact hj
  | n + 1, hd => simp at hd
theorem take_ne {a b : List Cav} {j : Nat} {x y : Cav} (ha : a[j]? = some x) (hb : b[j]? = some y) (h : x ≠ y) : a ≠ b := fun e => by
  subst e
  rw [ha] at hb
  injection hb with hb
  exact h hb
/-- Behind the region that takes two elements. -/
def TwP (P : World) (x y : Cav) (A1 A2 B1 B2 : Option Addr) (c1 c2 d1 d2 : Nat) (s6 s7 : Value) (wx : World) : Prop := ∃ G H, s6 = .pointer (some ⟨G, 0, none⟩) ∧ s7 = .pointer (some ⟨H, 0, none⟩) ∧ CvRow wx G x.third x.first x.party (.slice A1 x.ticket.length c1) (.slice A2 x.box.length c2) ∧ CvRow wx H y.third y.first y.party (.slice B1 y.ticket.length d1) (.slice B2 y.box.length d2) ∧ Below P.heap.size P wx
set_option linter.unusedSimpArgs false in
set_option linter.unusedVariables false in
set_option maxRecDepth 100000 in
set_option maxHeartbeats 4000000 in
theorem rcsame {w : World} {A B : Option Addr} {ca cb : Nat} {la lb : List Cav} (hA : Cvs w A la) (hB : Cvs w B lb) (hla : la.length ≤ 100000) (hlb : lb.length ≤ 100000) :
    Calls Try.prog 14 #[.slice A la.length ca, .slice B lb.length cb] w fun e w' => e = .returned (.bool (decide (la = lb))) ∧ Below w.heap.size w w' := by
  obtain ⟨R, hR⟩ : ∃ R, R = decide (la = lb) := ⟨_, rfl⟩
  rw [← hR]
  have HR := Lib.hid hR
  have HA := Lib.hid hA
  have HB := Lib.hid hB
  obtain ⟨n, hn⟩ : ∃ n, n = la.length := ⟨_, rfl⟩
  obtain ⟨m, hm⟩ : ∃ m, m = lb.length := ⟨_, rfl⟩
  rw [← hn] at hla ⊢
  rw [← hm] at hlb ⊢
  have HN := Lib.hid (And.intro hn hm)
  clear hR hA hB hn hm
  by_cases hlen : n = m
  case neg =>
    have hRR : R = false := by rw [HR.out]; exact decide_eq_false fun e => hlen (by rw [HN.out.1, HN.out.2, e])
    have hlen2 : ¬ (n : Int) = (m : Int) := by omega
    subst hRR
    clear HR HA HB HN
    go_enter Try.func14, Try.ntmps14
    go_wp2_with fail
    go_ret
    exact ⟨rfl, Below.refl _ _⟩
  subst hlen
  go_enter Try.func14, Try.ntmps14
  go_wp2_with fail
  go_loopw [5] (fun v wr => ∃ j : Nat, v = .int .i64 j ∧ j ≤ n ∧ la.take j = lb.take j ∧ Below w.heap.size w wr) (fun v _ => n - (intOf v).toNat)
  case atStart => exact ⟨0, rfl, by omega, rfl, Below.refl _ _⟩
  case round =>
    obtain ⟨j, rfl, hj, htk, hbw⟩ := hrel
    have hswr : w.heap.size ≤ wr.heap.size := hbw.size
    have HTK := Lib.hid htk
    have HBW := Lib.hid hbw
    clear htk hbw
    by_cases hlt : j < n
    case neg =>
      obtain rfl : j = n := by omega
      have hRR : R = true := by
        rw [HR.out]
        refine decide_eq_true ?_
        have := HTK.out
        rwa [List.take_of_length_le (by rw [← HN.out.1]; omega), List.take_of_length_le (by rw [← HN.out.2]; omega)] at this
      subst hRR
      clear hlt hj
      go_wp2_with fail
      go_ret
      exact ⟨rfl, HBW.out⟩
    obtain ⟨x, hx⟩ : ∃ x, la[j]? = some x := ⟨_, List.getElem?_eq_getElem (by have := HN.out.1; omega)⟩
    obtain ⟨y, hy⟩ : ∃ y, lb[j]? = some y := ⟨_, List.getElem?_eq_getElem (by have := HN.out.2; omega)⟩
    have hA2 := HA.out.below HBW.out
    have hB2 := HB.out.below HBW.out
    obtain ⟨g, o, A1, c1, A2, c2, hAe, hgl, hra, hat, hab, hwfa⟩ := hA2 j x hx
    obtain ⟨h, q, B1, d1, B2, d2, hBe, hhl, hrb, hbt, hbb, hwfb⟩ := hB2 j y hy
    have HXY := Lib.hid (And.intro hx hy)
    have HAT := Lib.hid hat
    have HAB := Lib.hid hab
    have HBT := Lib.hid hbt
    have HBB := Lib.hid hbb
    have HWF := Lib.hid (And.intro hwfa hwfb)
    have hcc : ∀ W, Below wr.heap.size wr W → W.rangeAt g (o + j * 10) [.bool x.third, .int .i64 x.first.kind, .int .u64 (x.first.mask : Int), .int .i64 x.first.lo, .int .i64 x.first.hi, .string (sof x.first.name), .int .i64 x.first.num, .int .i64 x.party, .slice A1 x.ticket.length c1, .slice A2 x.box.length c2] ∧ W.rangeAt h (q + j * 10) [.bool y.third, .int .i64 y.first.kind, .int .u64 (y.first.mask : Int), .int .i64 y.first.lo, .int .i64 y.first.hi, .string (sof y.first.name), .int .i64 y.first.num, .int .i64 y.party, .slice B1 y.ticket.length d1, .slice B2 y.box.length d2] := fun W hW => ⟨fun i v hv => (hW.cell (p := ⟨g, o + j * 10 + i, none⟩) hgl).trans (hra i v hv), fun i v hv => (hW.cell (p := ⟨h, q + j * 10 + i, none⟩) hhl).trans (hrb i v hv)⟩
    have HCC := Lib.hid hcc
    have HAE := Lib.hid (And.intro hAe hBe)
    have j0 : (0 : Int) ≤ (j : Int) := by omega
    have jn : (j : Int) < (n : Int) := by omega
    subst hAe hBe
    clear hx hy hA2 hB2 hra hrb hat hab hbt hbb hwfa hwfb hcc
    go_upto_region 6 with fail
    (try simp only [Act.put])
    go_cut [6, 7] (fun s6 s7 wx => TwP wr x y A1 A2 B1 B2 c1 c2 d1 d2 s6 s7 wx)
    case first =>
      have hb0 : Below wr.heap.size wr wr.drew := (Below.refl _ _).drew
      refine wp_region_held_drew (S := fun W : World => W.rangeAt g (o + j * 10) [.bool x.third, .int .i64 x.first.kind, .int .u64 (x.first.mask : Int), .int .i64 x.first.lo, .int .i64 x.first.hi, .string (sof x.first.name), .int .i64 x.first.num, .int .i64 x.party, .slice A1 x.ticket.length c1, .slice A2 x.box.length c2] ∧ W.rangeAt h (q + j * 10) [.bool y.third, .int .i64 y.first.kind, .int .u64 (y.first.mask : Int), .int .i64 y.first.lo, .int .i64 y.first.hi, .string (sof y.first.name), .int .i64 y.first.num, .int .i64 y.party, .slice B1 y.ticket.length d1, .slice B2 y.box.length d2]) (by kernel_rfl) (HCC.out _ hb0) (fun hHeld => ?_)
      generalize wr.drew = W0 at hb0 hHeld ⊢
      apply wpAnyH_take (i := 0) rfl (by kernel_rfl) (by kernel_rfl) (by kernel_rfl)
      case hQ => exact fun _ _ _ h => h
      case hS => exact hHeld
      case hy => (refine Or.inl ⟨by rfl, ?_⟩; intro w hSw; (try go_split_ands); go_simp; (try with_reducible rfl))
      (try simp only [List.getElem_toArray, List.getElem_cons_zero, Act.put, List.setIfInBounds_toArray, List.set_cons_zero, List.set_cons_succ])
      apply wpAnyH_take (i := 1) rfl (by kernel_rfl) (by kernel_rfl) (by kernel_rfl)
      case hQ => exact fun _ _ _ h => h
      case hS => exact hHeld
      case hy => (refine Or.inl ⟨by rfl, ?_⟩; intro w hSw; (try go_split_ands); go_simp; (try with_reducible rfl))
      (try simp only [List.getElem_toArray, List.getElem_cons_succ, List.getElem_cons_zero, Act.put, List.setIfInBounds_toArray, List.set_cons_zero, List.set_cons_succ])
      apply wpAnyH_take (i := 2) rfl (by kernel_rfl) (by kernel_rfl) (by kernel_rfl)
      case hQ => exact fun _ _ _ h => h
      case hS => exact hHeld
      case hy => (refine Or.inl ⟨by rfl, ?_⟩; intro w hSw; (try go_split_ands); go_simp; (try with_reducible rfl))
      (try simp only [List.getElem_toArray, List.getElem_cons_succ, List.getElem_cons_zero, Act.put, List.setIfInBounds_toArray, List.set_cons_zero, List.set_cons_succ])
      apply wpAnyH_take (i := 3) rfl (by kernel_rfl) (by kernel_rfl) (by kernel_rfl)
      case hQ => exact fun _ _ _ h => h
      case hS => exact hHeld
      case hy => exact yieldsIf_load_mid (by rfl) 27 _ rfl g ((o + j * 10)) rfl ([.bool x.third, .int .i64 x.first.kind, .int .u64 (x.first.mask : Int), .int .i64 x.first.lo, .int .i64 x.first.hi, .string (sof x.first.name), .int .i64 x.first.num, .int .i64 x.party, .slice A1 x.ticket.length c1, .slice A2 x.box.length c2]) _ (fun w hS => hS.1) Try.underlying27 rfl (by rw [cavSize]; rfl)
      (try simp only [List.getElem_toArray, List.getElem_cons_succ, List.getElem_cons_zero, Act.put, List.setIfInBounds_toArray, List.set_cons_zero, List.set_cons_succ])
      apply wpAnyH_take (i := 4) rfl (by kernel_rfl) (by kernel_rfl) (by kernel_rfl)
      case hQ => exact fun _ _ _ h => h
      case hS => exact hHeld
      case hy => (refine Or.inl ⟨by rfl, ?_⟩; intro w hSw; (try go_split_ands); go_simp; (try with_reducible rfl))
      (try simp only [List.getElem_toArray, List.getElem_cons_succ, List.getElem_cons_zero, Act.put, List.setIfInBounds_toArray, List.set_cons_zero, List.set_cons_succ])
      apply wpAnyH_take (i := 5) rfl (by kernel_rfl) (by kernel_rfl) (by kernel_rfl)
      case hQ => exact fun _ _ _ h => h
      case hS => exact hHeld
      case hy => (refine Or.inl ⟨by rfl, ?_⟩; intro w hSw; (try go_split_ands); go_simp; (try with_reducible rfl))
      (try simp only [List.getElem_toArray, List.getElem_cons_succ, List.getElem_cons_zero, Act.put, List.setIfInBounds_toArray, List.set_cons_zero, List.set_cons_succ])
      apply wpAnyH_take (i := 6) rfl (by kernel_rfl) (by kernel_rfl) (by kernel_rfl)
      case hQ => exact fun _ _ _ h => h
      case hS => exact hHeld
      case hy => (refine Or.inl ⟨by rfl, ?_⟩; intro w hSw; (try go_split_ands); go_simp; (try with_reducible rfl))
      (try simp only [List.getElem_toArray, List.getElem_cons_succ, List.getElem_cons_zero, Act.put, List.setIfInBounds_toArray, List.set_cons_zero, List.set_cons_succ])
      apply wpAnyH_take (i := 7) rfl (by kernel_rfl) (by kernel_rfl) (by kernel_rfl)
      case hQ => exact fun _ _ _ h => h
      case hS => exact hHeld
      case hy => exact yieldsIf_load_mid (by rfl) 27 _ rfl h ((q + j * 10)) rfl ([.bool y.third, .int .i64 y.first.kind, .int .u64 (y.first.mask : Int), .int .i64 y.first.lo, .int .i64 y.first.hi, .string (sof y.first.name), .int .i64 y.first.num, .int .i64 y.party, .slice B1 y.ticket.length d1, .slice B2 y.box.length d2]) _ (fun w hS => hS.2) Try.underlying27 rfl (by rw [cavSize]; rfl)
      (try simp only [List.getElem_toArray, List.getElem_cons_succ, List.getElem_cons_zero, Act.put, List.setIfInBounds_toArray, List.set_cons_zero, List.set_cons_succ])
      refine wpAnyH_ready (rs := [8, 9]) (by kernel_rfl) (by simp) ?_
      refine AllReadyH.cons rfl (fun KK hKK => ?_) (AllReadyH.cons rfl (fun KK hKK => ?_) AllReadyH.nil)
      · (try simp only [List.getElem_toArray, List.getElem_cons_succ, List.getElem_cons_zero])
        go_simp
        obtain ⟨GX, hGX⟩ : ∃ g, g = W0.heap.size := ⟨_, rfl⟩
        obtain ⟨V1, hV1⟩ : ∃ x, x = W0.alloc (.cells #[.bool false, .int .i64 0, .int .u64 0, .int .i64 0, .int .i64 0, .string { data := #[] }, .int .i64 0, .int .i64 0, .slice none 0 0, .slice none 0 0] 27) := ⟨_, rfl⟩
        have hb1 : Below wr.heap.size wr V1 := by rw [hV1]; exact hb0.alloc hb0.size _
        have zGX1 : Whole V1 GX 27 #[.bool false, .int .i64 0, .int .u64 0, .int .i64 0, .int .i64 0, .string { data := #[] }, .int .i64 0, .int .i64 0, .slice none 0 0, .slice none 0 0] := by rw [hV1, hGX]; exact Whole.here _ _ _
        have pGX : wr.heap.size ≤ GX := by rw [hGX]; exact hb0.size
        rw [← hGX, ← hV1]
        clear hV1 hGX
        refine hKK.out _ _ (HCC.out _ hb1) (fun hHeld => ?_)
        clear hKK KK
        (try simp only [List.getElem_toArray, List.getElem_cons_succ, List.getElem_cons_zero, Act.put, List.setIfInBounds_toArray, List.set_cons_zero, List.set_cons_succ])
        refine wpAnyH_ready (rs := [9]) (by kernel_rfl) (by simp) ?_
        refine AllReadyH.cons rfl (fun KK hKK => ?_) AllReadyH.nil
        (try simp only [List.getElem_toArray, List.getElem_cons_succ, List.getElem_cons_zero])
        go_simp
        obtain ⟨GY, hGY⟩ : ∃ g, g = V1.heap.size := ⟨_, rfl⟩
        obtain ⟨V2, hV2⟩ : ∃ x, x = V1.alloc (.cells #[.bool false, .int .i64 0, .int .u64 0, .int .i64 0, .int .i64 0, .string { data := #[] }, .int .i64 0, .int .i64 0, .slice none 0 0, .slice none 0 0] 27) := ⟨_, rfl⟩
        have hb2 : Below wr.heap.size wr V2 := by rw [hV2]; exact hb1.alloc hb1.size _
        have zGY2 : Whole V2 GY 27 #[.bool false, .int .i64 0, .int .u64 0, .int .i64 0, .int .i64 0, .string { data := #[] }, .int .i64 0, .int .i64 0, .slice none 0 0, .slice none 0 0] := by rw [hV2, hGY]; exact Whole.here _ _ _
        have pGY : wr.heap.size ≤ GY := by rw [hGY]; exact hb1.size
        have zGX2 : Whole V2 GX 27 #[.bool false, .int .i64 0, .int .u64 0, .int .i64 0, .int .i64 0, .string { data := #[] }, .int .i64 0, .int .i64 0, .slice none 0 0, .slice none 0 0] := by rw [hV2]; exact zGX1.alloc _
        have hne : GX ≠ GY := by have := Whole.lt zGX1; omega
        rw [← hGY, ← hV2]
        clear hV2 hGY
        refine hKK.out _ _ (HCC.out _ hb2) (fun hHeld => ?_)
        clear hKK KK
        (try simp only [List.getElem_toArray, List.getElem_cons_succ, List.getElem_cons_zero, Act.put, List.setIfInBounds_toArray, List.set_cons_zero, List.set_cons_succ])
        refine wpAnyH_ready (rs := [10]) (by kernel_rfl) (by simp) ?_
        refine AllReadyH.cons rfl (fun KK hKK => ?_) AllReadyH.nil
        obtain ⟨V3, hV3⟩ : ∃ qq, qq = V2.setRow GX (cvrow x.third x.first x.party (.slice A1 x.ticket.length c1) (.slice A2 x.box.length c2)) := ⟨_, rfl⟩
        have nGX3 : CvRow V3 GX x.third x.first x.party (.slice A1 x.ticket.length c1) (.slice A2 x.box.length c2) := by rw [hV3]; exact Whole.setRow zGX2 _
        have hb3 : Below wr.heap.size wr V3 := by rw [hV3]; exact below_setRow hb2 pGX _
        have zGY3 := Whole.setRow_far zGY2 (by omega : GY ≠ GX) (cvrow x.third x.first x.party (.slice A1 x.ticket.length c1) (.slice A2 x.box.length c2))
        rw [← hV3] at zGY3
        rw [if_pos (by kernel_rfl)]
        refine wp_store_row 27 _ _ rfl (GX) (cvrow x.third x.first x.party (.slice A1 x.ticket.length c1) (.slice A2 x.box.length c2)) rfl rfl 27 _ zGX2 (by rw [cavSize]; rfl) (by rfl) (by simp [Value.oneCell']) ?_
        rw [← hV3]
        clear hV3
        refine hKK.out _ _ (HCC.out _ hb3) (fun hHeld => ?_)
        clear hKK KK
        (try simp only [List.getElem_toArray, List.getElem_cons_succ, List.getElem_cons_zero, Act.put, List.setIfInBounds_toArray, List.set_cons_zero, List.set_cons_succ])
        refine wpAnyH_ready (rs := [11]) (by kernel_rfl) (by simp) ?_
        refine AllReadyH.cons rfl (fun KK hKK => ?_) AllReadyH.nil
        obtain ⟨V4, hV4⟩ : ∃ qq, qq = V3.setRow GY (cvrow y.third y.first y.party (.slice B1 y.ticket.length d1) (.slice B2 y.box.length d2)) := ⟨_, rfl⟩
        have nGY4 : CvRow V4 GY y.third y.first y.party (.slice B1 y.ticket.length d1) (.slice B2 y.box.length d2) := by rw [hV4]; exact Whole.setRow zGY3 _
        have hb4 : Below wr.heap.size wr V4 := by rw [hV4]; exact below_setRow hb3 pGY _
        have nGX4 := Whole.setRow_far nGX3 (by omega : GX ≠ GY) (cvrow y.third y.first y.party (.slice B1 y.ticket.length d1) (.slice B2 y.box.length d2))
        rw [← hV4] at nGX4
        rw [if_pos (by kernel_rfl)]
        refine wp_store_row 27 _ _ rfl (GY) (cvrow y.third y.first y.party (.slice B1 y.ticket.length d1) (.slice B2 y.box.length d2)) rfl rfl 27 _ zGY3 (by rw [cavSize]; rfl) (by rfl) (by simp [Value.oneCell']) ?_
        rw [← hV4]
        clear hV4
        refine hKK.out _ _ (HCC.out _ hb4) (fun hHeld => ?_)
        clear hKK KK
        (try simp only [List.getElem_toArray, List.getElem_cons_succ, List.getElem_cons_zero, Act.put, List.setIfInBounds_toArray, List.set_cons_zero, List.set_cons_succ])
        refine wpAnyH_done (by kernel_rfl) ?_ _
        go_wp2_with fail
        go_meet
        exact ⟨GX, GY, rfl, rfl, nGX4, nGY4, hb4⟩
      · (try simp only [List.getElem_toArray, List.getElem_cons_succ, List.getElem_cons_zero])
        go_simp
        obtain ⟨GY, hGY⟩ : ∃ g, g = W0.heap.size := ⟨_, rfl⟩
        obtain ⟨V5, hV5⟩ : ∃ x, x = W0.alloc (.cells #[.bool false, .int .i64 0, .int .u64 0, .int .i64 0, .int .i64 0, .string { data := #[] }, .int .i64 0, .int .i64 0, .slice none 0 0, .slice none 0 0] 27) := ⟨_, rfl⟩
        have hb5 : Below wr.heap.size wr V5 := by rw [hV5]; exact hb0.alloc hb0.size _
        have zGY5 : Whole V5 GY 27 #[.bool false, .int .i64 0, .int .u64 0, .int .i64 0, .int .i64 0, .string { data := #[] }, .int .i64 0, .int .i64 0, .slice none 0 0, .slice none 0 0] := by rw [hV5, hGY]; exact Whole.here _ _ _
        have pGY : wr.heap.size ≤ GY := by rw [hGY]; exact hb0.size
        rw [← hGY, ← hV5]
        clear hV5 hGY
        refine hKK.out _ _ (HCC.out _ hb5) (fun hHeld => ?_)
        clear hKK KK
        (try simp only [List.getElem_toArray, List.getElem_cons_succ, List.getElem_cons_zero, Act.put, List.setIfInBounds_toArray, List.set_cons_zero, List.set_cons_succ])
        refine wpAnyH_ready (rs := [8]) (by kernel_rfl) (by simp) ?_
        refine AllReadyH.cons rfl (fun KK hKK => ?_) AllReadyH.nil
        (try simp only [List.getElem_toArray, List.getElem_cons_succ, List.getElem_cons_zero])
        go_simp
        obtain ⟨GX, hGX⟩ : ∃ g, g = V5.heap.size := ⟨_, rfl⟩
        obtain ⟨V6, hV6⟩ : ∃ x, x = V5.alloc (.cells #[.bool false, .int .i64 0, .int .u64 0, .int .i64 0, .int .i64 0, .string { data := #[] }, .int .i64 0, .int .i64 0, .slice none 0 0, .slice none 0 0] 27) := ⟨_, rfl⟩
        have hb6 : Below wr.heap.size wr V6 := by rw [hV6]; exact hb5.alloc hb5.size _
        have zGX6 : Whole V6 GX 27 #[.bool false, .int .i64 0, .int .u64 0, .int .i64 0, .int .i64 0, .string { data := #[] }, .int .i64 0, .int .i64 0, .slice none 0 0, .slice none 0 0] := by rw [hV6, hGX]; exact Whole.here _ _ _
        have pGX : wr.heap.size ≤ GX := by rw [hGX]; exact hb5.size
        have zGY6 : Whole V6 GY 27 #[.bool false, .int .i64 0, .int .u64 0, .int .i64 0, .int .i64 0, .string { data := #[] }, .int .i64 0, .int .i64 0, .slice none 0 0, .slice none 0 0] := by rw [hV6]; exact zGY5.alloc _
        have hne : GX ≠ GY := by have := Whole.lt zGY5; omega
        rw [← hGX, ← hV6]
        clear hV6 hGX
        refine hKK.out _ _ (HCC.out _ hb6) (fun hHeld => ?_)
        clear hKK KK
        (try simp only [List.getElem_toArray, List.getElem_cons_succ, List.getElem_cons_zero, Act.put, List.setIfInBounds_toArray, List.set_cons_zero, List.set_cons_succ])
        refine wpAnyH_ready (rs := [10]) (by kernel_rfl) (by simp) ?_
        refine AllReadyH.cons rfl (fun KK hKK => ?_) AllReadyH.nil
        obtain ⟨V7, hV7⟩ : ∃ qq, qq = V6.setRow GX (cvrow x.third x.first x.party (.slice A1 x.ticket.length c1) (.slice A2 x.box.length c2)) := ⟨_, rfl⟩
        have nGX7 : CvRow V7 GX x.third x.first x.party (.slice A1 x.ticket.length c1) (.slice A2 x.box.length c2) := by rw [hV7]; exact Whole.setRow zGX6 _
        have hb7 : Below wr.heap.size wr V7 := by rw [hV7]; exact below_setRow hb6 pGX _
        have zGY7 := Whole.setRow_far zGY6 (by omega : GY ≠ GX) (cvrow x.third x.first x.party (.slice A1 x.ticket.length c1) (.slice A2 x.box.length c2))
        rw [← hV7] at zGY7
        rw [if_pos (by kernel_rfl)]
        refine wp_store_row 27 _ _ rfl (GX) (cvrow x.third x.first x.party (.slice A1 x.ticket.length c1) (.slice A2 x.box.length c2)) rfl rfl 27 _ zGX6 (by rw [cavSize]; rfl) (by rfl) (by simp [Value.oneCell']) ?_
        rw [← hV7]
        clear hV7
        refine hKK.out _ _ (HCC.out _ hb7) (fun hHeld => ?_)
        clear hKK KK
        (try simp only [List.getElem_toArray, List.getElem_cons_succ, List.getElem_cons_zero, Act.put, List.setIfInBounds_toArray, List.set_cons_zero, List.set_cons_succ])
        refine wpAnyH_ready (rs := [11]) (by kernel_rfl) (by simp) ?_
        refine AllReadyH.cons rfl (fun KK hKK => ?_) AllReadyH.nil
        obtain ⟨V8, hV8⟩ : ∃ qq, qq = V7.setRow GY (cvrow y.third y.first y.party (.slice B1 y.ticket.length d1) (.slice B2 y.box.length d2)) := ⟨_, rfl⟩
        have nGY8 : CvRow V8 GY y.third y.first y.party (.slice B1 y.ticket.length d1) (.slice B2 y.box.length d2) := by rw [hV8]; exact Whole.setRow zGY7 _
        have hb8 : Below wr.heap.size wr V8 := by rw [hV8]; exact below_setRow hb7 pGY _
        have nGX8 := Whole.setRow_far nGX7 (by omega : GX ≠ GY) (cvrow y.third y.first y.party (.slice B1 y.ticket.length d1) (.slice B2 y.box.length d2))
        rw [← hV8] at nGX8
        rw [if_pos (by kernel_rfl)]
        refine wp_store_row 27 _ _ rfl (GY) (cvrow y.third y.first y.party (.slice B1 y.ticket.length d1) (.slice B2 y.box.length d2)) rfl rfl 27 _ zGY7 (by rw [cavSize]; rfl) (by rfl) (by simp [Value.oneCell']) ?_
        rw [← hV8]
        clear hV8
        refine hKK.out _ _ (HCC.out _ hb8) (fun hHeld => ?_)
        clear hKK KK
        (try simp only [List.getElem_toArray, List.getElem_cons_succ, List.getElem_cons_zero, Act.put, List.setIfInBounds_toArray, List.set_cons_zero, List.set_cons_succ])
        refine wpAnyH_done (by kernel_rfl) ?_ _
        go_wp2_with fail
        go_meet
        exact ⟨GX, GY, rfl, rfl, nGX8, nGY8, hb8⟩
    case rest =>
      obtain ⟨GX, GY, rfl, rfl, hx, hy, hbc⟩ := hcut
      have hswc : wr.heap.size ≤ wc.heap.size := hbc.size
      obtain ⟨x0, x7, x8, x9⟩ := CvRow.cells hx
      obtain ⟨y0, y7, y8, y9⟩ := CvRow.cells hy
      have HX := Lib.hid hx
      have HY := Lib.hid hy
      have HG := Lib.hid (HBW.out.trans (hbc.mono hswr))
      have hat := HAT.out.below hbc (Nat.le_refl _)
      have hab := HAB.out.below hbc (Nat.le_refl _)
      have hbt := HBT.out.below hbc (Nat.le_refl _)
      have hbb := HBB.out.below hbc (Nat.le_refl _)
      have hGX := hx.lt
      have hGY := hy.lt
      have hl := HWF.out
      obtain ⟨⟨-, -, hl1, hl2⟩, ⟨-, -, hl3, hl4⟩⟩ := hl
      have kg := fun u v W => guard_prdn u v x.first y.first W
      have kq := fun W => neq_prds x.first y.first W
      have HAT2 := Lib.hid hat
      have HAB2 := Lib.hid hab
      have HBT2 := Lib.hid hbt
      have HBB2 := Lib.hid hbb
      clear hx hy hbc hat hab hbt hbb
      obtain ⟨xth, hxth⟩ : ∃ b, b = x.third := ⟨_, rfl⟩
      obtain ⟨yth, hyth⟩ : ∃ b, b = y.third := ⟨_, rfl⟩
      rw [← hxth] at x0
      rw [← hyth] at y0
      have HTH := Lib.hid (And.intro hxth hyth)
      clear hxth hyth
      by_cases hth : xth = yth
      case neg =>
        have hRR : R = false := by
          rw [HR.out]
          exact decide_eq_false (take_ne HXY.out.1 HXY.out.2 fun e => hth (by rw [HTH.out.1, HTH.out.2, e]))
        subst hRR
        have kth : (xth != yth) = true := by simpa using hth
        clear hth kq kg
        cases xth <;> cases yth <;> first | (exact absurd kth (by decide)) | skip
        all_goals
          clear kth
          go_wp2_with fail
          go_ret
          exact ⟨rfl, HG.out⟩
      subst hth
      by_cases hfi : x.first = y.first
      case neg =>
        have hRR : R = false := by
          rw [HR.out]
          exact decide_eq_false (take_ne HXY.out.1 HXY.out.2 fun e => hfi (by rw [e]))
        subst hRR
        rw [decide_eq_false hfi] at kq
        clear hfi
        cases xth
        all_goals
          go_wp2_with (first
            | (with_reducible refine wpList_load_guarded (by with_unfolding_all rfl) _ rfl rfl HX.out ?_)
            | (with_reducible refine wpList_load_guarded (by with_unfolding_all rfl) _ rfl rfl HY.out ?_))
          go_ret
          exact ⟨rfl, HG.out⟩
      rw [decide_eq_true hfi] at kq
      have HFI := Lib.hid hfi
      clear hfi
      by_cases hpa : x.party = y.party
      case neg =>
        have hRR : R = false := by
          rw [HR.out]
          exact decide_eq_false (take_ne HXY.out.1 HXY.out.2 fun e => hpa (by rw [e]))
        subst hRR
        cases xth
        all_goals
          go_wp2_with (first
            | (with_reducible refine wpList_load_guarded (by with_unfolding_all rfl) _ rfl rfl HX.out ?_)
            | (with_reducible refine wpList_load_guarded (by with_unfolding_all rfl) _ rfl rfl HY.out ?_))
          go_ret
          exact ⟨rfl, HG.out⟩
      have HPA := Lib.hid hpa
      rw [hpa] at x7
      clear hpa
      by_cases hti : x.ticket = y.ticket
      case neg =>
        have hRR : R = false := by
          rw [HR.out]
          exact decide_eq_false (take_ne HXY.out.1 HXY.out.2 fun e => hti (by rw [e]))
        subst hRR
        have hcl := same_ (.slice A1 x.ticket.length c1) (.slice B1 y.ticket.length d1) x.ticket y.ticket _ _ wc HAT2.out HBT2.out (by omega) (by omega)
        rw [decide_eq_false hti] at hcl
        clear hti
        cases xth
        all_goals
          go_wp2_with (first
            | (with_reducible refine wpList_load_guarded (by with_unfolding_all rfl) _ rfl rfl HX.out ?_)
            | (with_reducible refine wpList_load_guarded (by with_unfolding_all rfl) _ rfl rfl HY.out ?_))
          refine hcl.mono ?_
          rintro e w1 ⟨rfl, hb1⟩
          have HG1 := Lib.hid (HG.out.trans (hb1.mono HG.out.size))
          clear hb1 hcl
          go_wp2_with fail
          go_ret
          exact ⟨rfl, HG1.out⟩
      have hcl := same_ (.slice A1 x.ticket.length c1) (.slice B1 y.ticket.length d1) x.ticket y.ticket _ _ wc HAT2.out HBT2.out (by omega) (by omega)
      rw [decide_eq_true hti] at hcl
      have HTI := Lib.hid hti
      clear hti
      by_cases hbx : x.box = y.box
      case neg =>
        have hRR : R = false := by
          rw [HR.out]
          exact decide_eq_false (take_ne HXY.out.1 HXY.out.2 fun e => hbx (by rw [e]))
        subst hRR
        cases xth
        all_goals
          go_wp2_with (first
            | (with_reducible refine wpList_load_guarded (by with_unfolding_all rfl) _ rfl rfl HX.out ?_)
            | (with_reducible refine wpList_load_guarded (by with_unfolding_all rfl) _ rfl rfl HY.out ?_))
          refine hcl.mono ?_
          rintro e w1 ⟨rfl, hb1⟩
          clear hcl
          have hcl := same_ (.slice A2 x.box.length c2) (.slice B2 y.box.length d2) x.box y.box _ _ w1 (HAB2.out.below hb1 (Nat.le_refl _)) (HBB2.out.below hb1 (Nat.le_refl _)) (by omega) (by omega)
          rw [decide_eq_false hbx] at hcl
          obtain ⟨x0, x7, x8, x9⟩ := CvRow.cells (Whole.below HX.out hb1 hGX)
          obtain ⟨y0, y7, y8, y9⟩ := CvRow.cells (Whole.below HY.out hb1 hGY)
          have HG1 := Lib.hid (HG.out.trans (hb1.mono HG.out.size))
          clear hb1 x0 y0 x7 y7
          go_wp2_with fail
          refine hcl.mono ?_
          rintro e w2 ⟨rfl, hb2⟩
          have HG2 := Lib.hid (HG1.out.trans (hb2.mono HG1.out.size))
          clear hb2 hcl
          go_wp2_with fail
          go_ret
          exact ⟨rfl, HG2.out⟩
      have hxy : x = y := by
        have h1 : x.third = y.third := by rw [← HTH.out.1, ← HTH.out.2]
        have h2 := HFI.out
        have h3 := HPA.out
        have h4 := HTI.out
        obtain ⟨_, _, _, _, _⟩ := x
        obtain ⟨_, _, _, _, _⟩ := y
        simp only [Cav.mk.injEq]
        exact ⟨h1, h2, h3, h4, hbx⟩
      have htk : la.take (j + 1) = lb.take (j + 1) := by
        rw [List.take_add_one, List.take_add_one, HXY.out.1, HXY.out.2, HTK.out, hxy]
      have HTK1 := Lib.hid htk
      have HBX := Lib.hid hbx
      clear hxy htk hbx
      cases xth
      all_goals
        go_wp2_with (first
          | (with_reducible refine wpList_load_guarded (by with_unfolding_all rfl) _ rfl rfl HX.out ?_)
          | (with_reducible refine wpList_load_guarded (by with_unfolding_all rfl) _ rfl rfl HY.out ?_))
        refine hcl.mono ?_
        rintro e w1 ⟨rfl, hb1⟩
        clear hcl
        have hcl := same_ (.slice A2 x.box.length c2) (.slice B2 y.box.length d2) x.box y.box _ _ w1 (HAB2.out.below hb1 (Nat.le_refl _)) (HBB2.out.below hb1 (Nat.le_refl _)) (by omega) (by omega)
        rw [decide_eq_true HBX.out] at hcl
        obtain ⟨x0, x7, x8, x9⟩ := CvRow.cells (Whole.below HX.out hb1 hGX)
        obtain ⟨y0, y7, y8, y9⟩ := CvRow.cells (Whole.below HY.out hb1 hGY)
        have HG1 := Lib.hid (HG.out.trans (hb1.mono HG.out.size))
        clear hb1 x0 y0 x7 y7
        go_wp2_with fail
        refine hcl.mono ?_
        rintro e w2 ⟨rfl, hb2⟩
        have HG2 := Lib.hid (HG1.out.trans (hb2.mono HG1.out.size))
        clear hb2 hcl
        go_wp2_with fail
        go_roundw
        case rel => exact ⟨j + 1, by go_num, by omega, HTK1.out, HG2.out⟩
        case measure => simp [intOf]; omega
end Go.Proofs.Ytodmfippjcfbbaa
namespace Go.Proofs.Ytodmfippjcfbbaa
open Go Go.RowKit Sh Leaf
namespace Sh

/-- The first-party predicates. -/
def fsts (l : List Cav) : List Prd := l.filterMap fun c => if c.third = true then none else some c.first
theorem fsts_nil : fsts [] = [] := rfl
theorem fsts_snoc {l : List Cav} {j : Nat} {c : Cav} (h : l[j]? = some c) : fsts (l.take (j + 1)) = fsts (l.take j) ++ (if c.third = true then [] else [c.first]) := by
  unfold fsts
  rw [List.take_add_one, h, List.filterMap_append]
  congr 1
  simp only [Option.toList_some, List.filterMap_cons, List.filterMap_nil]
  cases c.third <;> simp
theorem fsts_len (l : List Cav) : (fsts l).length ≤ l.length := List.length_filterMap_le _ _
theorem fsts_mem {l : List Cav} {p : Prd} (h : p ∈ fsts l) : ∃ c ∈ l, c.first = p := by
  obtain ⟨c, hc, he⟩ := List.mem_filterMap.1 h
  refine ⟨c, hc, ?_⟩
  split at he
  · cases he
  · injection he
end Sh
theorem cvs_bd {w : World} {A : Option Addr} {l : List Cav} (h : Cvs w A l) : ∀ p ∈ fsts l, pbd p := fun p hp => by
  obtain ⟨c, hc, rfl⟩ := fsts_mem hp
  obtain ⟨i, hi⟩ := List.getElem?_of_mem hc
  obtain ⟨_, _, _, _, _, _, _, _, _, _, _, hw⟩ := h i c hi
  exact ⟨hw.1, hw.2.1⟩
abbrev fcells (p : Prd) : List Value := [.int .i64 p.kind, .int .u64 (p.mask : Int), .int .i64 p.lo, .int .i64 p.hi, .string (sof p.name), .int .i64 p.num]
theorem cavCs : (Try.prog.info? 27).map (·.size) = some 10 := cavSize
/-- A load of a caveat from among others. -/
theorem wpList_load_cavr {ops : Array Oper} {rest : List Oper} {o : Oper} {a : Act} {w : World} {R : Exit → Act → World → Prop} {g off : Nat} {x : Cav} {A1 A2 : Option Addr} {c1 c2 : Nat} (hgd : o.guard = none) (y : Operand) (ho : o.op = .load 27 y) (hy : a.eval y = .pointer (some ⟨g, off, none⟩))
    (hr : w.rangeAt g off [.bool x.third, .int .i64 x.first.kind, .int .u64 (x.first.mask : Int), .int .i64 x.first.lo, .int .i64 x.first.hi, .string (sof x.first.name), .int .i64 x.first.num, .int .i64 x.party, .slice A1 x.ticket.length c1, .slice A2 x.box.length c2])
    (h : wpList Try.prog ops R rest (a.put o.dst (.agg (cvrow x.third x.first x.party (.slice A1 x.ticket.length c1) (.slice A2 x.box.length c2)))) w) : wpList Try.prog ops R (o :: rest) a w :=
  wpList_load_mid hgd 27 y ho g off hy _ _ hr Try.underlying27 rfl (by rw [cavSize]; rfl) h
/-- A load of a predicate from among caveats. -/
theorem wpList_load_prdr {ops : Array Oper} {rest : List Oper} {o : Oper} {a : Act} {w : World} {R : Exit → Act → World → Prop} {g off : Nat} {p : Prd} (hgd : o.guard = none) (y : Operand) (ho : o.op = .load 24 y) (hy : a.eval y = .pointer (some ⟨g, off, none⟩)) (hr : w.rangeAt g off (fcells p))
    (h : wpList Try.prog ops R rest (a.put o.dst (.agg #[.int .i64 p.kind, .int .u64 (p.mask : Int), .int .i64 p.lo, .int .i64 p.hi, .string (sof p.name), .int .i64 p.num])) w) : wpList Try.prog ops R (o :: rest) a w :=
  wpList_load_mid hgd 24 y ho g off hy _ _ hr Try.underlying24 rfl (by rw [prdSize]; rfl) h
set_option linter.unusedSimpArgs false in
set_option linter.unusedVariables false in
set_option maxRecDepth 100000 in
set_option maxHeartbeats 4000000 in
theorem cfirsts {w : World} {A : Option Addr} {ca : Nat} {l : List Cav} (hA : Cvs w A l) (hl : l.length ≤ 100000) :
    Calls Try.prog 11 #[.slice A l.length ca] w fun e w' => (∃ v, e = .returned v ∧ OwnP w' w.heap.size v (fsts l)) ∧ Below w.heap.size w w' := by
  have HA := Lib.hid hA
  obtain ⟨n, hn⟩ : ∃ n, n = l.length := ⟨_, rfl⟩
  rw [← hn] at hl ⊢
  have HN := Lib.hid hn
  clear hA hn
  go_enter Try.func11, Try.ntmps11
  go_wp2_with fail
  go_loopw [3, 8] (fun v3 v wr => ∃ j : Nat, v = .int .i64 j ∧ j ≤ n ∧ OwnP wr w.heap.size v3 (fsts (l.take j)) ∧ Below w.heap.size w wr) (fun _ v _ => n - (intOf v).toNat)
  case atStart => exact ⟨0, rfl, by omega, ownp_nil _ _, Below.refl _ _⟩
  case round =>
    obtain ⟨j, rfl, hj, hown, hbw⟩ := hrel
    have hswr : w.heap.size ≤ wr.heap.size := hbw.size
    have HO := Lib.hid hown
    have HBW := Lib.hid hbw
    clear hown hbw
    by_cases hlt : j < n
    case neg =>
      obtain rfl : j = n := by omega
      have hfin := HO.out
      rw [List.take_of_length_le (by rw [← HN.out]; omega)] at hfin
      have HFIN := Lib.hid hfin
      clear hlt hj hfin
      go_wp2_with fail
      go_ret
      exact ⟨⟨_, rfl, HFIN.out⟩, HBW.out⟩
    obtain ⟨x, hx⟩ : ∃ x, l[j]? = some x := ⟨_, List.getElem?_eq_getElem (by have := HN.out; omega)⟩
    have hA2 := HA.out.below HBW.out
    obtain ⟨g, o, A1, c1, A2, c2, hAe, hgl, hra, hat, hab, hwfa⟩ := hA2 j x hx
    have HX := Lib.hid hx
    have HRA := Lib.hid hra
    have HWF := Lib.hid hwfa
    have j0 : (0 : Int) ≤ (j : Int) := by omega
    have jn : (j : Int) < (n : Int) := by omega
    obtain ⟨p, hp⟩ : ∃ p, p = wr.alloc (.cells (cvrow x.third x.first x.party (.slice A1 x.ticket.length c1) (.slice A2 x.box.length c2)) 27) := ⟨_, rfl⟩
    have hrow : CvRow p wr.heap.size x.third x.first x.party (.slice A1 x.ticket.length c1) (.slice A2 x.box.length c2) := by rw [hp]; exact Whole.here _ _ _
    have hbp : Below wr.heap.size wr p := by rw [hp]; exact (Below.refl _ _).alloc (Nat.le_refl _) _
    have HROW := Lib.hid hrow
    have HBP := Lib.hid hbp
    have hsp : wr.heap.size < p.heap.size := hrow.lt
    obtain ⟨xt, hxt⟩ : ∃ t, t = x.third := ⟨_, rfl⟩
    have hc0 : p.cell? ⟨wr.heap.size, 0, none⟩ = some (.bool xt) := by rw [hxt]; exact (CvRow.cells hrow).1
    have HXT := Lib.hid hxt
    subst hAe
    clear hx hA2 hra hat hab hwfa hrow hbp hxt
    go_upto_region 5 with (with_reducible refine wpList_load_cavr rfl _ rfl rfl HRA.out ?_)
    rw [← hp]
    clear hp
    have HF := Lib.hid (CvRow.prd HROW.out)
    cases xt
    case false =>
      have hq1 : OwnP (p.alloc (.cells #[.int .i64 x.first.kind, .int .u64 (x.first.mask : Int), .int .i64 x.first.lo, .int .i64 x.first.hi, .string (sof x.first.name), .int .i64 x.first.num] 24)) w.heap.size u3 (fsts (l.take j)) := own_below HO.out (HBP.out.alloc (by omega) _) (Nat.le_refl _)
      have hq2 : (p.alloc (.cells #[.int .i64 x.first.kind, .int .u64 (x.first.mask : Int), .int .i64 x.first.lo, .int .i64 x.first.hi, .string (sof x.first.name), .int .i64 x.first.num] 24)).rangeAt p.heap.size 0 (pcs [x.first]) := Whole.range (Whole.here _ _ _)
      have HQ1 := Lib.hid hq1
      have HQ2 := Lib.hid hq2
      have hlj : (fsts (l.take j)).length ≤ 100000 := Nat.le_trans (fsts_len _) (by rw [List.length_take]; omega)
      have HLJ : Hid ((fsts (l.take j)).length + [x.first].length ≤ 1000000000) := Lib.hid (by simp; omega)
      have HSZ : Hid (w.heap.size ≤ (p.alloc (.cells #[.int .i64 x.first.kind, .int .u64 (x.first.mask : Int), .int .i64 x.first.lo, .int .i64 x.first.hi, .string (sof x.first.name), .int .i64 x.first.num] 24)).heap.size) := Lib.hid (by simp; omega)
      have HF2 : Hid (∀ v' w', OwnP w' w.heap.size v' (fsts (l.take j) ++ [x.first]) → Below w.heap.size (p.alloc (.cells #[.int .i64 x.first.kind, .int .u64 (x.first.mask : Int), .int .i64 x.first.lo, .int .i64 x.first.hi, .string (sof x.first.name), .int .i64 x.first.num] 24)) w' → OwnP w' w.heap.size v' (fsts (l.take (j + 1))) ∧ Below w.heap.size w w') := Lib.hid fun v' w' k1 k2 => by
        rw [fsts_snoc HX.out, ← HXT.out]
        exact ⟨k1, (HBW.out.trans ((HBP.out.alloc (by omega) _).mono hswr)).trans k2⟩
      clear hq1 hq2 hlj HO HBW HBP HX HXT HROW
      go_wp2_with (first
        | (with_reducible refine wpList_load_prdr rfl _ rfl rfl HF.out ?_)
        | (at_builtin; go_must (refine wpList_append_prds rfl _ _ rfl w.heap.size _ (fsts (l.take j)) rfl HQ1.out p.heap.size 0 1 [x.first] rfl HQ2.out HLJ.out HSZ.out ?_; intro v' w' k1 k2; have HG := Lib.hid (HF2.out v' w' k1 k2); clear k1 k2)))
      go_roundw
      case rel => exact ⟨j + 1, by go_num, by omega, HG.out.1, HG.out.2⟩
      case measure => simp [intOf]; omega
    case true =>
      have HG : Hid (OwnP p w.heap.size u3 (fsts (l.take (j + 1))) ∧ Below w.heap.size w p) := Lib.hid (by
        rw [fsts_snoc HX.out, ← HXT.out]
        simp only [if_pos, List.append_nil]
        exact ⟨own_below HO.out HBP.out (Nat.le_refl _), HBW.out.trans (HBP.out.mono hswr)⟩)
      clear HO HBW HBP HX HXT HROW
      go_wp2_with fail
      go_roundw
      case rel => exact ⟨j + 1, by go_num, by omega, HG.out.1, HG.out.2⟩
      case measure => simp [intOf]; omega
end Go.Proofs.Ytodmfippjcfbbaa
namespace Go.Proofs.Ytodmfippjcfbbaa
open Go Go.RowKit Sh Leaf

set_option linter.unusedSimpArgs false in
set_option linter.unusedVariables false in
set_option maxRecDepth 100000 in
set_option maxHeartbeats 4000000 in
theorem rcfirsts {w : World} {A : Option Addr} {ca : Nat} {l : List Cav} (hA : Cvs w A l) (hl : l.length ≤ 100000) :
    Calls Try.prog 12 #[.slice A l.length ca] w fun e w' => (∃ v, e = .returned v ∧ OwnP w' w.heap.size v (fsts l)) ∧ Below w.heap.size w w' := by
  have HA := Lib.hid hA
  obtain ⟨n, hn⟩ : ∃ n, n = l.length := ⟨_, rfl⟩
  rw [← hn] at hl ⊢
  have HN := Lib.hid hn
  clear hA hn
  go_enter Try.func12, Try.ntmps12
  go_wp2_with fail
  go_loopw [3, 4] (fun v3 v wr => ∃ j : Nat, v = .int .i64 j ∧ j ≤ n ∧ OwnP wr w.heap.size v3 (fsts (l.take j)) ∧ Below w.heap.size w wr) (fun _ v _ => n - (intOf v).toNat)
  case atStart => exact ⟨0, rfl, by omega, ownp_nil _ _, Below.refl _ _⟩
  case round =>
    obtain ⟨j, rfl, hj, hown, hbw⟩ := hrel
    have hswr : w.heap.size ≤ wr.heap.size := hbw.size
    have HO := Lib.hid hown
    have HBW := Lib.hid hbw
    clear hown hbw
    by_cases hlt : j < n
    case neg =>
      obtain rfl : j = n := by omega
      have hfin := HO.out
      rw [List.take_of_length_le (by rw [← HN.out]; omega)] at hfin
      have HFIN := Lib.hid hfin
      clear hlt hj hfin
      go_wp2_with fail
      go_ret
      exact ⟨⟨_, rfl, HFIN.out⟩, HBW.out⟩
    obtain ⟨x, hx⟩ : ∃ x, l[j]? = some x := ⟨_, List.getElem?_eq_getElem (by have := HN.out; omega)⟩
    have hA2 := HA.out.below HBW.out
    obtain ⟨g, o, A1, c1, A2, c2, hAe, hgl, hra, hat, hab, hwfa⟩ := hA2 j x hx
    have HX := Lib.hid hx
    have j0 : (0 : Int) ≤ (j : Int) := by omega
    have jn : (j : Int) < (n : Int) := by omega
    obtain ⟨xt, hxt⟩ : ∃ t, t = x.third := ⟨_, rfl⟩
    have hc0 : wr.cell? ⟨g, o + j * 10, none⟩ = some (.bool xt) := by rw [hxt]; exact hra 0 _ rfl
    have HF : Hid (wr.rangeAt g (o + j * 10 + 1) (fcells x.first)) := Lib.hid fun i v hv => by
      rw [show o + j * 10 + 1 + i = o + j * 10 + (i + 1) by omega]
      refine hra (i + 1) v ?_
      rw [List.getElem?_cons_succ]
      match i, hv with
      | 0, hv => exact hv
      | 1, hv => exact hv
      | 2, hv => exact hv
      | 3, hv => exact hv
      | 4, hv => exact hv
      | 5, hv => exact hv
      | n + 6, hv => simp at hv
    have HXT := Lib.hid hxt
    subst hAe
    clear hx hA2 hra hat hab hwfa hxt
    cases xt
    case false =>
      have hq1 : OwnP (wr.alloc (.cells #[.int .i64 x.first.kind, .int .u64 (x.first.mask : Int), .int .i64 x.first.lo, .int .i64 x.first.hi, .string (sof x.first.name), .int .i64 x.first.num] 24)) w.heap.size u3 (fsts (l.take j)) := own_below HO.out ((Below.refl _ _).alloc (Nat.le_refl _) _) (Nat.le_refl _)
      have hq2 : (wr.alloc (.cells #[.int .i64 x.first.kind, .int .u64 (x.first.mask : Int), .int .i64 x.first.lo, .int .i64 x.first.hi, .string (sof x.first.name), .int .i64 x.first.num] 24)).rangeAt wr.heap.size 0 (pcs [x.first]) := Whole.range (Whole.here _ _ _)
      have HQ1 := Lib.hid hq1
      have HQ2 := Lib.hid hq2
      have hlj : (fsts (l.take j)).length ≤ 100000 := Nat.le_trans (fsts_len _) (by rw [List.length_take]; omega)
      have HLJ : Hid ((fsts (l.take j)).length + [x.first].length ≤ 1000000000) := Lib.hid (by simp; omega)
      have HSZ : Hid (w.heap.size ≤ (wr.alloc (.cells #[.int .i64 x.first.kind, .int .u64 (x.first.mask : Int), .int .i64 x.first.lo, .int .i64 x.first.hi, .string (sof x.first.name), .int .i64 x.first.num] 24)).heap.size) := Lib.hid (by simp; omega)
      have HF2 : Hid (∀ v' w', OwnP w' w.heap.size v' (fsts (l.take j) ++ [x.first]) → Below w.heap.size (wr.alloc (.cells #[.int .i64 x.first.kind, .int .u64 (x.first.mask : Int), .int .i64 x.first.lo, .int .i64 x.first.hi, .string (sof x.first.name), .int .i64 x.first.num] 24)) w' → OwnP w' w.heap.size v' (fsts (l.take (j + 1))) ∧ Below w.heap.size w w') := Lib.hid fun v' w' k1 k2 => by
        rw [fsts_snoc HX.out, ← HXT.out]
        exact ⟨k1, (HBW.out.alloc hswr _).trans k2⟩
      clear hq1 hq2 hlj HO HBW HX HXT
      go_wp2_with (first
        | (with_reducible refine wpList_load_prdr rfl _ rfl rfl HF.out ?_)
        | (at_builtin; go_must (refine wpList_append_prds rfl _ _ rfl w.heap.size _ (fsts (l.take j)) rfl HQ1.out wr.heap.size 0 1 [x.first] rfl HQ2.out HLJ.out HSZ.out ?_; intro v' w' k1 k2; have HG := Lib.hid (HF2.out v' w' k1 k2); clear k1 k2)))
      go_roundw
      case rel => exact ⟨j + 1, by go_num, by omega, HG.out.1, HG.out.2⟩
      case measure => simp [intOf]; omega
    case true =>
      have HG : Hid (OwnP wr w.heap.size u3 (fsts (l.take (j + 1))) ∧ Below w.heap.size w wr) := Lib.hid (by
        rw [fsts_snoc HX.out, ← HXT.out]
        simp only [if_pos, List.append_nil]
        exact ⟨HO.out, HBW.out⟩)
      clear HO HBW HX HXT
      go_wp2_with fail
      go_roundw
      case rel => exact ⟨j + 1, by go_num, by omega, HG.out.1, HG.out.2⟩
      case measure => simp [intOf]; omega
end Go.Proofs.Ytodmfippjcfbbaa
namespace Go.Proofs.Ytodmfippjcfbbaa
open Go Go.RowKit Sh Leaf

theorem ptake_ne {a b : List Prd} {j : Nat} {x y : Prd} (ha : a[j]? = some x) (hb : b[j]? = some y) (h : x ≠ y) : a ≠ b := fun e => by
  subst e
  rw [ha] at hb
  injection hb with hb
  exact h hb
theorem Prds.range {w : World} {Q : Nat → Prop} {A : Option Addr} {c : Nat} {l : List Prd} (h : Prds w Q A c l) (j : Nat) (p : Prd) (hj : l[j]? = some p) : ∃ g o, A = some ⟨g, o, none⟩ ∧ g < w.heap.size ∧ w.rangeAt g (o + j * 6) [.int .i64 p.kind, .int .u64 (p.mask : Int), .int .i64 p.lo, .int .i64 p.hi, .string (sof p.name), .int .i64 p.num] := by
  obtain ⟨g, o, h1, -, h3, k0, k1, k2, k3, k4, k5⟩ := h.get j p hj
  refine ⟨g, o, h1, h3, fun i v hv => ?_⟩
  match i, hv with
  | 0, hv => rw [← hv]; exact k0
  | 1, hv => rw [← hv]; exact k1
  | 2, hv => rw [← hv]; exact k2
  | 3, hv => rw [← hv]; exact k3
  | 4, hv => rw [← hv]; exact k4
  | 5, hv => rw [← hv]; exact k5
  | n + 6, hv => simp at hv
set_option linter.unusedSimpArgs false in
set_option linter.unusedVariables false in
set_option maxRecDepth 100000 in
set_option maxHeartbeats 4000000 in
theorem rsamep {w : World} {Q Q' : Nat → Prop} {A B : Option Addr} {ca cb : Nat} {la lb : List Prd} (hA : Prds w Q A ca la) (hB : Prds w Q' B cb lb) (hla : la.length ≤ 100000) (hlb : lb.length ≤ 100000) :
    Calls Try.prog 10 #[.slice A la.length ca, .slice B lb.length cb] w fun e w' => e = .returned (.bool (decide (la = lb))) ∧ Below w.heap.size w w' := by
  obtain ⟨R, hR⟩ : ∃ R, R = decide (la = lb) := ⟨_, rfl⟩
  rw [← hR]
  have HR := Lib.hid hR
  have HA := Lib.hid hA
  have HB := Lib.hid hB
  obtain ⟨n, hn⟩ : ∃ n, n = la.length := ⟨_, rfl⟩
  obtain ⟨m, hm⟩ : ∃ m, m = lb.length := ⟨_, rfl⟩
  rw [← hn] at hla ⊢
  rw [← hm] at hlb ⊢
  have HN := Lib.hid (And.intro hn hm)
  clear hR hA hB hn hm
  by_cases hlen : n = m
  case neg =>
    have hRR : R = false := by rw [HR.out]; exact decide_eq_false fun e => hlen (by rw [HN.out.1, HN.out.2, e])
    have hlen2 : ¬ (n : Int) = (m : Int) := by omega
    subst hRR
    clear HR HA HB HN
    go_enter Try.func10, Try.ntmps10
    go_wp2_with fail
    go_ret
    exact ⟨rfl, Below.refl _ _⟩
  subst hlen
  go_enter Try.func10, Try.ntmps10
  go_wp2_with fail
  go_loopw [5] (fun v wr => ∃ j : Nat, v = .int .i64 j ∧ j ≤ n ∧ la.take j = lb.take j ∧ Below w.heap.size w wr) (fun v _ => n - (intOf v).toNat)
  case atStart => exact ⟨0, rfl, by omega, rfl, Below.refl _ _⟩
  case round =>
    obtain ⟨j, rfl, hj, htk, hbw⟩ := hrel
    have hswr : w.heap.size ≤ wr.heap.size := hbw.size
    have HTK := Lib.hid htk
    have HBW := Lib.hid hbw
    clear htk hbw
    by_cases hlt : j < n
    case neg =>
      obtain rfl : j = n := by omega
      have hRR : R = true := by
        rw [HR.out]
        refine decide_eq_true ?_
        have := HTK.out
        rwa [List.take_of_length_le (by rw [← HN.out.1]; omega), List.take_of_length_le (by rw [← HN.out.2]; omega)] at this
      subst hRR
      clear hlt hj
      go_wp2_with fail
      go_ret
      exact ⟨rfl, HBW.out⟩
    obtain ⟨x, hx⟩ : ∃ x, la[j]? = some x := ⟨_, List.getElem?_eq_getElem (by have := HN.out.1; omega)⟩
    obtain ⟨y, hy⟩ : ∃ y, lb[j]? = some y := ⟨_, List.getElem?_eq_getElem (by have := HN.out.2; omega)⟩
    obtain ⟨g, o, hAe, hgl, hra⟩ := HA.out.range j x hx
    obtain ⟨h, q, hBe, hhl, hrb⟩ := HB.out.range j y hy
    have HXY := Lib.hid (And.intro hx hy)
    have j0 : (0 : Int) ≤ (j : Int) := by omega
    have jn : (j : Int) < (n : Int) := by omega
    have HCC : Hid (∀ W, Below wr.heap.size wr W → W.rangeAt g (o + j * 6) _ ∧ W.rangeAt h (q + j * 6) _) := Lib.hid fun W hW => ⟨fun i v hv => ((HBW.out.trans (hW.mono hswr)).cell (p := ⟨g, o + j * 6 + i, none⟩) hgl).trans (hra i v hv), fun i v hv => ((HBW.out.trans (hW.mono hswr)).cell (p := ⟨h, q + j * 6 + i, none⟩) hhl).trans (hrb i v hv)⟩
    subst hAe hBe
    clear hx hy hra hrb
    obtain ⟨V, hV⟩ : ∃ V, V = (!decide (x = y)) := ⟨_, rfl⟩
    have kg : ∀ u v W, (eqGuard .neq 24 u v (.agg #[.int .i64 x.kind, .int .u64 (x.mask : Int), .int .i64 x.lo, .int .i64 x.hi, .string (sof x.name), .int .i64 x.num]) (.agg #[.int .i64 y.kind, .int .u64 (y.mask : Int), .int .i64 y.lo, .int .i64 y.hi, .string (sof y.name), .int .i64 y.num])).run Try.prog W = .ok () W := fun u v W => guard_rown u v _ _ W
    have kq : ∀ W, (binOp .neq 24 (.agg #[.int .i64 x.kind, .int .u64 (x.mask : Int), .int .i64 x.lo, .int .i64 x.hi, .string (sof x.name), .int .i64 x.num]) (.agg #[.int .i64 y.kind, .int .u64 (y.mask : Int), .int .i64 y.lo, .int .i64 y.hi, .string (sof y.name), .int .i64 y.num])).run Try.prog W = .ok (.bool V) W := fun W => by
      have := neq_prds x y W
      rw [pv_row, pv_row, ← hV] at this
      exact this
    have HV := Lib.hid hV
    clear hV
    go_upto_region 6 with fail
    refine wp_region_held_drew (S := fun W : World => W.rangeAt g (o + j * 6) [.int .i64 x.kind, .int .u64 (x.mask : Int), .int .i64 x.lo, .int .i64 x.hi, .string (sof x.name), .int .i64 x.num] ∧ W.rangeAt h (q + j * 6) [.int .i64 y.kind, .int .u64 (y.mask : Int), .int .i64 y.lo, .int .i64 y.hi, .string (sof y.name), .int .i64 y.num]) (by kernel_rfl) (HCC.out _ (Below.drew (Below.refl _ _))) (fun hHeld => ?_)
    apply wpAnyH_take (i := 0) rfl (by kernel_rfl) (by kernel_rfl) (by kernel_rfl)
    case hQ => exact fun _ _ _ h => h
    case hS => exact hHeld
    case hy => (refine Or.inl ⟨by rfl, ?_⟩; intro w hSw; (try go_split_ands); go_simp; (try with_reducible rfl))
    (try simp only [List.getElem_toArray, List.getElem_cons_zero, Act.put, List.setIfInBounds_toArray, List.set_cons_zero, List.set_cons_succ])
    apply wpAnyH_take (i := 1) rfl (by kernel_rfl) (by kernel_rfl) (by kernel_rfl)
    case hQ => exact fun _ _ _ h => h
    case hS => exact hHeld
    case hy => (refine Or.inl ⟨by rfl, ?_⟩; intro w hSw; (try go_split_ands); go_simp; (try with_reducible rfl))
    (try simp only [List.getElem_toArray, List.getElem_cons_succ, List.getElem_cons_zero, Act.put, List.setIfInBounds_toArray, List.set_cons_zero, List.set_cons_succ])
    apply wpAnyH_take (i := 2) rfl (by kernel_rfl) (by kernel_rfl) (by kernel_rfl)
    case hQ => exact fun _ _ _ h => h
    case hS => exact hHeld
    case hy => (refine Or.inl ⟨by rfl, ?_⟩; intro w hSw; (try go_split_ands); go_simp; (try with_reducible rfl))
    (try simp only [List.getElem_toArray, List.getElem_cons_succ, List.getElem_cons_zero, Act.put, List.setIfInBounds_toArray, List.set_cons_zero, List.set_cons_succ])
    apply wpAnyH_take (i := 3) rfl (by kernel_rfl) (by kernel_rfl) (by kernel_rfl)
    case hQ => exact fun _ _ _ h => h
    case hS => exact hHeld
    case hy => exact yieldsIf_load_mid (by rfl) 24 _ rfl g ((o + j * 6)) rfl ([.int .i64 x.kind, .int .u64 (x.mask : Int), .int .i64 x.lo, .int .i64 x.hi, .string (sof x.name), .int .i64 x.num]) _ (fun w hS => hS.1) Try.underlying24 rfl (by rw [prdSize]; rfl)
    (try simp only [List.getElem_toArray, List.getElem_cons_succ, List.getElem_cons_zero, Act.put, List.setIfInBounds_toArray, List.set_cons_zero, List.set_cons_succ])
    apply wpAnyH_take (i := 4) rfl (by kernel_rfl) (by kernel_rfl) (by kernel_rfl)
    case hQ => exact fun _ _ _ h => h
    case hS => exact hHeld
    case hy => (refine Or.inl ⟨by rfl, ?_⟩; intro w hSw; (try go_split_ands); go_simp; (try with_reducible rfl))
    (try simp only [List.getElem_toArray, List.getElem_cons_succ, List.getElem_cons_zero, Act.put, List.setIfInBounds_toArray, List.set_cons_zero, List.set_cons_succ])
    apply wpAnyH_take (i := 5) rfl (by kernel_rfl) (by kernel_rfl) (by kernel_rfl)
    case hQ => exact fun _ _ _ h => h
    case hS => exact hHeld
    case hy => (refine Or.inl ⟨by rfl, ?_⟩; intro w hSw; (try go_split_ands); go_simp; (try with_reducible rfl))
    (try simp only [List.getElem_toArray, List.getElem_cons_succ, List.getElem_cons_zero, Act.put, List.setIfInBounds_toArray, List.set_cons_zero, List.set_cons_succ])
    apply wpAnyH_take (i := 6) rfl (by kernel_rfl) (by kernel_rfl) (by kernel_rfl)
    case hQ => exact fun _ _ _ h => h
    case hS => exact hHeld
    case hy => (refine Or.inl ⟨by rfl, ?_⟩; intro w hSw; (try go_split_ands); go_simp; (try with_reducible rfl))
    (try simp only [List.getElem_toArray, List.getElem_cons_succ, List.getElem_cons_zero, Act.put, List.setIfInBounds_toArray, List.set_cons_zero, List.set_cons_succ])
    apply wpAnyH_take (i := 7) rfl (by kernel_rfl) (by kernel_rfl) (by kernel_rfl)
    case hQ => exact fun _ _ _ h => h
    case hS => exact hHeld
    case hy => exact yieldsIf_load_mid (by rfl) 24 _ rfl h ((q + j * 6)) rfl ([.int .i64 y.kind, .int .u64 (y.mask : Int), .int .i64 y.lo, .int .i64 y.hi, .string (sof y.name), .int .i64 y.num]) _ (fun w hS => hS.2) Try.underlying24 rfl (by rw [prdSize]; rfl)
    (try simp only [List.getElem_toArray, List.getElem_cons_succ, List.getElem_cons_zero, Act.put, List.setIfInBounds_toArray, List.set_cons_zero, List.set_cons_succ])
    apply wpAnyH_take (i := 8) rfl (by kernel_rfl) (by kernel_rfl) (by kernel_rfl)
    case hQ => exact fun _ _ _ h => h
    case hS => exact hHeld
    case hy => (refine Or.inl ⟨by rfl, ?_⟩; intro w hSw; (try go_split_ands); go_simp; (try with_reducible rfl))
    (try simp only [List.getElem_toArray, List.getElem_cons_succ, List.getElem_cons_zero, Act.put, List.setIfInBounds_toArray, List.set_cons_zero, List.set_cons_succ])
    refine wpAnyH_done (by kernel_rfl) ?_ _
    clear kg kq hHeld
    cases V
    · have HX : Hid (la.take (j + 1) = lb.take (j + 1)) := Lib.hid (by
        have hxy : x = y := by have := HV.out; simpa using this.symm
        rw [List.take_add_one, List.take_add_one, HXY.out.1, HXY.out.2, HTK.out, hxy])
      have HB2 := Lib.hid (HBW.out.drew)
      go_wp2_with fail
      go_roundw
      case rel => exact ⟨j + 1, by go_num, by omega, HX.out, HB2.out⟩
      case measure => simp [intOf]; omega
    · have hRR : R = false := by
        rw [HR.out]
        refine decide_eq_false (ptake_ne HXY.out.1 HXY.out.2 ?_)
        have := HV.out
        simpa using this.symm
      subst hRR
      have HB2 := Lib.hid (HBW.out.drew)
      go_wp2_with fail
      go_ret
      exact ⟨rfl, HB2.out⟩
end Go.Proofs.Ytodmfippjcfbbaa
