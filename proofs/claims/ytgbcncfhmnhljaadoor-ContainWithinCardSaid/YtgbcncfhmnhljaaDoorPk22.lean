/-
  The deck: mask, Predicate.
  A row of predicates of the call's own; append to it; the deck: Predicates.
  Regions that lay and append predicates in any order.
  The program's bounds: the predicates of an authority's fields.
-/
import Derived.Deep.RegionHeld3
import Derived.Deep.DeepCutAuto
import Derived.Deep.CutBlock
import Derived.Test.YtgbcncfhmnhljaaDoorPk21
import Derived.Test.YtgbcncfhmnhljaaDoorPk10
namespace Go.Proofs.YtgbcncfhmnhljaaDoor
open Go Go.RowKit Sh Leaf

theorem Turn.from {g : Nat} {w w2 w3 : World} (h : Turn g w w2) (hg : g < w.heap.size) (hb : Below w.heap.size w2 w3) : Turn g w w3 :=
  ⟨h.1.below hb hg, h.2.1.trans (hb.mono (Nat.le_of_lt hg)), ⟨fun b t cs hn _ hw => (hb.block b (lt_of_heap hw)).trans (h.2.2.oth b t cs hn hw), fun v hv => (hb.cell (p := ⟨g, 0, none⟩) hg).trans (h.2.2.zero v hv)⟩⟩
/-- z is a word of 64 bits. -/
def U64 (z : Int) : Prop := ∃ x : Nat, z = (x : Int) ∧ x < 18446744073709551616
theorem u64_and (z : Int) (hz : U64 z) (y : Nat) (hy : y < 18446744073709551616) : ∃ x : Nat, bits .and .u64 z (y : Int) = (x : Int) ∧ x ≤ y := by
  obtain ⟨x, rfl, hx⟩ := hz
  exact ⟨x &&& y, bits_and_u64_nat x y hx hy, Nat.and_le_right⟩
theorem u64_wrap (z : Int) : U64 (IntKind.u64.wrap z) := by
  rw [IntKind.wrap_u64]
  obtain ⟨x, hx⟩ := Int.eq_ofNat_of_zero_le (Int.emod_nonneg z (b := 18446744073709551616) (by omega))
  have := Int.emod_lt_of_pos z (b := 18446744073709551616) (by omega)
  exact ⟨x, hx, by omega⟩
theorem u64_bits (o : BinOp) (a b : Int) : U64 (bits o .u64 a b) := by
  unfold bits
  split <;> exact u64_wrap _
theorem u64_nat (j : Nat) (h : (j : Int) < 65536) : U64 (j : Int) := ⟨j, rfl, by omega⟩
set_option maxRecDepth 100000 in
set_option maxHeartbeats 2000000 in
theorem dmask (B : Nat) (hbt : B = 64 ∨ B = 32 ∨ B = 7) (g : Nat) (w : World) (h : Deck g w) :
    Calls Tryd.prog 55 #[.pointer (some ⟨g, 0, none⟩), .int .i64 (B : Int)] w fun e w' => ∃ m : Nat, m ≠ 0 ∧ m < 2 ^ B ∧ e = .returned (.int .u64 (m : Int)) ∧ Turn g w w' := by
  go_enter Tryd.func55, Tryd.ntmps55
  go_wp2_with fail
  refine (dnext 3 (by omega) (by omega) g w h).mono ?_
  rintro e w1 ⟨i, hi, rfl, ht1⟩
  have hd1 := ht1.1
  have HT := Lib.hid ht1
  clear ht1 h
  go_upto_block 0 with fail
  go_cut [5] (fun s wx => ∃ z, s = .int .u64 z ∧ U64 z ∧ Turn g w wx)
  case first =>
    rcases (by omega : i = 0 ∨ i = 1 ∨ i = 2) with rfl | rfl | rfl
    · go_wp2_with fail
      refine (dnext 16 (by omega) (by omega) g w1 hd1).mono ?_
      rintro e w2 ⟨j, hj, rfl, ht2⟩
      have HT2 := Lib.hid (HT.out.trans ht2)
      have hwj : IntKind.u64.wrap (j : Int) = (j : Int) := by rw [IntKind.wrap_u64]; omega
      have HU := Lib.hid (u64_nat j (by omega))
      clear ht2 hj
      go_wp2_with fail
      go_meet
      exact ⟨_, rfl, HU.out, HT2.out⟩
    · go_wp2_with fail
      refine (dnext 65536 (by omega) (by omega) g w1 hd1).mono ?_
      rintro e w2 ⟨j, hj, rfl, ht2⟩
      have hd2 := ht2.1
      have HT2 := Lib.hid (HT.out.trans ht2)
      have hwj : IntKind.u64.wrap (j : Int) = (j : Int) := by rw [IntKind.wrap_u64]; omega
      clear ht2 hj
      go_wp2_with fail
      refine (dnext 65536 (by omega) (by omega) g w2 hd2).mono ?_
      rintro e w3 ⟨j2, hj2, rfl, ht3⟩
      have HT3 := Lib.hid (HT2.out.trans ht3)
      have hwj2 : IntKind.u64.wrap (j2 : Int) = (j2 : Int) := by rw [IntKind.wrap_u64]; omega
      clear ht3 hj2
      go_wp2_with fail
      go_meet
      exact ⟨_, rfl, u64_bits _ _ _, HT3.out⟩
    · go_wp2_with fail
      refine (dnext 65536 (by omega) (by omega) g w1 hd1).mono ?_
      rintro e w2 ⟨j, hj, rfl, ht2⟩
      have HT2 := Lib.hid (HT.out.trans ht2)
      have hwj : IntKind.u64.wrap (j : Int) = (j : Int) := by rw [IntKind.wrap_u64]; omega
      clear ht2 hj
      go_wp2_with fail
      go_meet
      exact ⟨_, rfl, u64_bits _ _ _, HT2.out⟩
  case rest =>
    obtain ⟨z, rfl, hz, ht⟩ := hcut
    rename World => w2
    have hd2 := ht.1
    have HT2 := Lib.hid ht
    clear ht hd1 HT
    have hpw : Hid (∀ i B : Nat, (i : Int) < (B : Int) → B ≤ 64 → IntKind.u64.wrap (2 ^ i) = ((2 ^ i : Nat) : Int) ∧ 2 ^ i ≠ 0 ∧ 2 ^ i < 2 ^ B) := Lib.hid fun i B h h2 => by
      have h3 : (2 : Nat) ^ i < 2 ^ B := (Nat.pow_lt_pow_iff_right (by omega)).2 (by omega)
      have h4 : (2 : Nat) ^ B ≤ 2 ^ 64 := Nat.pow_le_pow_right (by omega) h2
      have h5 : ((2 : Int) ^ i) = ((2 ^ i : Nat) : Int) := by push_cast; rfl
      have h6 := Nat.two_pow_pos i
      refine ⟨?_, by omega, h3⟩
      rw [h5, IntKind.wrap_u64]
      omega
    rcases hbt with rfl | rfl | rfl
    · obtain ⟨x, rfl, hx⟩ := hz
      have HX := Lib.hid hx
      clear hx
      by_cases hx0 : (x : Int) = 0
      · go_wp2_with fail
        refine (dnext 64 (by omega) (by omega) g w2 hd2).mono ?_
        rintro e w3 ⟨j, hj, rfl, ht3⟩
        have HT3 := Lib.hid (HT2.out.trans ht3)
        obtain ⟨hp1, hp2, hp3⟩ := hpw.out j 64 (by omega) (by omega)
        have HP := Lib.hid (And.intro hp2 hp3)
        have hj0 : (0 : Int) ≤ j := by omega
        clear ht3 hp2 hp3
        go_wp2
        go_ret
        exact ⟨2 ^ j, HP.out.1, HP.out.2, rfl, HT3.out⟩
      · go_wp2_with fail
        go_ret
        exact ⟨x, by omega, HX.out, rfl, HT2.out⟩
    · obtain ⟨x, hx, hxl⟩ := u64_and z hz 4294967295 (by omega)
      have hx' : bits .and .u64 z 4294967295 = (x : Int) := hx
      have HX := Lib.hid hxl
      clear hx hxl hz
      by_cases hx0 : (x : Int) = 0
      · go_wp2_with fail
        refine (dnext 32 (by omega) (by omega) g w2 hd2).mono ?_
        rintro e w3 ⟨j, hj, rfl, ht3⟩
        have HT3 := Lib.hid (HT2.out.trans ht3)
        obtain ⟨hp1, hp2, hp3⟩ := hpw.out j 32 (by omega) (by omega)
        have HP := Lib.hid (And.intro hp2 hp3)
        have hj0 : (0 : Int) ≤ j := by omega
        clear ht3 hp2 hp3
        go_wp2
        go_ret
        exact ⟨2 ^ j, HP.out.1, HP.out.2, rfl, HT3.out⟩
      · go_wp2_with fail
        go_ret
        exact ⟨x, by omega, by have := HX.out; omega, rfl, HT2.out⟩
    · obtain ⟨x, hx, hxl⟩ := u64_and z hz 127 (by omega)
      have hx' : bits .and .u64 z 127 = (x : Int) := hx
      have HX := Lib.hid hxl
      clear hx hxl hz
      by_cases hx0 : (x : Int) = 0
      · go_wp2_with fail
        refine (dnext 7 (by omega) (by omega) g w2 hd2).mono ?_
        rintro e w3 ⟨j, hj, rfl, ht3⟩
        have HT3 := Lib.hid (HT2.out.trans ht3)
        obtain ⟨hp1, hp2, hp3⟩ := hpw.out j 7 (by omega) (by omega)
        have HP := Lib.hid (And.intro hp2 hp3)
        have hj0 : (0 : Int) ≤ j := by omega
        clear ht3 hp2 hp3
        go_wp2
        go_ret
        exact ⟨2 ^ j, HP.out.1, HP.out.2, rfl, HT3.out⟩
      · go_wp2_with fail
        go_ret
        exact ⟨x, by omega, by have := HX.out; omega, rfl, HT2.out⟩
set_option linter.unusedVariables false in
set_option maxRecDepth 100000 in
set_option maxHeartbeats 4000000 in
theorem dpred (g : Nat) (w : World) (h : Deck g w) :
    Calls Tryd.prog 32 #[.pointer (some ⟨g, 0, none⟩), .bool true] w fun e w' => ∃ p : Prd, pok p ∧ p.mask < 18446744073709551616 ∧ e = .returned (pv p) ∧ Turn g w w' := by
  go_enter Tryd.func32, Tryd.ntmps32
  go_wp2_with fail
  refine (drange 1 7 (by omega) (by omega) (by omega) g _ (h.alloc _)).mono ?_
  rintro e w1 ⟨k, ⟨hk1, hk7⟩, rfl, ht1⟩
  have hd1 := ht1.1
  have hR1 : PRow w1 w.heap.size 0 0 0 0 [] 0 := PRow.of_zero (ht1.2.2 _ _ _ (by have := h.lt; omega) (Whole.here w _ _))
  have hT1 : Turn g w w1 := ⟨hd1, ((Below.refl g w).alloc (Nat.le_of_lt h.lt) _).trans ht1.2.1, (Oth.alloc g w _).trans ht1.2.2⟩
  have hRP : w.heap.size < w1.heap.size := hR1.lt
  have hgR : g < w.heap.size := h.lt
  have H1 := Lib.hid hR1
  have HT1 := Lib.hid hT1
  clear ht1 h hR1 hT1
  rcases (by omega : k = 1 ∨ k = 2 ∨ k = 3 ∨ k = 4 ∨ k = 5 ∨ k = 6 ∨ k = 7) with rfl | rfl | rfl | rfl | rfl | rfl | rfl
  · have hP1 : PRow (w1.alloc _) w1.heap.size 1 0 0 0 [] 0 := PRow.of_zero (Whole.here w1 _ _)
    have HA : Hid (∀ o, Turn g w (w1.alloc o)) := Lib.hid fun o => HT1.out.trans ⟨hd1.alloc o, (Below.refl g w1).alloc (by omega) o, Oth.alloc g w1 o⟩
    have HP1 := Lib.hid hP1
    clear hP1
    go_wp2_with fail
    refine (dmask 64 (by simp) g _ (hd1.alloc _)).mono ?_
    rintro e w2 ⟨m, hm0, hm1, rfl, ht2⟩
    have hP2 : PRow w2 w1.heap.size 1 0 0 0 [] 0 := ht2.2.2 _ _ _ (by omega) HP1.out
    have hR2 : PRow w2 w.heap.size 0 0 0 0 [] 0 := ht2.2.2 _ _ _ (by omega) (H1.out.alloc _)
    have HT2 := Lib.hid ((HA.out _).trans ht2)
    obtain ⟨c0, c1, c2, c3, c4, c5⟩ := hP2.cells
    have f1 := hP2.frozen 1
    have HPf := Lib.hid (hP2.set1 (m : Int))
    have HRf := Lib.hid (hR2.far (a := ⟨w1.heap.size, 1, none⟩) (by show w.heap.size ≠ w1.heap.size; omega) (.int .u64 (m : Int)))
    have HTf := Lib.hid ((HT2.out).from (w3 := (w2.setCell ⟨w1.heap.size, 1, none⟩ (.int .u64 (m : Int))).setRow w.heap.size (prow 1 (m : Int) 0 0 [] 0)) hgR (below_setRow ((Below.refl _ _).setCell (p := ⟨w1.heap.size, 1, none⟩) (by show w.heap.size ≤ w1.heap.size; omega) (.int .u64 (m : Int))) (Nat.le_refl _) _))
    have HK : Hid (pok ⟨1, m, 0, 0, [], 0⟩) := Lib.hid (by unfold pok; simp <;> omega)
    clear hP2 hR2 ht2 HA HP1 H1 HT1
    go_wp2_with (first
      | (with_reducible refine wpList_load_prd rfl _ rfl (g := w1.heap.size) rfl HPf.out ?_)
      | (with_reducible refine wpList_store_prd rfl _ _ rfl (g := w.heap.size) rfl rfl HRf.out ?_))
    refine bodyPost_ret (results_prd (g := w.heap.size) Tryd.results32 _ rfl (Whole.setRow HRf.out _)) rfl ?_
    exact ⟨⟨1, m, 0, 0, [], 0⟩, HK.out, by have := hm1; simp at this ⊢ <;> omega, by rw [pv_row] <;> rfl, HTf.out⟩
  · have hP1 : PRow (w1.alloc _) w1.heap.size 2 0 0 0 [] 0 := PRow.of_zero (Whole.here w1 _ _)
    have HA : Hid (∀ o, Turn g w (w1.alloc o)) := Lib.hid fun o => HT1.out.trans ⟨hd1.alloc o, (Below.refl g w1).alloc (by omega) o, Oth.alloc g w1 o⟩
    have HP1 := Lib.hid hP1
    clear hP1
    go_wp2_with fail
    refine (dmask 32 (by simp) g _ (hd1.alloc _)).mono ?_
    rintro e w2 ⟨m, hm0, hm1, rfl, ht2⟩
    have hP2 : PRow w2 w1.heap.size 2 0 0 0 [] 0 := ht2.2.2 _ _ _ (by omega) HP1.out
    have hR2 : PRow w2 w.heap.size 0 0 0 0 [] 0 := ht2.2.2 _ _ _ (by omega) (H1.out.alloc _)
    have HT2 := Lib.hid ((HA.out _).trans ht2)
    obtain ⟨c0, c1, c2, c3, c4, c5⟩ := hP2.cells
    have f1 := hP2.frozen 1
    have HPf := Lib.hid (hP2.set1 (m : Int))
    have HRf := Lib.hid (hR2.far (a := ⟨w1.heap.size, 1, none⟩) (by show w.heap.size ≠ w1.heap.size; omega) (.int .u64 (m : Int)))
    have HTf := Lib.hid ((HT2.out).from (w3 := (w2.setCell ⟨w1.heap.size, 1, none⟩ (.int .u64 (m : Int))).setRow w.heap.size (prow 2 (m : Int) 0 0 [] 0)) hgR (below_setRow ((Below.refl _ _).setCell (p := ⟨w1.heap.size, 1, none⟩) (by show w.heap.size ≤ w1.heap.size; omega) (.int .u64 (m : Int))) (Nat.le_refl _) _))
    have HK : Hid (pok ⟨2, m, 0, 0, [], 0⟩) := Lib.hid (by unfold pok; simp <;> omega)
    clear hP2 hR2 ht2 HA HP1 H1 HT1
    go_wp2_with (first
      | (with_reducible refine wpList_load_prd rfl _ rfl (g := w1.heap.size) rfl HPf.out ?_)
      | (with_reducible refine wpList_store_prd rfl _ _ rfl (g := w.heap.size) rfl rfl HRf.out ?_))
    refine bodyPost_ret (results_prd (g := w.heap.size) Tryd.results32 _ rfl (Whole.setRow HRf.out _)) rfl ?_
    exact ⟨⟨2, m, 0, 0, [], 0⟩, HK.out, by have := hm1; simp at this ⊢ <;> omega, by rw [pv_row] <;> rfl, HTf.out⟩
  · have hP1 : PRow (w1.alloc _) w1.heap.size 3 0 0 0 [] 0 := PRow.of_zero (Whole.here w1 _ _)
    have HA : Hid (∀ o, Turn g w (w1.alloc o)) := Lib.hid fun o => HT1.out.trans ⟨hd1.alloc o, (Below.refl g w1).alloc (by omega) o, Oth.alloc g w1 o⟩
    have HP1 := Lib.hid hP1
    clear hP1
    go_wp2_with fail
    refine (dmask 7 (by simp) g _ (hd1.alloc _)).mono ?_
    rintro e w2 ⟨m, hm0, hm1, rfl, ht2⟩
    have hP2 : PRow w2 w1.heap.size 3 0 0 0 [] 0 := ht2.2.2 _ _ _ (by omega) HP1.out
    have hR2 : PRow w2 w.heap.size 0 0 0 0 [] 0 := ht2.2.2 _ _ _ (by omega) (H1.out.alloc _)
    have HT2 := Lib.hid ((HA.out _).trans ht2)
    obtain ⟨c0, c1, c2, c3, c4, c5⟩ := hP2.cells
    have f1 := hP2.frozen 1
    have HPf := Lib.hid (hP2.set1 (m : Int))
    have HRf := Lib.hid (hR2.far (a := ⟨w1.heap.size, 1, none⟩) (by show w.heap.size ≠ w1.heap.size; omega) (.int .u64 (m : Int)))
    have HTf := Lib.hid ((HT2.out).from (w3 := (w2.setCell ⟨w1.heap.size, 1, none⟩ (.int .u64 (m : Int))).setRow w.heap.size (prow 3 (m : Int) 0 0 [] 0)) hgR (below_setRow ((Below.refl _ _).setCell (p := ⟨w1.heap.size, 1, none⟩) (by show w.heap.size ≤ w1.heap.size; omega) (.int .u64 (m : Int))) (Nat.le_refl _) _))
    have HK : Hid (pok ⟨3, m, 0, 0, [], 0⟩) := Lib.hid (by unfold pok; simp <;> omega)
    clear hP2 hR2 ht2 HA HP1 H1 HT1
    go_wp2_with (first
      | (with_reducible refine wpList_load_prd rfl _ rfl (g := w1.heap.size) rfl HPf.out ?_)
      | (with_reducible refine wpList_store_prd rfl _ _ rfl (g := w.heap.size) rfl rfl HRf.out ?_))
    refine bodyPost_ret (results_prd (g := w.heap.size) Tryd.results32 _ rfl (Whole.setRow HRf.out _)) rfl ?_
    exact ⟨⟨3, m, 0, 0, [], 0⟩, HK.out, by have := hm1; simp at this ⊢ <;> omega, by rw [pv_row] <;> rfl, HTf.out⟩
  · have hP1 : PRow (w1.alloc _) w1.heap.size 4 0 0 0 [] 0 := PRow.of_zero (Whole.here w1 _ _)
    have HA : Hid (∀ o, Turn g w (w1.alloc o)) := Lib.hid fun o => HT1.out.trans ⟨hd1.alloc o, (Below.refl g w1).alloc (by omega) o, Oth.alloc g w1 o⟩
    have HP1 := Lib.hid hP1
    clear hP1
    go_wp2_with fail
    refine (dminute g _ (hd1.alloc _)).mono ?_
    rintro e w2 ⟨a, ⟨ha0, ha1⟩, rfl, ht2⟩
    have hP2 : PRow w2 w1.heap.size 4 0 0 0 [] 0 := ht2.2.2 _ _ _ (by omega) HP1.out
    have hR2 : PRow w2 w.heap.size 0 0 0 0 [] 0 := ht2.2.2 _ _ _ (by omega) (H1.out.alloc _)
    have hd2 := ht2.1
    have HT2 := Lib.hid ((HA.out _).trans ht2)
    have HP2 := Lib.hid hP2
    have HR2 := Lib.hid hR2
    clear hP2 hR2 ht2 HA HP1 H1 HT1
    go_wp2_with fail
    refine (dminute g w2 hd2).mono ?_
    rintro e w3 ⟨b, ⟨hb0, hb1⟩, rfl, ht3⟩
    have hP3 : PRow w3 w1.heap.size 4 0 0 0 [] 0 := ht3.2.2 _ _ _ (by omega) HP2.out
    have hR3 : PRow w3 w.heap.size 0 0 0 0 [] 0 := ht3.2.2 _ _ _ (by omega) HR2.out
    have HT3 := Lib.hid (HT2.out.trans ht3)
    clear ht3 HT2 HP2 HR2 hd2
    rcases Int.lt_trichotomy a b with hab | hab | hab
    · have hle := hab
      obtain ⟨c0, c1, c2, c3, c4, c5⟩ := hP3.cells
      have f2 := hP3.frozen 2
      have f3 := hP3.frozen 3
      have HPf := Lib.hid ((hP3.set2 a).set3 b)
      have HRf := Lib.hid ((hR3.far (a := ⟨w1.heap.size, 2, none⟩) (by show w.heap.size ≠ w1.heap.size; omega) (.int .i64 a)).far (a := ⟨w1.heap.size, 3, none⟩) (by show w.heap.size ≠ w1.heap.size; omega) (.int .i64 b))
      have HTf := Lib.hid ((HT3.out).from (w3 := ((w3.setCell ⟨w1.heap.size, 2, none⟩ (.int .i64 a)).setCell ⟨w1.heap.size, 3, none⟩ (.int .i64 b)).setRow w.heap.size (prow 4 0 a b [] 0)) hgR (below_setRow (((Below.refl _ _).setCell (p := ⟨w1.heap.size, 2, none⟩) (by show w.heap.size ≤ w1.heap.size; omega) (.int .i64 a)).setCell (p := ⟨w1.heap.size, 3, none⟩) (by show w.heap.size ≤ w1.heap.size; omega) (.int .i64 b)) (Nat.le_refl _) _))
      have HK : Hid (pok ⟨4, 0, a, b, [], 0⟩) := Lib.hid (by unfold pok; simp <;> omega)
      clear hP3 hR3
      go_wp2_with (first
        | (with_reducible refine wpList_load_prd rfl _ rfl (g := w1.heap.size) rfl HPf.out ?_)
        | (with_reducible refine wpList_store_prd rfl _ _ rfl (g := w.heap.size) rfl rfl HRf.out ?_))
      refine bodyPost_ret (results_prd (g := w.heap.size) Tryd.results32 _ rfl (Whole.setRow HRf.out _)) rfl ?_
      exact ⟨⟨4, 0, a, b, [], 0⟩, HK.out, by simp, by rw [pv_row] <;> rfl, HTf.out⟩
    · subst hab
      obtain ⟨c0, c1, c2, c3, c4, c5⟩ := hP3.cells
      have f2 := hP3.frozen 2
      have f3 := hP3.frozen 3
      have HPf := Lib.hid ((hP3.set2 a).set3 a)
      have HRf := Lib.hid ((hR3.far (a := ⟨w1.heap.size, 2, none⟩) (by show w.heap.size ≠ w1.heap.size; omega) (.int .i64 a)).far (a := ⟨w1.heap.size, 3, none⟩) (by show w.heap.size ≠ w1.heap.size; omega) (.int .i64 a))
      have HTf := Lib.hid ((HT3.out).from (w3 := ((w3.setCell ⟨w1.heap.size, 2, none⟩ (.int .i64 a)).setCell ⟨w1.heap.size, 3, none⟩ (.int .i64 a)).setRow w.heap.size (prow 4 0 a a [] 0)) hgR (below_setRow (((Below.refl _ _).setCell (p := ⟨w1.heap.size, 2, none⟩) (by show w.heap.size ≤ w1.heap.size; omega) (.int .i64 a)).setCell (p := ⟨w1.heap.size, 3, none⟩) (by show w.heap.size ≤ w1.heap.size; omega) (.int .i64 a)) (Nat.le_refl _) _))
      have HK : Hid (pok ⟨4, 0, a, a, [], 0⟩) := Lib.hid (by unfold pok; simp <;> omega)
      clear hP3 hR3
      go_wp2_with (first
        | (with_reducible refine wpList_load_prd rfl _ rfl (g := w1.heap.size) rfl HPf.out ?_)
        | (with_reducible refine wpList_store_prd rfl _ _ rfl (g := w.heap.size) rfl rfl HRf.out ?_))
      refine bodyPost_ret (results_prd (g := w.heap.size) Tryd.results32 _ rfl (Whole.setRow HRf.out _)) rfl ?_
      exact ⟨⟨4, 0, a, a, [], 0⟩, HK.out, by simp, by rw [pv_row] <;> rfl, HTf.out⟩
    · have hle := hab
      obtain ⟨c0, c1, c2, c3, c4, c5⟩ := hP3.cells
      have f2 := hP3.frozen 2
      have f3 := hP3.frozen 3
      have HPf := Lib.hid ((hP3.set2 b).set3 a)
      have HRf := Lib.hid ((hR3.far (a := ⟨w1.heap.size, 2, none⟩) (by show w.heap.size ≠ w1.heap.size; omega) (.int .i64 b)).far (a := ⟨w1.heap.size, 3, none⟩) (by show w.heap.size ≠ w1.heap.size; omega) (.int .i64 a))
      have HTf := Lib.hid ((HT3.out).from (w3 := ((w3.setCell ⟨w1.heap.size, 2, none⟩ (.int .i64 b)).setCell ⟨w1.heap.size, 3, none⟩ (.int .i64 a)).setRow w.heap.size (prow 4 0 b a [] 0)) hgR (below_setRow (((Below.refl _ _).setCell (p := ⟨w1.heap.size, 2, none⟩) (by show w.heap.size ≤ w1.heap.size; omega) (.int .i64 b)).setCell (p := ⟨w1.heap.size, 3, none⟩) (by show w.heap.size ≤ w1.heap.size; omega) (.int .i64 a)) (Nat.le_refl _) _))
      have HK : Hid (pok ⟨4, 0, b, a, [], 0⟩) := Lib.hid (by unfold pok; simp <;> omega)
      clear hP3 hR3
      go_wp2_with (first
        | (with_reducible refine wpList_load_prd rfl _ rfl (g := w1.heap.size) rfl HPf.out ?_)
        | (with_reducible refine wpList_store_prd rfl _ _ rfl (g := w.heap.size) rfl rfl HRf.out ?_))
      refine bodyPost_ret (results_prd (g := w.heap.size) Tryd.results32 _ rfl (Whole.setRow HRf.out _)) rfl ?_
      exact ⟨⟨4, 0, b, a, [], 0⟩, HK.out, by simp, by rw [pv_row] <;> rfl, HTf.out⟩
  · have hP1 : PRow (w1.alloc _) w1.heap.size 5 0 0 0 [] 0 := PRow.of_zero (Whole.here w1 _ _)
    have HA : Hid (∀ o, Turn g w (w1.alloc o)) := Lib.hid fun o => HT1.out.trans ⟨hd1.alloc o, (Below.refl g w1).alloc (by omega) o, Oth.alloc g w1 o⟩
    have HP1 := Lib.hid hP1
    clear hP1
    go_wp2_with fail
    refine (dnext 1440 (by omega) (by omega) g _ (hd1.alloc _)).mono ?_
    rintro e w2 ⟨a, ha1, rfl, ht2⟩
    have hP2 : PRow w2 w1.heap.size 5 0 0 0 [] 0 := ht2.2.2 _ _ _ (by omega) HP1.out
    have hR2 : PRow w2 w.heap.size 0 0 0 0 [] 0 := ht2.2.2 _ _ _ (by omega) (H1.out.alloc _)
    have hd2 := ht2.1
    have HT2 := Lib.hid ((HA.out _).trans ht2)
    have HP2 := Lib.hid hP2
    have HR2 := Lib.hid hR2
    clear hP2 hR2 ht2 HA HP1 H1 HT1
    go_wp2_with fail
    refine (dnext 1440 (by omega) (by omega) g w2 hd2).mono ?_
    rintro e w3 ⟨b, hb1, rfl, ht3⟩
    have hP3 : PRow w3 w1.heap.size 5 0 0 0 [] 0 := ht3.2.2 _ _ _ (by omega) HP2.out
    have hR3 : PRow w3 w.heap.size 0 0 0 0 [] 0 := ht3.2.2 _ _ _ (by omega) HR2.out
    have HT3 := Lib.hid (HT2.out.trans ht3)
    have hd3 := ht3.1
    clear ht3 HT2 HP2 HR2 hd2
    obtain ⟨c0, c1, c2, c3, c4, c5⟩ := hP3.cells
    have f2 := hP3.frozen 2
    have f3 := hP3.frozen 3
    have HP3 := Lib.hid ((hP3.set2 (a : Int)).set3 (b : Int))
    have HR3 := Lib.hid ((hR3.far (a := ⟨w1.heap.size, 2, none⟩) (by show w.heap.size ≠ w1.heap.size; omega) (.int .i64 (a : Int))).far (a := ⟨w1.heap.size, 3, none⟩) (by show w.heap.size ≠ w1.heap.size; omega) (.int .i64 (b : Int)))
    have HB3 := Lib.hid (((Below.refl w.heap.size w3).setCell (p := ⟨w1.heap.size, 2, none⟩) (by show w.heap.size ≤ w1.heap.size; omega) (.int .i64 (a : Int))).setCell (p := ⟨w1.heap.size, 3, none⟩) (by show w.heap.size ≤ w1.heap.size; omega) (.int .i64 (b : Int)))
    have HT4 := Lib.hid (HT3.out.from hgR HB3.out)
    clear hP3 hR3 HB3 hd3 HT3
    go_wp2_with fail
    refine (dnext 3 (by omega) (by omega) g _ HT4.out.1).mono ?_
    rintro e w4 ⟨i, hi, rfl, ht4⟩
    clear c0 c1 c2 c3 c4 c5 f2 f3
    have hP4 : PRow w4 w1.heap.size 5 0 a b [] 0 := ht4.2.2 _ _ _ (by omega) HP3.out
    have hR4 : PRow w4 w.heap.size 0 0 0 0 [] 0 := ht4.2.2 _ _ _ (by omega) HR3.out
    have HT5 := Lib.hid (HT4.out.trans ht4)
    have hd4 := ht4.1
    clear ht4 HT4 HP3 HR3
    by_cases hi0 : i = 0
    · subst hi0
      obtain ⟨c0, c1, c2, c3, c4, c5⟩ := hP4.cells
      have HP4 := Lib.hid hP4
      have HR4 := Lib.hid hR4
      have HDC : Hid (∀ W i, Turn g w4.drew W → ((i : Nat) : Int) < 3 → W.cell? ⟨w1.heap.size, 2, none⟩ = some (.int .i64 (a : Int)) ∧ PRow W w1.heap.size 5 0 a b [] 0 ∧ PRow W w.heap.size 0 0 0 0 [] 0 ∧ IntKind.i64.wrap ((a : Int) + i) = (a : Int) + i ∧ IntKind.i64.wrap ((a : Int) + i + 1440) = (a : Int) + i + 1440 ∧ IntKind.i64.wrap ((a : Int) + i + 1440 - 1) = (a : Int) + i + 1440 - 1 ∧ W.frozen? ⟨w1.heap.size, 3, none⟩ = false ∧ W.cell? ⟨w1.heap.size, 3, none⟩ = some (.int .i64 (b : Int))) := Lib.hid fun W i hW hi => by
        have hp : PRow W w1.heap.size 5 0 a b [] 0 := hW.2.2 _ _ _ (by omega) (Whole.drew HP4.out)
        refine ⟨PRow.cells hp |>.2.2.1, hp, hW.2.2 _ _ _ (by omega) (Whole.drew HR4.out), ?_, ?_, ?_, hp.frozen 3, PRow.cells hp |>.2.2.2.1⟩ <;> (rw [IntKind.wrap_i64]; omega)
      clear hP4 hR4
      go_wp2_with fail
      go_region_held3 (fun W => W.cell? ⟨w1.heap.size, 2, none⟩ = some (.int .i64 (a : Int))) (first | exact c2 | assumption | exact hcx.1 | exact (hcx.2.1.set3 _).cells.2.2.1 | go_keep)
        (first | (go_at_call 18; refine (dnext 3 (by omega) (by omega) g _ hd4.drew).mono ?_; rintro e w5 ⟨i, hi, rfl, ht5⟩; have hcx := HDC.out _ i ht5 hi; obtain ⟨-, -, -, hw1, hw2, hw3, hf3, hc3⟩ := id hcx))
      obtain ⟨z, hz⟩ : ∃ z, z = ((a : Int) + i + 1440 - 1).tmod 1440 := ⟨_, rfl⟩
      have hz0 : 0 ≤ z ∧ z < 1440 := by rw [hz, Int.tmod_eq_emod_of_nonneg (by omega)]; omega
      rw [← hz]
      have hP6 : PRow (w5.setCell ⟨w1.heap.size, 3, none⟩ (.int .i64 z)) w1.heap.size 5 0 a z [] 0 := hcx.2.1.set3 z
      have hR6 : PRow (w5.setCell ⟨w1.heap.size, 3, none⟩ (.int .i64 z)) w.heap.size 0 0 0 0 [] 0 := hcx.2.2.1.far (a := ⟨w1.heap.size, 3, none⟩) (by show w.heap.size ≠ w1.heap.size; omega) (.int .i64 z)
      have HT5d : Turn g w w4.drew := ⟨hd4.drew, HT5.out.2.1.drew, HT5.out.2.2.drew⟩
      have HT6 : Turn g w (w5.setCell ⟨w1.heap.size, 3, none⟩ (.int .i64 z)) := (HT5d.trans ht5).from hgR ((Below.refl _ _).setCell (p := ⟨w1.heap.size, 3, none⟩) (by show w.heap.size ≤ w1.heap.size; omega) (.int .i64 z))
      clear hcx HDC hf3 hc3 ht5 HT5d hw1 hw2 hw3 HT5 hd4 HP4 HR4 c0 c1 c2 c3 c4 c5 hz hi
      generalize w5.setCell ⟨w1.heap.size, 3, none⟩ (.int .i64 z) = w6 at hP6 hR6 HT6 ⊢
      obtain ⟨c0, c1, c2, c3, c4, c5⟩ := hP6.cells
      have HPf := Lib.hid hP6
      have HRf := Lib.hid hR6
      have HTf := Lib.hid ((HT6).from (w3 := w6.setRow w.heap.size (prow 5 0 (a : Int) z [] 0)) hgR (below_setRow (Below.refl _ _) (Nat.le_refl _) _))
      have HK : Hid (pok ⟨5, 0, (a : Int), z, [], 0⟩) := Lib.hid (by unfold pok; simp <;> omega)
      clear hP6 hR6
      go_wp2_with (first
        | (with_reducible refine wpList_load_prd rfl _ rfl (g := w1.heap.size) rfl HPf.out ?_)
        | (with_reducible refine wpList_store_prd rfl _ _ rfl (g := w.heap.size) rfl rfl HRf.out ?_))
      refine bodyPost_ret (results_prd (g := w.heap.size) Tryd.results32 _ rfl (Whole.setRow HRf.out _)) rfl ?_
      exact ⟨⟨5, 0, (a : Int), z, [], 0⟩, HK.out, by simp, by rw [pv_row] <;> rfl, HTf.out⟩
    · obtain ⟨c0, c1, c2, c3, c4, c5⟩ := hP4.cells
      have HPf := Lib.hid hP4
      have HRf := Lib.hid hR4
      have HTf := Lib.hid ((HT5.out).from (w3 := w4.setRow w.heap.size (prow 5 0 (a : Int) (b : Int) [] 0)) hgR (below_setRow (Below.refl _ _) (Nat.le_refl _) _))
      have HK : Hid (pok ⟨5, 0, (a : Int), (b : Int), [], 0⟩) := Lib.hid (by unfold pok; simp <;> omega)
      clear hP4 hR4
      go_wp2_with (first
        | (with_reducible refine wpList_load_prd rfl _ rfl (g := w1.heap.size) rfl HPf.out ?_)
        | (with_reducible refine wpList_store_prd rfl _ _ rfl (g := w.heap.size) rfl rfl HRf.out ?_))
      refine bodyPost_ret (results_prd (g := w.heap.size) Tryd.results32 _ rfl (Whole.setRow HRf.out _)) rfl ?_
      exact ⟨⟨5, 0, (a : Int), (b : Int), [], 0⟩, HK.out, by simp, by rw [pv_row] <;> rfl, HTf.out⟩
  · have hP1 : PRow (w1.alloc _) w1.heap.size 6 0 0 0 [] 0 := PRow.of_zero (Whole.here w1 _ _)
    have HA : Hid (∀ o, Turn g w (w1.alloc o)) := Lib.hid fun o => HT1.out.trans ⟨hd1.alloc o, (Below.refl g w1).alloc (by omega) o, Oth.alloc g w1 o⟩
    have HP1 := Lib.hid hP1
    clear hP1
    go_wp2_with fail
    refine (dnam g _ (hd1.alloc _)).mono ?_
    rintro e w2 ⟨s, hs, rfl, ht2⟩
    have hP2 : PRow w2 w1.heap.size 6 0 0 0 [] 0 := ht2.2.2 _ _ _ (by omega) HP1.out
    have hR2 : PRow w2 w.heap.size 0 0 0 0 [] 0 := ht2.2.2 _ _ _ (by omega) (H1.out.alloc _)
    have HT2 := Lib.hid ((HA.out _).trans ht2)
    obtain ⟨c0, c1, c2, c3, c4, c5⟩ := hP2.cells
    have f4 := hP2.frozen 4
    have HPf := Lib.hid (hP2.set4 s)
    have HRf := Lib.hid (hR2.far (a := ⟨w1.heap.size, 4, none⟩) (by show w.heap.size ≠ w1.heap.size; omega) (.string (sof s)))
    have HTf := Lib.hid ((HT2.out).from (w3 := (w2.setCell ⟨w1.heap.size, 4, none⟩ (.string (sof s))).setRow w.heap.size (prow 6 0 0 0 s 0)) hgR (below_setRow ((Below.refl _ _).setCell (p := ⟨w1.heap.size, 4, none⟩) (by show w.heap.size ≤ w1.heap.size; omega) (.string (sof s))) (Nat.le_refl _) _))
    have HK : Hid (pok ⟨6, 0, 0, 0, s, 0⟩) := Lib.hid (by unfold pok; simp; exact hs)
    clear hP2 hR2 ht2 HA HP1 H1 HT1 hs
    go_wp2_with (first
      | (with_reducible refine wpList_load_prd rfl _ rfl (g := w1.heap.size) rfl HPf.out ?_)
      | (with_reducible refine wpList_store_prd rfl _ _ rfl (g := w.heap.size) rfl rfl HRf.out ?_))
    refine bodyPost_ret (results_prd (g := w.heap.size) Tryd.results32 _ rfl (Whole.setRow HRf.out _)) rfl ?_
    exact ⟨⟨6, 0, 0, 0, s, 0⟩, HK.out, by simp, by rw [pv_row] <;> rfl, HTf.out⟩
  · have hP1 : PRow (w1.alloc _) w1.heap.size 7 0 0 0 [] 0 := PRow.of_zero (Whole.here w1 _ _)
    have HA : Hid (∀ o, Turn g w (w1.alloc o)) := Lib.hid fun o => HT1.out.trans ⟨hd1.alloc o, (Below.refl g w1).alloc (by omega) o, Oth.alloc g w1 o⟩
    have HP1 := Lib.hid hP1
    clear hP1
    go_wp2_with fail
    refine (dupto 1000000 (by omega) (by omega) g _ (hd1.alloc _)).mono ?_
    rintro e w2 ⟨n, ⟨hn0, hn1⟩, rfl, ht2⟩
    have hP2 : PRow w2 w1.heap.size 7 0 0 0 [] 0 := ht2.2.2 _ _ _ (by omega) HP1.out
    have hR2 : PRow w2 w.heap.size 0 0 0 0 [] 0 := ht2.2.2 _ _ _ (by omega) (H1.out.alloc _)
    have HT2 := Lib.hid ((HA.out _).trans ht2)
    obtain ⟨c0, c1, c2, c3, c4, c5⟩ := hP2.cells
    have f5 := hP2.frozen 5
    have HPf := Lib.hid (hP2.set5 n)
    have HRf := Lib.hid (hR2.far (a := ⟨w1.heap.size, 5, none⟩) (by show w.heap.size ≠ w1.heap.size; omega) (.int .i64 n))
    have HTf := Lib.hid ((HT2.out).from (w3 := (w2.setCell ⟨w1.heap.size, 5, none⟩ (.int .i64 n)).setRow w.heap.size (prow 7 0 0 0 [] n)) hgR (below_setRow ((Below.refl _ _).setCell (p := ⟨w1.heap.size, 5, none⟩) (by show w.heap.size ≤ w1.heap.size; omega) (.int .i64 n)) (Nat.le_refl _) _))
    have HK : Hid (pok ⟨7, 0, 0, 0, [], n⟩) := Lib.hid (by unfold pok; simp <;> omega)
    clear hP2 hR2 ht2 HA HP1 H1 HT1
    go_wp2_with (first
      | (with_reducible refine wpList_load_prd rfl _ rfl (g := w1.heap.size) rfl HPf.out ?_)
      | (with_reducible refine wpList_store_prd rfl _ _ rfl (g := w.heap.size) rfl rfl HRf.out ?_))
    refine bodyPost_ret (results_prd (g := w.heap.size) Tryd.results32 _ rfl (Whole.setRow HRf.out _)) rfl ?_
    exact ⟨⟨7, 0, 0, 0, [], n⟩, HK.out, by simp, by rw [pv_row] <;> rfl, HTf.out⟩
end Go.Proofs.YtgbcncfhmnhljaaDoor
namespace Go.Proofs.YtgbcncfhmnhljaaDoor
open Go Go.RowKit Sh Leaf

/-- The slice v has the predicates l at the head of a block of the call's own (from 'base' on), or is nil. -/
abbrev OwnP (w : World) (base : Nat) (v : Value) (l : List Prd) : Prop := w.ownsRow base 41 6 v l.length (pcs l)
theorem ownp_nil (w : World) (base : Nat) : OwnP w base (.slice none 0 0) [] := ⟨by simp [pcs], .inl ⟨rfl, by simp⟩⟩
theorem OwnP.prds {w : World} {base : Nat} {v : Value} {l : List Prd} (h : OwnP w base v l) (hl : ∀ p ∈ l, pbd p) : ∃ A c, v = .slice A l.length c ∧ Prds w (fun g => base ≤ g) A c l := by
  rcases h.2 with ⟨rfl, h0⟩ | ⟨g, cap, cur, rfl, hg, hh, hc, hm, hs, ht⟩
  · have : l = [] := List.eq_nil_of_length_eq_zero h0
    subst this
    exact ⟨none, 0, rfl, Prds.nil _ _⟩
  · have hlt : g < w.heap.size := by
      rcases Nat.lt_or_ge g w.heap.size with h | h
      · exact h
      · rw [Array.getElem?_eq_none h] at hh; cases hh
    refine ⟨_, cap, rfl, hc, hm, fun h => (by cases h), hl, fun _ => ⟨g, 0, rfl, hg, hlt, fun j v hj => ?_⟩⟩
    rw [Nat.zero_add, cell_of_row w g j cur _ _ hh]
    rw [← ht, List.getElem?_take] at hj
    split at hj
    · simpa using hj
    · cases hj
theorem own_oth {w w' : World} {g base n size : Nat} {e : TypeId} {v : Value} {xs : List Value} (h : w.ownsRow base e size v n xs) (hg : g < base) (ho : Oth g w w') : w'.ownsRow base e size v n xs := by
  refine ⟨h.1, ?_⟩
  rcases h.2 with h2 | ⟨b, cap, cur, hv, hb, hh, r⟩
  · exact .inl h2
  · exact .inr ⟨b, cap, cur, hv, hb, ho b e cur (by omega) hh, r⟩
theorem prdInfo : (Tryd.prog.info? 41).map (fun i => (i.zero, i.size, i.bytes)) = some (some (.agg #[.int .i64 0, .int .u64 0, .int .i64 0, .int .i64 0, .string { data := #[] }, .int .i64 0]), 6, 56) := by kernel_rfl
theorem pcl_one (p : Prd) : ∀ v ∈ pcl p, v.oneCell' = true := by
  intro v hv
  simp [pcl] at hv
  rcases hv with rfl | rfl | rfl | rfl | rfl | rfl <;> rfl
theorem pcs_one (l : List Prd) : ∀ v ∈ pcs l, v.oneCell' = true := by
  intro v hv
  obtain ⟨p, _, h⟩ := List.mem_flatMap.1 hv
  exact pcl_one p v h
/-- append(own, predicates...): what the source reads as is given by its cells. -/
theorem wpList_append_prds {w : World} {ops : Array Oper} {rest : List Oper} {o : Oper} {a : Act} {R : Exit → Act → World → Prop} (hgd : o.guard = none) (s x : Operand)
    (ho : o.op = .call { callee := .builtin .append, args := #[s, x], argTypes := #[42, 42] })
    (base : Nat) (v : Value) (l : List Prd) (hs : a.eval s = v) (hown : OwnP w base v l) (g o2 c : Nat) (ys : List Prd) (hx : a.eval x = .slice (some ⟨g, o2, none⟩) ys.length c) (hg : w.rangeAt g o2 (pcs ys))
    (h47 : l.length + ys.length ≤ 1000000000) (hbase : base ≤ w.heap.size)
    (h : ∀ v' w', OwnP w' base v' (l ++ ys) → Below base w w' → wpList Tryd.prog ops R rest (a.put o.dst v') w') : wpList Tryd.prog ops R (o :: rest) a w := by
  obtain ⟨i0, hi, hz0, hz1, hz2⟩ := info_parts prdInfo
  refine wpList_append_own w hgd s x 42 ho base 41 i0 (.agg #[.int .i64 0, .int .u64 0, .int .i64 0, .int .i64 0, .string { data := #[] }, .int .i64 0]) 6 56 Tryd.underlying42 hi hz0 hz1 hz2 rfl (by decide) v l.length (pcs l) hs hown ⟨g, o2, none⟩ ys.length c (pcs ys) hx (pcs_length ys) (fun j u hj => by rw [Addr.add_mid]; exact hg j u hj) (pcs_one ys) (by unfold maxLen; omega) (by omega) hbase fun v' w' h1 h2 _ => ?_
  refine h v' w' ?_ ((Below.refl _ _).grown h2 hbase (fun k hk => (hown.lt k hk).1))
  show w'.ownsRow base _ 6 v' (l ++ ys).length (pcs (l ++ ys))
  rw [List.length_append, pcs_append]
  exact h1
theorem range_one {w : World} {g : Nat} {p : Prd} (h : PRow w g p.kind p.mask p.lo p.hi p.name p.num) : w.rangeAt g 0 (pcs [p]) := fun j v hj => by
  rw [Nat.zero_add, h.cell]
  have e : pcs [p] = pcl p := by simp [pcs]
  rw [e] at hj
  rw [← hj]
  simp [pcl]
set_option maxRecDepth 100000 in
set_option maxHeartbeats 1000000 in
theorem dpreds (n : Nat) (hn : n ≤ 1000) (g : Nat) (w : World) (h : Deck g w) :
    Calls Tryd.prog 16 #[.pointer (some ⟨g, 0, none⟩), .int .i64 (n : Int), .bool true] w fun e w' => ∃ (v : Value) (l : List Prd), e = .returned v ∧ l.length ≤ n ∧ (∀ p ∈ l, pok p ∧ pbd p) ∧ OwnP w' w.heap.size v l ∧ Turn g w w' := by
  have hgl := h.lt
  have hw1 : IntKind.i64.wrap ((n : Int) + 1) = (n : Int) + 1 := by rw [IntKind.wrap_i64]; omega
  have hnx := fun W hW => dnext ((n : Int) + 1) (by omega) (by omega) g W hW
  go_enter Tryd.func16, Tryd.ntmps16
  go_wp2_with fail
  refine (hnx _ h).mono ?_
  rintro e w1 ⟨i, hi, rfl, ht1⟩
  have HT1 := Lib.hid ht1
  have hi' : i ≤ n := by omega
  clear ht1 hnx hw1
  go_wp2
  go_loopw [7, 8] (fun v kk wr => ∃ (l : List Prd) (k : Nat), kk = .int .i64 k ∧ l.length + k ≤ n ∧ (∀ p ∈ l, pok p ∧ pbd p) ∧ OwnP wr w.heap.size v l ∧ Turn g w wr) (fun _ k _ => (intOf k).toNat)
  case atStart => exact ⟨[], i, rfl, by simp; omega, by simp, ownp_nil _ _, HT1.out⟩
  case round =>
    obtain ⟨l, k, rfl, hk, hl, hown, ht⟩ := hrel
    have hd := ht.1
    have HL := Lib.hid hl
    have HT := Lib.hid ht
    have hsz := ht.2.1.size
    clear hl ht HT1
    by_cases h0 : 0 < k
    · have hk1 : IntKind.i64.wrap ((k : Int) - 1) = ((k - 1 : Nat) : Int) := by rw [IntKind.wrap_i64]; omega
      have hk0 : (0 : Int) < (k : Int) := by omega
      have HO := Lib.hid hown
      clear hown
      go_wp2_with fail
      refine (dpred g _ hd).mono ?_
      rintro e w2 ⟨p, hp, hpm, rfl, ht2⟩
      have HT2 := Lib.hid (HT.out.trans ht2)
      have HO2 := Lib.hid (own_oth HO.out hgl ht2.2.2)
      have hb2 := (HT2.out).2.1.size
      have HP := Lib.hid (And.intro hp (show pbd p from ⟨hpm, by have := pok_name_le hp; omega⟩))
      have hll : l.length ≤ 1000 := by omega
      rw [pv_row]
      have HR : Hid (w2.alloc (.cells (prow p.kind p.mask p.lo p.hi p.name p.num) 41) |>.rangeAt w2.heap.size 0 (pcs [p])) := Lib.hid (range_one (Whole.here w2 _ _))
      clear ht2 hd hp hpm HO HT
      go_wp2_with (at_builtin; go_must (refine wpList_append_prds rfl _ _ rfl w.heap.size _ l rfl (HO2.out.alloc _) w2.heap.size 0 _ [p] rfl HR.out (by simp; omega) (by simp; omega) ?_; intro v' w' h1 h2))
      go_roundw
      case rel =>
        refine ⟨l ++ [p], k - 1, by go_num, by simp; omega, fun q hq => ?_, h1, (HT2.out).from hgl (((Below.refl w.heap.size w2).alloc hb2 _).trans h2)⟩
        rcases List.mem_append.1 hq with hq | hq
        · exact HL.out q hq
        · rw [List.mem_singleton.1 hq]; exact HP.out
      case measure => simp [intOf]; omega
    · have hk0 : (k : Int) ≤ 0 := by omega
      have HO := Lib.hid hown
      clear hown hd
      go_wp2
      go_ret
      exact ⟨_, l, rfl, by omega, HL.out, HO.out, HT.out⟩
end Go.Proofs.YtgbcncfhmnhljaaDoor
namespace Go.Proofs.YtgbcncfhmnhljaaDoor
open Go Go.RowKit Sh Leaf

/-- Whatever lay in w lies in W as it lay. -/
def Ups (w W : World) : Prop := Below w.heap.size w W
theorem Ups.refl (w : World) : Ups w w := Below.refl _ _
theorem Ups.alloc {w W : World} (h : Ups w W) (o : Obj) : Ups w (W.alloc o) := Below.alloc h h.size o
theorem Ups.drew {w W : World} (h : Ups w W) : Ups w W.drew := Below.drew h
theorem Ups.trans {w W X : World} (h : Ups w W) (k : Below w.heap.size W X) : Ups w X := Below.trans h k
theorem Ups.low {w W : World} (h : Ups w W) : Below w.heap.size w W := h
theorem Ups.size {w W : World} (h : Ups w W) : w.heap.size ≤ W.heap.size := Below.size h
theorem pblk_new (W : World) (o : Obj) (g : Nat) (hg : g = W.heap.size) : (W.alloc o).heap[g]? = some o := by subst hg; exact heap_alloc_new W o
theorem pblk_alloc {W : World} {g : Nat} {o' : Obj} (h : W.heap[g]? = some o') (o : Obj) : (W.alloc o).heap[g]? = some o' := (Below.heap_alloc W o g (Array.getElem?_eq_some_iff.1 h).1).trans h
theorem pblk_drew {W : World} {g : Nat} {o' : Obj} (h : W.heap[g]? = some o') : W.drew.heap[g]? = some o' := h
theorem pblk_grown {W w1 : World} {v : Value} {g : Nat} {o : Obj} (hg : W.grownBy w1 v.ownBlock) (h : W.heap[g]? = some o) (hn : v.ownBlock ≠ some g) : w1.heap[g]? = some o :=
  (hg.block g (Array.getElem?_eq_some_iff.1 h).1 (fun e => hn e.symm)).trans h
theorem ownp_empty {W : World} {base g : Nat} (h : W.heap[g]? = some (.cells #[] 41 (0, 0))) (hb : base ≤ g) : OwnP W base (.slice (some ⟨g, 0, none⟩) 0 0) [] :=
  ⟨rfl, .inr ⟨g, 0, #[], rfl, hb, h, Nat.le_refl _, by unfold maxLen; omega, rfl, rfl⟩⟩
set_option maxRecDepth 100000 in
/-- append(own, source...), whatever the source is. -/
theorem run_append_prds {w : World} (ty : TypeId) (base : Nat) (v : Value) (l : List Prd) (hown : OwnP w base v l) {Q : Nat → Prop} {A : Option Addr} {c : Nat} {ys : List Prd} (hr : Prds w Q A c ys) (h47 : l.length + ys.length ≤ 1000000000) (hbase : base ≤ w.heap.size) :
    ∃ v' w', (Builtin.append_ #[42, 42] ty #[v, .slice A ys.length c]).run Tryd.prog w = .ok v' w' ∧ OwnP w' base v' (l ++ ys) ∧ Below base w w' ∧ w.grownBy w' v.ownBlock := by
  obtain ⟨i0, hi, hz0, hz1, hz2⟩ := info_parts prdInfo
  obtain ⟨h1, h2, h3, h4, h5⟩ := hr
  cases A with
  | none =>
    have h0 := h3 rfl
    subst h0
    have hy : ys = [] := List.eq_nil_of_length_eq_zero (by omega)
    subst hy
    have hrun := run_append_owned_none (P := Tryd.prog) (w := w) base 42 ty 41 i0 6 Tryd.underlying42 hi v l.length (pcs l) hown
    exact ⟨v, w, hrun, by simpa using hown, Below.refl _ _, ⟨rfl, rfl, rfl, Nat.le_refl _, fun _ _ _ => rfl⟩⟩
  | some ad =>
    have hcells : ∀ j u, (pcs ys)[j]? = some u → w.cell? (ad.add j) = some u := fun j u hj => by
      have hlt := (List.getElem?_eq_some_iff.1 hj).1
      rw [pcs_length] at hlt
      obtain ⟨g, o', e, _, _, hcell⟩ := h5 (by omega)
      injection e with e
      subst e
      rw [Addr.add_mid]
      exact hcell j u hj
    obtain ⟨v', w', hrun, k1, k2⟩ := run_append_own w base 42 ty 41 i0 _ 6 56 Tryd.underlying42 hi hz0 hz1 hz2 rfl (by decide) v l.length (pcs l) hown ad ys.length c (pcs ys) (pcs_length ys) hcells (pcs_one ys) (by unfold maxLen; omega) (by omega) hbase
    refine ⟨v', w', hrun, ?_, (Below.refl _ _).grown k2.1 hbase (fun k hk => (hown.lt k hk).1), k2.1⟩
    show w'.ownsRow base _ 6 v' (l ++ ys).length (pcs (l ++ ys))
    rw [List.length_append, pcs_append]
    exact k1
theorem step_append_prds {w : World} {ops : Array Oper} {o : Oper} {a : Act} {K : Act → World → Prop} {R : Exit → Act → World → Prop} {E : Prop} (hw : Region.wanted o (yielded ops a.tmps) = true) (s x : Operand)
    (ho : o.op = .call { callee := .builtin .append, args := #[s, x], argTypes := #[42, 42] })
    (base : Nat) (v : Value) (l : List Prd) (hs : a.eval s = v) (hown : OwnP w base v l) (Q : Nat → Prop) (A : Option Addr) (n c : Nat) (ys : List Prd) (hn : ys.length = n) (hx : a.eval x = .slice A n c) (hv : Prds w Q A c ys) (h47 : l.length + ys.length ≤ 1000000000) (hbase : base ≤ w.heap.size)
    (h : ∀ v' w', OwnP w' base v' (l ++ ys) → Below base w w' → w.grownBy w' v.ownBlock → K (a.put o.dst v') w') :
    if Region.wanted o (yielded ops a.tmps) = true then Oper.wp Tryd.prog o a w K R else E := by
  subst hn
  rw [if_pos hw]
  obtain ⟨v', w', hrun, h1, h2, h3⟩ := run_append_prds o.type base v l hown hv h47 hbase
  unfold Oper.wp
  simp [execOp, ho, resolve, invoke, builtin, hs, hx, hrun, Result.andThen]
  exact h v' w' h1 h2 h3
/-- A predicate laid in a block of its own, as a source. -/
theorem prds_one {W : World} {g : Nat} {k m lo hi : Int} {nm : List B8} {nu : Int} {p : Prd} (h : W.heap[g]? = some (.cells (prow k m lo hi nm nu) 41 (0, 0))) (e : prow k m lo hi nm nu = prow p.kind p.mask p.lo p.hi p.name p.num) (hp : pbd p) : Prds W (fun _ => True) (some ⟨g, 0, none⟩) 1 [p] := by
  rw [e] at h
  exact ⟨by simp, by unfold maxLen; omega, fun h => (by cases h), fun q hq => by rw [List.mem_singleton.1 hq]; exact hp, fun _ => ⟨g, 0, rfl, trivial, (Array.getElem?_eq_some_iff.1 h).1, range_one h⟩⟩
end Go.Proofs.YtgbcncfhmnhljaaDoor
namespace Go.Proofs.YtgbcncfhmnhljaaDoor
open Go Go.RowKit Sh Leaf

theorem fl_pcl (l : List Prd) : fl pcl l = pcs l := rfl
def b4 (z l D : Nat) (lo hi : Int) : List Prd := [⟨1, z, 0, 0, [], 0⟩, ⟨2, l, 0, 0, [], 0⟩, ⟨3, D, 0, 0, [], 0⟩, ⟨4, 0, lo, hi, [], 0⟩]
/-- The four predicates as the program lays them. -/
abbrev b4c (z l D : Nat) (lo hi : Int) : Array Value := #[.int .i64 1, .int .u64 z, .int .i64 0, .int .i64 0, .string { data := #[] }, .int .i64 0, .int .i64 2, .int .u64 l, .int .i64 0, .int .i64 0, .string { data := #[] }, .int .i64 0, .int .i64 3, .int .u64 D, .int .i64 0, .int .i64 0, .string { data := #[] }, .int .i64 0, .int .i64 4, .int .u64 0, .int .i64 lo, .int .i64 hi, .string { data := #[] }, .int .i64 0]
theorem b4_own {W : World} {base g : Nat} {z l D : Nat} {lo hi : Int} (h : Whole W g 41 (b4c z l D lo hi)) (hb : base ≤ g) : OwnP W base (.slice (some ⟨g, 0, none⟩) 4 4) (b4 z l D lo hi) := by
  have esn : sof [] = { data := #[] } := by unfold sof; rfl
  exact owns_lit (f := pcl) (n := 6) (l := b4 z l D lo hi) h hb pcl_length rfl (by simp [fl, b4, pcl, esn]) (by decide)
theorem b4_bd {z l D : Nat} {lo hi : Int} (hz : z < 18446744073709551616) (hl : l < 18446744073709551616) (hd : D < 18446744073709551616) : ∀ p ∈ b4 z l D lo hi, pbd p := by
  intro p hp
  unfold b4 at hp
  simp at hp
  rcases hp with rfl | rfl | rfl | rfl
  · exact ⟨hz, by simp⟩
  · exact ⟨hl, by simp⟩
  · exact ⟨hd, by simp⟩
  · exact ⟨by simp, by simp⟩
set_option maxRecDepth 100000 in
set_option maxHeartbeats 2000000 in
theorem abounds {w : World} {Q : Nat → Prop} {x : Value} {a : Aut} (hx : Av w Q x a) :
    Calls Tryd.prog 60 #[x] w fun e w' => (∃ A c n, e = .returned (.slice A n c) ∧ n = (bnds a).length ∧ Prds w' (fun g => w.heap.size ≤ g) A c (bnds a)) ∧ Below w.heap.size w w' := by
  obtain ⟨A, n, rfl, hS, hab⟩ := hx
  obtain ⟨no, z, l, D, lo, hi, da, nm⟩ := a
  unfold avl
  simp only at hS ⊢
  have esn : sof [] = { data := #[] } := by unfold sof; rfl
  have hie : (sof nm).toList.isEmpty = decide (nm = []) := by
    rw [sof_toList]
    cases nm <;> simp
  clear hS
  by_cases hh : nm = []
  · rw [decide_eq_true hh] at hie
    have HH := Lib.hid hh
    clear hh
    go_enter Tryd.func60, Tryd.ntmps60
    go_wp2_with fail
    have hW : Whole ((w.alloc (.cells (arow no z l D lo hi (.slice A da.length n) nm) 25)).alloc (.cells (b4c z l D lo hi) 41)) (w.heap.size + 1) 41 (b4c z l D lo hi) := Whole.at_ _ _ _ _ (by simp)
    obtain ⟨A2, c2, e, hP⟩ := (b4_own hW (base := w.heap.size) (by omega)).prds (b4_bd hab.1 hab.2.1 hab.2.2.1)
    go_ret
    have eb : bnds ⟨no, z, l, D, lo, hi, da, nm⟩ = b4 z l D lo hi := by unfold bnds b4; rw [if_pos HH.out]; simp
    rw [eb]
    exact ⟨⟨A2, c2, _, congrArg Ending.returned e, rfl, hP⟩, ab_below w _ _⟩
  · rw [decide_eq_false hh] at hie
    go_enter Tryd.func60, Tryd.ntmps60
    go_upto_region 3 with fail
    have hW : Whole (((w.alloc (.cells (arow no z l D lo hi (.slice A da.length n) nm) 25)).alloc (.cells (b4c z l D lo hi) 41)).alloc (.cells #[.int .i64 6, .int .u64 0, .int .i64 0, .int .i64 0, .string (sof nm), .int .i64 0] 41)) (w.heap.size + 1) 41 (b4c z l D lo hi) := (Whole.at_ _ _ _ _ (by simp)).alloc _
    have hL : Prds (((w.alloc (.cells (arow no z l D lo hi (.slice A da.length n) nm) 25)).alloc (.cells (b4c z l D lo hi) 41)).alloc (.cells #[.int .i64 6, .int .u64 0, .int .i64 0, .int .i64 0, .string (sof nm), .int .i64 0] 41)) (fun _ => True) (some ⟨w.heap.size + 2, 0, none⟩) 1 [⟨6, 0, 0, 0, nm, 0⟩] := prds_one (k := 6) (m := 0) (lo := 0) (hi := 0) (nm := nm) (nu := 0) (Whole.at_ _ _ _ _ (by simp)) rfl ⟨by simp, hab.2.2.2.2.2⟩
    have hB : Below w.heap.size w (((w.alloc (.cells (arow no z l D lo hi (.slice A da.length n) nm) 25)).alloc (.cells (b4c z l D lo hi) 41)).alloc (.cells #[.int .i64 6, .int .u64 0, .int .i64 0, .int .i64 0, .string (sof nm), .int .i64 0] 41)) := (ab_below w _ _).alloc (by simp; omega) _
    have HO := Lib.hid (b4_own hW (base := w.heap.size) (by omega))
    have HSQ : Hid (Seq pcl pbd _ _ _ _ _) := Lib.hid hL
    have HB := Lib.hid hB
    have HF : Hid (∀ v2 w2, OwnP w2 w.heap.size v2 (b4 z l D lo hi ++ [⟨6, 0, 0, 0, nm, 0⟩]) → Below w.heap.size (((w.alloc (.cells (arow no z l D lo hi (.slice A da.length n) nm) 25)).alloc (.cells (b4c z l D lo hi) 41)).alloc (.cells #[.int .i64 6, .int .u64 0, .int .i64 0, .int .i64 0, .string (sof nm), .int .i64 0] 41)) w2 → (∃ A' c n', (Ending.returned v2 : Ending) = .returned (.slice A' n' c) ∧ n' = (bnds ⟨no, z, l, D, lo, hi, da, nm⟩).length ∧ Prds w2 (fun g => w.heap.size ≤ g) A' c (bnds ⟨no, z, l, D, lo, hi, da, nm⟩)) ∧ Below w.heap.size w w2) := Lib.hid fun v2 w2 ho2 hb2 => by
      have hbd2 : ∀ p ∈ b4 z l D lo hi ++ [⟨6, 0, 0, 0, nm, 0⟩], pbd p := fun p hp => by
        rcases List.mem_append.1 hp with hp | hp
        · exact b4_bd hab.1 hab.2.1 hab.2.2.1 p hp
        · rw [List.mem_singleton.1 hp]; exact ⟨by simp, hab.2.2.2.2.2⟩
      obtain ⟨A2, c2, e, hP⟩ := ho2.prds hbd2
      have eb : bnds ⟨no, z, l, D, lo, hi, da, nm⟩ = b4 z l D lo hi ++ [⟨6, 0, 0, 0, nm, 0⟩] := by unfold bnds b4; rw [if_neg hh]
      rw [eb]
      exact ⟨⟨A2, c2, _, congrArg Ending.returned e, rfl, hP⟩, HB.out.trans hb2⟩
    clear hW hL hB
    go_wp2_with (at_builtin; go_must (refine wpList_append_seq (f := pcl) (n := 6) rfl _ _ 42 41 _ 56 rfl Tryd.underlying42 prdInfo rfl (by decide) (by decide) pcl_length pcl_one w.heap.size _ (b4 z l D lo hi) rfl HO.out (fun _ => True) _ 1 1 [⟨6, 0, 0, 0, nm, 0⟩] rfl rfl HSQ.out (by simp [b4]) HB.out.size ?_; intro v2 w2 h1 h2 h3; have HG := Lib.hid (HF.out v2 w2 h1 h2); clear h1 h2 h3))
    go_ret
    exact HG.out
end Go.Proofs.YtgbcncfhmnhljaaDoor
