/-
  KDkp
  KDcav
-/
import Derived.Deep.RegionHeld3
import Derived.Deep.DeepCutAuto
import Derived.Deep.CutBlock
import Derived.Test.YtiikhjifjdpgdaaDoorPk34
import Derived.Test.YtiikhjifjdpgdaaDoorPk31
import Derived.Test.YtiikhjifjdpgdaaDoorPk27
namespace Go.Proofs.YtiikhjifjdpgdaaDoor
open Go Go.RowKit Sh Leaf

theorem Turn.from {g : Nat} {w w2 w3 : World} (h : Turn g w w2) (hg : g < w.heap.size) (hb : Below w.heap.size w2 w3) : Turn g w w3 :=
  ⟨h.1.below hb hg, h.2.1.trans (hb.mono (Nat.le_of_lt hg)), ⟨fun b t cs hn _ hw => (hb.block b (lt_of_heap hw)).trans (h.2.2.oth b t cs hn hw), fun v hv => (hb.cell (p := ⟨g, 0, none⟩) hg).trans (h.2.2.zero v hv)⟩⟩
def U64 (z : Int) : Prop := ∃ x : Nat, z = (x : Int) ∧ x < 18446744073709551616
theorem u64_and (z : Int) (hz : U64 z) (y : Nat) (hy : y < 18446744073709551616) : ∃ x : Nat, bits .and .u64 z (y : Int) = (x : Int) ∧ x ≤ y := by
  obtain ⟨x, rfl, hx⟩ := hz
  exact ⟨x &&& y, bits_and_u64_nat x y hx hy, Nat.and_le_right⟩
theorem u64_wrpk (z : Int) : U64 (IntKind.u64.wrap z) := by
  rw [IntKind.wrap_u64]
  obtain ⟨x, hx⟩ := Int.eq_ofNat_of_zero_le (Int.emod_nonneg z (b := 18446744073709551616) (by omega))
  have := Int.emod_lt_of_pos z (b := 18446744073709551616) (by omega)
  exact ⟨x, hx, by omega⟩
theorem u64_bits (o : BinOp) (a b : Int) : U64 (bits o .u64 a b) := by
  unfold bits
  split <;> exact u64_wrpk _
theorem u64_nat (j : Nat) (h : (j : Int) < 65536) : U64 (j : Int) := ⟨j, rfl, by omega⟩
set_option maxRecDepth 100000 in
set_option maxHeartbeats 2000000 in
theorem dmask (B : Nat) (hbt : B = 64 ∨ B = 32 ∨ B = 7) (g : Nat) (w : World) (h : Deck g w) :
    Calls Tryd.prog 105 #[.pointer (some ⟨g, 0, none⟩), .int .i64 (B : Int)] w fun e w' => ∃ m : Nat, m ≠ 0 ∧ m < 2 ^ B ∧ e = .returned (.int .u64 (m : Int)) ∧ Turn g w w' := by
  go_enter Tryd.func105, Tryd.ntmps105
  go_wp2_with fail
  refine (dnext 3 (by omega) (by omega) g w h).mono ?_
  rintro e w1 ⟨i, hi, rfl, ht1⟩
  have hd1 := ht1.1
  have HT := Lib.hid ht1
  clear ht1 h
  go_upto_block 0 with fail
  go_cut [5] (fun s wx => ∃ z, s = .int .u64 z ∧ U64 z ∧ Turn g w wx)
  case first =>
    rcases (by omega : i = 0 ∨ i = 1 ∨ i = 2) with rfl | rfl | rfl
    · go_wp2_with fail
      refine (dnext 16 (by omega) (by omega) g w1 hd1).mono ?_
      rintro e w2 ⟨j, hj, rfl, ht2⟩
      have HT2 := Lib.hid (HT.out.trans ht2)
      have hwj : IntKind.u64.wrap (j : Int) = (j : Int) := by rw [IntKind.wrap_u64]; omega
      have HU := Lib.hid (u64_nat j (by omega))
      clear ht2 hj
      go_wp2_with fail
      go_meet
      exact ⟨_, rfl, HU.out, HT2.out⟩
    · go_wp2_with fail
      refine (dnext 65536 (by omega) (by omega) g w1 hd1).mono ?_
      rintro e w2 ⟨j, hj, rfl, ht2⟩
      have hd2 := ht2.1
      have HT2 := Lib.hid (HT.out.trans ht2)
      have hwj : IntKind.u64.wrap (j : Int) = (j : Int) := by rw [IntKind.wrap_u64]; omega
      clear ht2 hj
      go_wp2_with fail
      refine (dnext 65536 (by omega) (by omega) g w2 hd2).mono ?_
      rintro e w3 ⟨j2, hj2, rfl, ht3⟩
      have HT3 := Lib.hid (HT2.out.trans ht3)
      have hwj2 : IntKind.u64.wrap (j2 : Int) = (j2 : Int) := by rw [IntKind.wrap_u64]; omega
      clear ht3 hj2
      go_wp2_with fail
      go_meet
      exact ⟨_, rfl, u64_bits _ _ _, HT3.out⟩
    · go_wp2_with fail
      refine (dnext 65536 (by omega) (by omega) g w1 hd1).mono ?_
      rintro e w2 ⟨j, hj, rfl, ht2⟩
      have HT2 := Lib.hid (HT.out.trans ht2)
      have hwj : IntKind.u64.wrap (j : Int) = (j : Int) := by rw [IntKind.wrap_u64]; omega
      clear ht2 hj
      go_wp2_with fail
      go_meet
      exact ⟨_, rfl, u64_bits _ _ _, HT2.out⟩
  case rest =>
    obtain ⟨z, rfl, hz, ht⟩ := hcut
    rename World => w2
    have hd2 := ht.1
    have HT2 := Lib.hid ht
    clear ht hd1 HT
    have hpw : Hid (∀ i B : Nat, (i : Int) < (B : Int) → B ≤ 64 → IntKind.u64.wrap (2 ^ i) = ((2 ^ i : Nat) : Int) ∧ 2 ^ i ≠ 0 ∧ 2 ^ i < 2 ^ B) := Lib.hid fun i B h h2 => by
      have h3 : (2 : Nat) ^ i < 2 ^ B := (Nat.pow_lt_pow_iff_right (by omega)).2 (by omega)
      have h4 : (2 : Nat) ^ B ≤ 2 ^ 64 := Nat.pow_le_pow_right (by omega) h2
      have h5 : ((2 : Int) ^ i) = ((2 ^ i : Nat) : Int) := by push_cast; rfl
      have h6 := Nat.two_pow_pos i
      refine ⟨?_, by omega, h3⟩
      rw [h5, IntKind.wrap_u64]
      omega
    rcases hbt with rfl | rfl | rfl
    · obtain ⟨x, rfl, hx⟩ := hz
      have HX := Lib.hid hx
      clear hx
      by_cases hx0 : (x : Int) = 0
      · go_wp2_with fail
        refine (dnext 64 (by omega) (by omega) g w2 hd2).mono ?_
        rintro e w3 ⟨j, hj, rfl, ht3⟩
        have HT3 := Lib.hid (HT2.out.trans ht3)
        obtain ⟨hp1, hp2, hp3⟩ := hpw.out j 64 (by omega) (by omega)
        have HP := Lib.hid (And.intro hp2 hp3)
        have hj0 : (0 : Int) ≤ j := by omega
        clear ht3 hp2 hp3
        go_wp2
        go_ret
        exact ⟨2 ^ j, HP.out.1, HP.out.2, rfl, HT3.out⟩
      · go_wp2_with fail
        go_ret
        exact ⟨x, by omega, HX.out, rfl, HT2.out⟩
    · obtain ⟨x, hx, hxl⟩ := u64_and z hz 4294967295 (by omega)
      have hx' : bits .and .u64 z 4294967295 = (x : Int) := hx
      have HX := Lib.hid hxl
      clear hx hxl hz
      by_cases hx0 : (x : Int) = 0
      · go_wp2_with fail
        refine (dnext 32 (by omega) (by omega) g w2 hd2).mono ?_
        rintro e w3 ⟨j, hj, rfl, ht3⟩
        have HT3 := Lib.hid (HT2.out.trans ht3)
        obtain ⟨hp1, hp2, hp3⟩ := hpw.out j 32 (by omega) (by omega)
        have HP := Lib.hid (And.intro hp2 hp3)
        have hj0 : (0 : Int) ≤ j := by omega
        clear ht3 hp2 hp3
        go_wp2
        go_ret
        exact ⟨2 ^ j, HP.out.1, HP.out.2, rfl, HT3.out⟩
      · go_wp2_with fail
        go_ret
        exact ⟨x, by omega, by have := HX.out; omega, rfl, HT2.out⟩
    · obtain ⟨x, hx, hxl⟩ := u64_and z hz 127 (by omega)
      have hx' : bits .and .u64 z 127 = (x : Int) := hx
      have HX := Lib.hid hxl
      clear hx hxl hz
      by_cases hx0 : (x : Int) = 0
      · go_wp2_with fail
        refine (dnext 7 (by omega) (by omega) g w2 hd2).mono ?_
        rintro e w3 ⟨j, hj, rfl, ht3⟩
        have HT3 := Lib.hid (HT2.out.trans ht3)
        obtain ⟨hp1, hp2, hp3⟩ := hpw.out j 7 (by omega) (by omega)
        have HP := Lib.hid (And.intro hp2 hp3)
        have hj0 : (0 : Int) ≤ j := by omega
        clear ht3 hp2 hp3
        go_wp2
        go_ret
        exact ⟨2 ^ j, HP.out.1, HP.out.2, rfl, HT3.out⟩
      · go_wp2_with fail
        go_ret
        exact ⟨x, by omega, by have := HX.out; omega, rfl, HT2.out⟩
set_option linter.unusedVariables false in
set_option maxRecDepth 100000 in
set_option maxHeartbeats 4000000 in
theorem dpred (g : Nat) (w : World) (h : Deck g w) :
    Calls Tryd.prog 81 #[.pointer (some ⟨g, 0, none⟩), .bool true] w fun e w' => ∃ p : Prd, pok p ∧ p.mask < 18446744073709551616 ∧ e = .returned (pv p) ∧ Turn g w w' := by
  go_enter Tryd.func81, Tryd.ntmps81
  go_wp2_with fail
  refine (drange 1 7 (by omega) (by omega) (by omega) g _ (h.alloc _)).mono ?_
  rintro e w1 ⟨k, ⟨hk1, hk7⟩, rfl, ht1⟩
  have hd1 := ht1.1
  have hR1 : PRow w1 w.heap.size 0 0 0 0 [] 0 := PRow.of_zero (ht1.2.2 _ _ _ (by have := h.lt; omega) (Whole.here w _ _))
  have hT1 : Turn g w w1 := ⟨hd1, ((Below.refl g w).alloc (Nat.le_of_lt h.lt) _).trans ht1.2.1, (Oth.alloc g w _).trans ht1.2.2⟩
  have hRP : w.heap.size < w1.heap.size := hR1.lt
  have hgR : g < w.heap.size := h.lt
  have H1 := Lib.hid hR1
  have HT1 := Lib.hid hT1
  clear ht1 h hR1 hT1
  rcases (by omega : k = 1 ∨ k = 2 ∨ k = 3 ∨ k = 4 ∨ k = 5 ∨ k = 6 ∨ k = 7) with rfl | rfl | rfl | rfl | rfl | rfl | rfl
  · have hP1 : PRow (w1.alloc _) w1.heap.size 1 0 0 0 [] 0 := PRow.of_zero (Whole.here w1 _ _)
    have HA : Hid (∀ o, Turn g w (w1.alloc o)) := Lib.hid fun o => HT1.out.trans ⟨hd1.alloc o, (Below.refl g w1).alloc (by omega) o, Oth.alloc g w1 o⟩
    have HP1 := Lib.hid hP1
    clear hP1
    go_wp2_with fail
    refine (dmask 64 (by simp) g _ (hd1.alloc _)).mono ?_
    rintro e w2 ⟨m, hm0, hm1, rfl, ht2⟩
    have hP2 : PRow w2 w1.heap.size 1 0 0 0 [] 0 := ht2.2.2 _ _ _ (by omega) HP1.out
    have hR2 : PRow w2 w.heap.size 0 0 0 0 [] 0 := ht2.2.2 _ _ _ (by omega) (H1.out.alloc _)
    have HT2 := Lib.hid ((HA.out _).trans ht2)
    obtain ⟨c0, c1, c2, c3, c4, c5⟩ := hP2.cells
    have f1 := hP2.frozen 1
    have HPf := Lib.hid (hP2.set1 (m : Int))
    have HRf := Lib.hid (hR2.far (a := ⟨w1.heap.size, 1, none⟩) (by show w.heap.size ≠ w1.heap.size; omega) (.int .u64 (m : Int)))
    have HTf := Lib.hid ((HT2.out).from (w3 := (w2.setCell ⟨w1.heap.size, 1, none⟩ (.int .u64 (m : Int))).setRow w.heap.size (prow 1 (m : Int) 0 0 [] 0)) hgR (below_setRow ((Below.refl _ _).setCell (p := ⟨w1.heap.size, 1, none⟩) (by show w.heap.size ≤ w1.heap.size; omega) (.int .u64 (m : Int))) (Nat.le_refl _) _))
    have HK : Hid (pok ⟨1, m, 0, 0, [], 0⟩) := Lib.hid (by unfold pok; simp <;> omega)
    clear hP2 hR2 ht2 HA HP1 H1 HT1
    go_wp2_with (first
      | (with_reducible refine wpList_load_prd rfl _ rfl (g := w1.heap.size) rfl HPf.out ?_)
      | (with_reducible refine wpList_store_prd rfl _ _ rfl (g := w.heap.size) rfl rfl HRf.out ?_))
    refine bodyPost_ret (results_prd (g := w.heap.size) Tryd.results81 _ rfl (Whole.setRow HRf.out _)) rfl ?_
    exact ⟨⟨1, m, 0, 0, [], 0⟩, HK.out, by have := hm1; simp at this ⊢ <;> omega, by rw [pv_row] <;> rfl, HTf.out⟩
  · have hP1 : PRow (w1.alloc _) w1.heap.size 2 0 0 0 [] 0 := PRow.of_zero (Whole.here w1 _ _)
    have HA : Hid (∀ o, Turn g w (w1.alloc o)) := Lib.hid fun o => HT1.out.trans ⟨hd1.alloc o, (Below.refl g w1).alloc (by omega) o, Oth.alloc g w1 o⟩
    have HP1 := Lib.hid hP1
    clear hP1
    go_wp2_with fail
    refine (dmask 32 (by simp) g _ (hd1.alloc _)).mono ?_
    rintro e w2 ⟨m, hm0, hm1, rfl, ht2⟩
    have hP2 : PRow w2 w1.heap.size 2 0 0 0 [] 0 := ht2.2.2 _ _ _ (by omega) HP1.out
    have hR2 : PRow w2 w.heap.size 0 0 0 0 [] 0 := ht2.2.2 _ _ _ (by omega) (H1.out.alloc _)
    have HT2 := Lib.hid ((HA.out _).trans ht2)
    obtain ⟨c0, c1, c2, c3, c4, c5⟩ := hP2.cells
    have f1 := hP2.frozen 1
    have HPf := Lib.hid (hP2.set1 (m : Int))
    have HRf := Lib.hid (hR2.far (a := ⟨w1.heap.size, 1, none⟩) (by show w.heap.size ≠ w1.heap.size; omega) (.int .u64 (m : Int)))
    have HTf := Lib.hid ((HT2.out).from (w3 := (w2.setCell ⟨w1.heap.size, 1, none⟩ (.int .u64 (m : Int))).setRow w.heap.size (prow 2 (m : Int) 0 0 [] 0)) hgR (below_setRow ((Below.refl _ _).setCell (p := ⟨w1.heap.size, 1, none⟩) (by show w.heap.size ≤ w1.heap.size; omega) (.int .u64 (m : Int))) (Nat.le_refl _) _))
    have HK : Hid (pok ⟨2, m, 0, 0, [], 0⟩) := Lib.hid (by unfold pok; simp <;> omega)
    clear hP2 hR2 ht2 HA HP1 H1 HT1
    go_wp2_with (first
      | (with_reducible refine wpList_load_prd rfl _ rfl (g := w1.heap.size) rfl HPf.out ?_)
      | (with_reducible refine wpList_store_prd rfl _ _ rfl (g := w.heap.size) rfl rfl HRf.out ?_))
    refine bodyPost_ret (results_prd (g := w.heap.size) Tryd.results81 _ rfl (Whole.setRow HRf.out _)) rfl ?_
    exact ⟨⟨2, m, 0, 0, [], 0⟩, HK.out, by have := hm1; simp at this ⊢ <;> omega, by rw [pv_row] <;> rfl, HTf.out⟩
  · have hP1 : PRow (w1.alloc _) w1.heap.size 3 0 0 0 [] 0 := PRow.of_zero (Whole.here w1 _ _)
    have HA : Hid (∀ o, Turn g w (w1.alloc o)) := Lib.hid fun o => HT1.out.trans ⟨hd1.alloc o, (Below.refl g w1).alloc (by omega) o, Oth.alloc g w1 o⟩
    have HP1 := Lib.hid hP1
    clear hP1
    go_wp2_with fail
    refine (dmask 7 (by simp) g _ (hd1.alloc _)).mono ?_
    rintro e w2 ⟨m, hm0, hm1, rfl, ht2⟩
    have hP2 : PRow w2 w1.heap.size 3 0 0 0 [] 0 := ht2.2.2 _ _ _ (by omega) HP1.out
    have hR2 : PRow w2 w.heap.size 0 0 0 0 [] 0 := ht2.2.2 _ _ _ (by omega) (H1.out.alloc _)
    have HT2 := Lib.hid ((HA.out _).trans ht2)
    obtain ⟨c0, c1, c2, c3, c4, c5⟩ := hP2.cells
    have f1 := hP2.frozen 1
    have HPf := Lib.hid (hP2.set1 (m : Int))
    have HRf := Lib.hid (hR2.far (a := ⟨w1.heap.size, 1, none⟩) (by show w.heap.size ≠ w1.heap.size; omega) (.int .u64 (m : Int)))
    have HTf := Lib.hid ((HT2.out).from (w3 := (w2.setCell ⟨w1.heap.size, 1, none⟩ (.int .u64 (m : Int))).setRow w.heap.size (prow 3 (m : Int) 0 0 [] 0)) hgR (below_setRow ((Below.refl _ _).setCell (p := ⟨w1.heap.size, 1, none⟩) (by show w.heap.size ≤ w1.heap.size; omega) (.int .u64 (m : Int))) (Nat.le_refl _) _))
    have HK : Hid (pok ⟨3, m, 0, 0, [], 0⟩) := Lib.hid (by unfold pok; simp <;> omega)
    clear hP2 hR2 ht2 HA HP1 H1 HT1
    go_wp2_with (first
      | (with_reducible refine wpList_load_prd rfl _ rfl (g := w1.heap.size) rfl HPf.out ?_)
      | (with_reducible refine wpList_store_prd rfl _ _ rfl (g := w.heap.size) rfl rfl HRf.out ?_))
    refine bodyPost_ret (results_prd (g := w.heap.size) Tryd.results81 _ rfl (Whole.setRow HRf.out _)) rfl ?_
    exact ⟨⟨3, m, 0, 0, [], 0⟩, HK.out, by have := hm1; simp at this ⊢ <;> omega, by rw [pv_row] <;> rfl, HTf.out⟩
  · have hP1 : PRow (w1.alloc _) w1.heap.size 4 0 0 0 [] 0 := PRow.of_zero (Whole.here w1 _ _)
    have HA : Hid (∀ o, Turn g w (w1.alloc o)) := Lib.hid fun o => HT1.out.trans ⟨hd1.alloc o, (Below.refl g w1).alloc (by omega) o, Oth.alloc g w1 o⟩
    have HP1 := Lib.hid hP1
    clear hP1
    go_wp2_with fail
    refine (dminute g _ (hd1.alloc _)).mono ?_
    rintro e w2 ⟨a, ⟨ha0, ha1⟩, rfl, ht2⟩
    have hP2 : PRow w2 w1.heap.size 4 0 0 0 [] 0 := ht2.2.2 _ _ _ (by omega) HP1.out
    have hR2 : PRow w2 w.heap.size 0 0 0 0 [] 0 := ht2.2.2 _ _ _ (by omega) (H1.out.alloc _)
    have hd2 := ht2.1
    have HT2 := Lib.hid ((HA.out _).trans ht2)
    have HP2 := Lib.hid hP2
    have HR2 := Lib.hid hR2
    clear hP2 hR2 ht2 HA HP1 H1 HT1
    go_wp2_with fail
    refine (dminute g w2 hd2).mono ?_
    rintro e w3 ⟨b, ⟨hb0, hb1⟩, rfl, ht3⟩
    have hP3 : PRow w3 w1.heap.size 4 0 0 0 [] 0 := ht3.2.2 _ _ _ (by omega) HP2.out
    have hR3 : PRow w3 w.heap.size 0 0 0 0 [] 0 := ht3.2.2 _ _ _ (by omega) HR2.out
    have HT3 := Lib.hid (HT2.out.trans ht3)
    clear ht3 HT2 HP2 HR2 hd2
    rcases Int.lt_trichotomy a b with hab | hab | hab
    · have hle := hab
      obtain ⟨c0, c1, c2, c3, c4, c5⟩ := hP3.cells
      have f2 := hP3.frozen 2
      have f3 := hP3.frozen 3
      have HPf := Lib.hid ((hP3.set2 a).set3 b)
      have HRf := Lib.hid ((hR3.far (a := ⟨w1.heap.size, 2, none⟩) (by show w.heap.size ≠ w1.heap.size; omega) (.int .i64 a)).far (a := ⟨w1.heap.size, 3, none⟩) (by show w.heap.size ≠ w1.heap.size; omega) (.int .i64 b))
      have HTf := Lib.hid ((HT3.out).from (w3 := ((w3.setCell ⟨w1.heap.size, 2, none⟩ (.int .i64 a)).setCell ⟨w1.heap.size, 3, none⟩ (.int .i64 b)).setRow w.heap.size (prow 4 0 a b [] 0)) hgR (below_setRow (((Below.refl _ _).setCell (p := ⟨w1.heap.size, 2, none⟩) (by show w.heap.size ≤ w1.heap.size; omega) (.int .i64 a)).setCell (p := ⟨w1.heap.size, 3, none⟩) (by show w.heap.size ≤ w1.heap.size; omega) (.int .i64 b)) (Nat.le_refl _) _))
      have HK : Hid (pok ⟨4, 0, a, b, [], 0⟩) := Lib.hid (by unfold pok; simp <;> omega)
      clear hP3 hR3
      go_wp2_with (first
        | (with_reducible refine wpList_load_prd rfl _ rfl (g := w1.heap.size) rfl HPf.out ?_)
        | (with_reducible refine wpList_store_prd rfl _ _ rfl (g := w.heap.size) rfl rfl HRf.out ?_))
      refine bodyPost_ret (results_prd (g := w.heap.size) Tryd.results81 _ rfl (Whole.setRow HRf.out _)) rfl ?_
      exact ⟨⟨4, 0, a, b, [], 0⟩, HK.out, by simp, by rw [pv_row] <;> rfl, HTf.out⟩
    · subst hab
      obtain ⟨c0, c1, c2, c3, c4, c5⟩ := hP3.cells
      have f2 := hP3.frozen 2
      have f3 := hP3.frozen 3
      have HPf := Lib.hid ((hP3.set2 a).set3 a)
      have HRf := Lib.hid ((hR3.far (a := ⟨w1.heap.size, 2, none⟩) (by show w.heap.size ≠ w1.heap.size; omega) (.int .i64 a)).far (a := ⟨w1.heap.size, 3, none⟩) (by show w.heap.size ≠ w1.heap.size; omega) (.int .i64 a))
      have HTf := Lib.hid ((HT3.out).from (w3 := ((w3.setCell ⟨w1.heap.size, 2, none⟩ (.int .i64 a)).setCell ⟨w1.heap.size, 3, none⟩ (.int .i64 a)).setRow w.heap.size (prow 4 0 a a [] 0)) hgR (below_setRow (((Below.refl _ _).setCell (p := ⟨w1.heap.size, 2, none⟩) (by show w.heap.size ≤ w1.heap.size; omega) (.int .i64 a)).setCell (p := ⟨w1.heap.size, 3, none⟩) (by show w.heap.size ≤ w1.heap.size; omega) (.int .i64 a)) (Nat.le_refl _) _))
      have HK : Hid (pok ⟨4, 0, a, a, [], 0⟩) := Lib.hid (by unfold pok; simp <;> omega)
      clear hP3 hR3
      go_wp2_with (first
        | (with_reducible refine wpList_load_prd rfl _ rfl (g := w1.heap.size) rfl HPf.out ?_)
        | (with_reducible refine wpList_store_prd rfl _ _ rfl (g := w.heap.size) rfl rfl HRf.out ?_))
      refine bodyPost_ret (results_prd (g := w.heap.size) Tryd.results81 _ rfl (Whole.setRow HRf.out _)) rfl ?_
      exact ⟨⟨4, 0, a, a, [], 0⟩, HK.out, by simp, by rw [pv_row] <;> rfl, HTf.out⟩
    · have hle := hab
      obtain ⟨c0, c1, c2, c3, c4, c5⟩ := hP3.cells
      have f2 := hP3.frozen 2
      have f3 := hP3.frozen 3
      have HPf := Lib.hid ((hP3.set2 b).set3 a)
      have HRf := Lib.hid ((hR3.far (a := ⟨w1.heap.size, 2, none⟩) (by show w.heap.size ≠ w1.heap.size; omega) (.int .i64 b)).far (a := ⟨w1.heap.size, 3, none⟩) (by show w.heap.size ≠ w1.heap.size; omega) (.int .i64 a))
      have HTf := Lib.hid ((HT3.out).from (w3 := ((w3.setCell ⟨w1.heap.size, 2, none⟩ (.int .i64 b)).setCell ⟨w1.heap.size, 3, none⟩ (.int .i64 a)).setRow w.heap.size (prow 4 0 b a [] 0)) hgR (below_setRow (((Below.refl _ _).setCell (p := ⟨w1.heap.size, 2, none⟩) (by show w.heap.size ≤ w1.heap.size; omega) (.int .i64 b)).setCell (p := ⟨w1.heap.size, 3, none⟩) (by show w.heap.size ≤ w1.heap.size; omega) (.int .i64 a)) (Nat.le_refl _) _))
      have HK : Hid (pok ⟨4, 0, b, a, [], 0⟩) := Lib.hid (by unfold pok; simp <;> omega)
      clear hP3 hR3
      go_wp2_with (first
        | (with_reducible refine wpList_load_prd rfl _ rfl (g := w1.heap.size) rfl HPf.out ?_)
        | (with_reducible refine wpList_store_prd rfl _ _ rfl (g := w.heap.size) rfl rfl HRf.out ?_))
      refine bodyPost_ret (results_prd (g := w.heap.size) Tryd.results81 _ rfl (Whole.setRow HRf.out _)) rfl ?_
      exact ⟨⟨4, 0, b, a, [], 0⟩, HK.out, by simp, by rw [pv_row] <;> rfl, HTf.out⟩
  · have hP1 : PRow (w1.alloc _) w1.heap.size 5 0 0 0 [] 0 := PRow.of_zero (Whole.here w1 _ _)
    have HA : Hid (∀ o, Turn g w (w1.alloc o)) := Lib.hid fun o => HT1.out.trans ⟨hd1.alloc o, (Below.refl g w1).alloc (by omega) o, Oth.alloc g w1 o⟩
    have HP1 := Lib.hid hP1
    clear hP1
    go_wp2_with fail
    refine (dnext 1440 (by omega) (by omega) g _ (hd1.alloc _)).mono ?_
    rintro e w2 ⟨a, ha1, rfl, ht2⟩
    have hP2 : PRow w2 w1.heap.size 5 0 0 0 [] 0 := ht2.2.2 _ _ _ (by omega) HP1.out
    have hR2 : PRow w2 w.heap.size 0 0 0 0 [] 0 := ht2.2.2 _ _ _ (by omega) (H1.out.alloc _)
    have hd2 := ht2.1
    have HT2 := Lib.hid ((HA.out _).trans ht2)
    have HP2 := Lib.hid hP2
    have HR2 := Lib.hid hR2
    clear hP2 hR2 ht2 HA HP1 H1 HT1
    go_wp2_with fail
    refine (dnext 1440 (by omega) (by omega) g w2 hd2).mono ?_
    rintro e w3 ⟨b, hb1, rfl, ht3⟩
    have hP3 : PRow w3 w1.heap.size 5 0 0 0 [] 0 := ht3.2.2 _ _ _ (by omega) HP2.out
    have hR3 : PRow w3 w.heap.size 0 0 0 0 [] 0 := ht3.2.2 _ _ _ (by omega) HR2.out
    have HT3 := Lib.hid (HT2.out.trans ht3)
    have hd3 := ht3.1
    clear ht3 HT2 HP2 HR2 hd2
    obtain ⟨c0, c1, c2, c3, c4, c5⟩ := hP3.cells
    have f2 := hP3.frozen 2
    have f3 := hP3.frozen 3
    have HP3 := Lib.hid ((hP3.set2 (a : Int)).set3 (b : Int))
    have HR3 := Lib.hid ((hR3.far (a := ⟨w1.heap.size, 2, none⟩) (by show w.heap.size ≠ w1.heap.size; omega) (.int .i64 (a : Int))).far (a := ⟨w1.heap.size, 3, none⟩) (by show w.heap.size ≠ w1.heap.size; omega) (.int .i64 (b : Int)))
    have HB3 := Lib.hid (((Below.refl w.heap.size w3).setCell (p := ⟨w1.heap.size, 2, none⟩) (by show w.heap.size ≤ w1.heap.size; omega) (.int .i64 (a : Int))).setCell (p := ⟨w1.heap.size, 3, none⟩) (by show w.heap.size ≤ w1.heap.size; omega) (.int .i64 (b : Int)))
    have HT4 := Lib.hid (HT3.out.from hgR HB3.out)
    clear hP3 hR3 HB3 hd3 HT3
    go_wp2_with fail
    refine (dnext 3 (by omega) (by omega) g _ HT4.out.1).mono ?_
    rintro e w4 ⟨i, hi, rfl, ht4⟩
    clear c0 c1 c2 c3 c4 c5 f2 f3
    have hP4 : PRow w4 w1.heap.size 5 0 a b [] 0 := ht4.2.2 _ _ _ (by omega) HP3.out
    have hR4 : PRow w4 w.heap.size 0 0 0 0 [] 0 := ht4.2.2 _ _ _ (by omega) HR3.out
    have HT5 := Lib.hid (HT4.out.trans ht4)
    have hd4 := ht4.1
    clear ht4 HT4 HP3 HR3
    by_cases hi0 : i = 0
    · subst hi0
      obtain ⟨c0, c1, c2, c3, c4, c5⟩ := hP4.cells
      have HP4 := Lib.hid hP4
      have HR4 := Lib.hid hR4
      have HDC : Hid (∀ W i, Turn g w4.drew W → ((i : Nat) : Int) < 3 → W.cell? ⟨w1.heap.size, 2, none⟩ = some (.int .i64 (a : Int)) ∧ PRow W w1.heap.size 5 0 a b [] 0 ∧ PRow W w.heap.size 0 0 0 0 [] 0 ∧ IntKind.i64.wrap ((a : Int) + i) = (a : Int) + i ∧ IntKind.i64.wrap ((a : Int) + i + 1440) = (a : Int) + i + 1440 ∧ IntKind.i64.wrap ((a : Int) + i + 1440 - 1) = (a : Int) + i + 1440 - 1 ∧ W.frozen? ⟨w1.heap.size, 3, none⟩ = false ∧ W.cell? ⟨w1.heap.size, 3, none⟩ = some (.int .i64 (b : Int))) := Lib.hid fun W i hW hi => by
        have hp : PRow W w1.heap.size 5 0 a b [] 0 := hW.2.2 _ _ _ (by omega) (Whole.drew HP4.out)
        refine ⟨PRow.cells hp |>.2.2.1, hp, hW.2.2 _ _ _ (by omega) (Whole.drew HR4.out), ?_, ?_, ?_, hp.frozen 3, PRow.cells hp |>.2.2.2.1⟩ <;> (rw [IntKind.wrap_i64]; omega)
      clear hP4 hR4
      go_wp2_with fail
      go_region_held3 (fun W => W.cell? ⟨w1.heap.size, 2, none⟩ = some (.int .i64 (a : Int))) (first | exact c2 | assumption | exact hcx.1 | exact (hcx.2.1.set3 _).cells.2.2.1 | go_keep)
        (first | (go_at_call 30; refine (dnext 3 (by omega) (by omega) g _ hd4.drew).mono ?_; rintro e w5 ⟨i, hi, rfl, ht5⟩; have hcx := HDC.out _ i ht5 hi; obtain ⟨-, -, -, hw1, hw2, hw3, hf3, hc3⟩ := id hcx))
      obtain ⟨z, hz⟩ : ∃ z, z = ((a : Int) + i + 1440 - 1).tmod 1440 := ⟨_, rfl⟩
      have hz0 : 0 ≤ z ∧ z < 1440 := by rw [hz, Int.tmod_eq_emod_of_nonneg (by omega)]; omega
      rw [← hz]
      have hP6 : PRow (w5.setCell ⟨w1.heap.size, 3, none⟩ (.int .i64 z)) w1.heap.size 5 0 a z [] 0 := hcx.2.1.set3 z
      have hR6 : PRow (w5.setCell ⟨w1.heap.size, 3, none⟩ (.int .i64 z)) w.heap.size 0 0 0 0 [] 0 := hcx.2.2.1.far (a := ⟨w1.heap.size, 3, none⟩) (by show w.heap.size ≠ w1.heap.size; omega) (.int .i64 z)
      have HT5d : Turn g w w4.drew := ⟨hd4.drew, HT5.out.2.1.drew, HT5.out.2.2.drew⟩
      have HT6 : Turn g w (w5.setCell ⟨w1.heap.size, 3, none⟩ (.int .i64 z)) := (HT5d.trans ht5).from hgR ((Below.refl _ _).setCell (p := ⟨w1.heap.size, 3, none⟩) (by show w.heap.size ≤ w1.heap.size; omega) (.int .i64 z))
      clear hcx HDC hf3 hc3 ht5 HT5d hw1 hw2 hw3 HT5 hd4 HP4 HR4 c0 c1 c2 c3 c4 c5 hz hi
      generalize w5.setCell ⟨w1.heap.size, 3, none⟩ (.int .i64 z) = w6 at hP6 hR6 HT6 ⊢
      obtain ⟨c0, c1, c2, c3, c4, c5⟩ := hP6.cells
      have HPf := Lib.hid hP6
      have HRf := Lib.hid hR6
      have HTf := Lib.hid ((HT6).from (w3 := w6.setRow w.heap.size (prow 5 0 (a : Int) z [] 0)) hgR (below_setRow (Below.refl _ _) (Nat.le_refl _) _))
      have HK : Hid (pok ⟨5, 0, (a : Int), z, [], 0⟩) := Lib.hid (by unfold pok; simp <;> omega)
      clear hP6 hR6
      go_wp2_with (first
        | (with_reducible refine wpList_load_prd rfl _ rfl (g := w1.heap.size) rfl HPf.out ?_)
        | (with_reducible refine wpList_store_prd rfl _ _ rfl (g := w.heap.size) rfl rfl HRf.out ?_))
      refine bodyPost_ret (results_prd (g := w.heap.size) Tryd.results81 _ rfl (Whole.setRow HRf.out _)) rfl ?_
      exact ⟨⟨5, 0, (a : Int), z, [], 0⟩, HK.out, by simp, by rw [pv_row] <;> rfl, HTf.out⟩
    · obtain ⟨c0, c1, c2, c3, c4, c5⟩ := hP4.cells
      have HPf := Lib.hid hP4
      have HRf := Lib.hid hR4
      have HTf := Lib.hid ((HT5.out).from (w3 := w4.setRow w.heap.size (prow 5 0 (a : Int) (b : Int) [] 0)) hgR (below_setRow (Below.refl _ _) (Nat.le_refl _) _))
      have HK : Hid (pok ⟨5, 0, (a : Int), (b : Int), [], 0⟩) := Lib.hid (by unfold pok; simp <;> omega)
      clear hP4 hR4
      go_wp2_with (first
        | (with_reducible refine wpList_load_prd rfl _ rfl (g := w1.heap.size) rfl HPf.out ?_)
        | (with_reducible refine wpList_store_prd rfl _ _ rfl (g := w.heap.size) rfl rfl HRf.out ?_))
      refine bodyPost_ret (results_prd (g := w.heap.size) Tryd.results81 _ rfl (Whole.setRow HRf.out _)) rfl ?_
      exact ⟨⟨5, 0, (a : Int), (b : Int), [], 0⟩, HK.out, by simp, by rw [pv_row] <;> rfl, HTf.out⟩
  · have hP1 : PRow (w1.alloc _) w1.heap.size 6 0 0 0 [] 0 := PRow.of_zero (Whole.here w1 _ _)
    have HA : Hid (∀ o, Turn g w (w1.alloc o)) := Lib.hid fun o => HT1.out.trans ⟨hd1.alloc o, (Below.refl g w1).alloc (by omega) o, Oth.alloc g w1 o⟩
    have HP1 := Lib.hid hP1
    clear hP1
    go_wp2_with fail
    refine (dnam g _ (hd1.alloc _)).mono ?_
    rintro e w2 ⟨s, hs, rfl, ht2⟩
    have hP2 : PRow w2 w1.heap.size 6 0 0 0 [] 0 := ht2.2.2 _ _ _ (by omega) HP1.out
    have hR2 : PRow w2 w.heap.size 0 0 0 0 [] 0 := ht2.2.2 _ _ _ (by omega) (H1.out.alloc _)
    have HT2 := Lib.hid ((HA.out _).trans ht2)
    obtain ⟨c0, c1, c2, c3, c4, c5⟩ := hP2.cells
    have f4 := hP2.frozen 4
    have HPf := Lib.hid (hP2.set4 s)
    have HRf := Lib.hid (hR2.far (a := ⟨w1.heap.size, 4, none⟩) (by show w.heap.size ≠ w1.heap.size; omega) (.string (sof s)))
    have HTf := Lib.hid ((HT2.out).from (w3 := (w2.setCell ⟨w1.heap.size, 4, none⟩ (.string (sof s))).setRow w.heap.size (prow 6 0 0 0 s 0)) hgR (below_setRow ((Below.refl _ _).setCell (p := ⟨w1.heap.size, 4, none⟩) (by show w.heap.size ≤ w1.heap.size; omega) (.string (sof s))) (Nat.le_refl _) _))
    have HK : Hid (pok ⟨6, 0, 0, 0, s, 0⟩) := Lib.hid (by unfold pok; simp; exact hs)
    clear hP2 hR2 ht2 HA HP1 H1 HT1 hs
    go_wp2_with (first
      | (with_reducible refine wpList_load_prd rfl _ rfl (g := w1.heap.size) rfl HPf.out ?_)
      | (with_reducible refine wpList_store_prd rfl _ _ rfl (g := w.heap.size) rfl rfl HRf.out ?_))
    refine bodyPost_ret (results_prd (g := w.heap.size) Tryd.results81 _ rfl (Whole.setRow HRf.out _)) rfl ?_
    exact ⟨⟨6, 0, 0, 0, s, 0⟩, HK.out, by simp, by rw [pv_row] <;> rfl, HTf.out⟩
  · have hP1 : PRow (w1.alloc _) w1.heap.size 7 0 0 0 [] 0 := PRow.of_zero (Whole.here w1 _ _)
    have HA : Hid (∀ o, Turn g w (w1.alloc o)) := Lib.hid fun o => HT1.out.trans ⟨hd1.alloc o, (Below.refl g w1).alloc (by omega) o, Oth.alloc g w1 o⟩
    have HP1 := Lib.hid hP1
    clear hP1
    go_wp2_with fail
    refine (dupto 1000000 (by omega) (by omega) g _ (hd1.alloc _)).mono ?_
    rintro e w2 ⟨n, ⟨hn0, hn1⟩, rfl, ht2⟩
    have hP2 : PRow w2 w1.heap.size 7 0 0 0 [] 0 := ht2.2.2 _ _ _ (by omega) HP1.out
    have hR2 : PRow w2 w.heap.size 0 0 0 0 [] 0 := ht2.2.2 _ _ _ (by omega) (H1.out.alloc _)
    have HT2 := Lib.hid ((HA.out _).trans ht2)
    obtain ⟨c0, c1, c2, c3, c4, c5⟩ := hP2.cells
    have f5 := hP2.frozen 5
    have HPf := Lib.hid (hP2.set5 n)
    have HRf := Lib.hid (hR2.far (a := ⟨w1.heap.size, 5, none⟩) (by show w.heap.size ≠ w1.heap.size; omega) (.int .i64 n))
    have HTf := Lib.hid ((HT2.out).from (w3 := (w2.setCell ⟨w1.heap.size, 5, none⟩ (.int .i64 n)).setRow w.heap.size (prow 7 0 0 0 [] n)) hgR (below_setRow ((Below.refl _ _).setCell (p := ⟨w1.heap.size, 5, none⟩) (by show w.heap.size ≤ w1.heap.size; omega) (.int .i64 n)) (Nat.le_refl _) _))
    have HK : Hid (pok ⟨7, 0, 0, 0, [], n⟩) := Lib.hid (by unfold pok; simp <;> omega)
    clear hP2 hR2 ht2 HA HP1 H1 HT1
    go_wp2_with (first
      | (with_reducible refine wpList_load_prd rfl _ rfl (g := w1.heap.size) rfl HPf.out ?_)
      | (with_reducible refine wpList_store_prd rfl _ _ rfl (g := w.heap.size) rfl rfl HRf.out ?_))
    refine bodyPost_ret (results_prd (g := w.heap.size) Tryd.results81 _ rfl (Whole.setRow HRf.out _)) rfl ?_
    exact ⟨⟨7, 0, 0, 0, [], n⟩, HK.out, by simp, by rw [pv_row] <;> rfl, HTf.out⟩
end Go.Proofs.YtiikhjifjdpgdaaDoor
namespace Go.Proofs.YtiikhjifjdpgdaaDoor
open Go Go.RowKit Sh Leaf

theorem built_cav1 (k m lo hi nu : Int) (nm : ByteArray) : Tryd.prog.built 59 [(1, .agg #[.int .i64 k, .int .u64 m, .int .i64 lo, .int .i64 hi, .string nm, .int .i64 nu])] = some #[.bool false, .int .i64 k, .int .u64 m, .int .i64 lo, .int .i64 hi, .string nm, .int .i64 nu, .int .i64 0, .slice none 0 0, .slice none 0 0] := by kernel_rfl
theorem cv4 (pa : Int) (vt vb : Value) : (#[.bool true, .int .i64 0, .int .u64 0, .int .i64 0, .int .i64 0, .string { data := #[] }, .int .i64 0, .int .i64 pa, vt, vb] : Array Value) = cvrow true .zero pa vt vb := by
  unfold cvrow
  rw [← sof_none]
  rfl
theorem wpList_build_cav1 {w : World} {ops : Array Oper} {rest : List Oper} {o : Oper} {a : Act} {Q : Exit → Act → World → Prop} (hgd : o.guard = none) (x : Operand) (ho : o.op = .build 59 #[(1, x)])
    (p : Prd) (hx : a.eval x = pv p) (h : wpList Tryd.prog ops Q rest (a.put o.dst (.agg (cvrow false p 0 (.slice none 0 0) (.slice none 0 0)))) w) : wpList Tryd.prog ops Q (o :: rest) a w := by
  refine wpList_build_as hgd 59 _ ho _ ?_ h
  have e : (#[(1, x)].map fun (i, x) => (i, a.eval x)).toList = [(1, pv p)] := by simp [hx]
  rw [e, pv_row, built_cav1]
set_option linter.unusedSimpArgs false in
set_option linter.unusedVariables false in
set_option maxRecDepth 100000 in
set_option maxHeartbeats 4000000 in
theorem dcav (g : Nat) (w : World) (h : Deck g w) :
    Calls Tryd.prog 52 #[.pointer (some ⟨g, 0, none⟩)] w fun e w' => (∃ v c, e = .returned v ∧ cvok c ∧ CavV w' (fun b => w.heap.size ≤ b) v c) ∧ Turn g w w' := by
  have hgw := h.lt
  obtain ⟨w0, hw0⟩ : ∃ q, q = w.alloc (.cells (cvrow false .zero 0 (.slice none 0 0) (.slice none 0 0)) 59) := ⟨_, rfl⟩
  have hz : CvRow w0 w.heap.size false .zero 0 (.slice none 0 0) (.slice none 0 0) := by rw [hw0]; exact Whole.here _ _ _
  have hb0 : Below w.heap.size w w0 := by rw [hw0]; exact (Below.refl _ _).alloc (Nat.le_refl _) _
  have hsw0 : w.heap.size < w0.heap.size := hz.lt
  have hdk := h.below hb0 hgw
  have ht0 : Turn g w w0 := h.here hb0
  have hcl := dnext 4 (by omega) (by omega) g w0 hdk
  have HZ := Lib.hid hz
  have HT0 := Lib.hid ht0
  clear hz hb0 hdk ht0 h
  go_enter Tryd.func52, Tryd.ntmps52
  go_upto_region 1 with fail
  rw [← cvrow_zero, ← hw0]
  clear hw0
  go_wp2_with fail
  refine hcl.mono ?_
  rintro e w1 ⟨i, hi, rfl, ht1⟩
  clear hcl
  have hsw1 : w0.heap.size ≤ w1.heap.size := ht1.2.1.size
  have HT1 := Lib.hid (HT0.out.trans ht1)
  have HZ1 : Hid (CvRow w1 w.heap.size false .zero 0 (.slice none 0 0) (.slice none 0 0)) := Lib.hid (ht1.2.2.oth _ _ _ (by omega) HZ.out)
  clear ht1 HT0 HZ
  by_cases hi0 : 0 < i
  · skip
    have hi1 : (0 : Int) < (i : Int) := by omega
    have hcl := dpred g w1 HT1.out.1
    go_wp2_with fail
    refine hcl.mono ?_
    rintro e w2 ⟨p, hpok, hpm, rfl, ht2⟩
    clear hcl
    have hsw2 : w1.heap.size ≤ w2.heap.size := ht2.2.1.size
    have HT2 := Lib.hid (HT1.out.trans ht2)
    have HZ2 : Hid (CvRow w2 w.heap.size false .zero 0 (.slice none 0 0) (.slice none 0 0)) := Lib.hid (ht2.2.2.oth _ _ _ (by omega) HZ1.out)
    have hok : cvok ⟨false, p, 0, [], []⟩ := cvok_mk.2 (.inr ⟨rfl, hpok, rfl, rfl, rfl⟩)
    have hwf : Cwf ⟨false, p, 0, [], []⟩ := ⟨hpm, by
      unfold pok nmok at hpok
      rcases hpok with h | h | h | h | h | h | h
      · rw [h.2.2.2.2.1]; simp
      · rw [h.2.2.2.2.2.1]; simp
      · rw [h.2.2.2.2.2.1]; simp
      · rw [h.2.2.2.2.2.1]; simp
      · rw [h.2.2.2.2.2.2.1]; simp
      · have := h.2.2.2.2.1; show p.name.length ≤ _; omega
      · rw [h.2.2.2.2.1]; simp, by simp, by simp⟩
    have HOK := Lib.hid (And.intro hok hwf)
    clear ht2 hok hwf hpok
    go_wp2_with (first
      | (with_reducible refine wpList_build_cav1 rfl _ rfl p rfl ?_)
      | (with_reducible refine wpList_store_cav rfl _ _ rfl (g := w.heap.size) rfl rfl HZ2.out (cvrow_size _ _ _ _ _) ?_))
    have hz6 := Whole.setRow HZ2.out (cvrow false p 0 (.slice none 0 0) (.slice none 0 0))
    refine bodyPost_ret (results_cav Tryd.results52 _ rfl hz6) rfl ?_
    exact ⟨⟨_, ⟨false, p, 0, [], []⟩, rfl, HOK.out.1, none, 0, none, 0, rfl, Bytes.nil _ _, Bytes.nil _ _, HOK.out.2⟩, Turn.below HT2.out (below_setRow (Below.refl _ _) (Nat.le_refl _) _) hgw (Nat.le_refl _)⟩
  · skip
    have hi1 : ¬ (0 : Int) < (i : Int) := by omega
    clear hi0
    have hcl := dnext 8 (by omega) (by omega) g w1 HT1.out.1
    go_wp2_with fail
    refine hcl.mono ?_
    rintro e w2 ⟨pa, hpa, rfl, ht2⟩
    clear hcl
    have hsw2 : w1.heap.size ≤ w2.heap.size := ht2.2.1.size
    have HT2 := Lib.hid (HT1.out.trans ht2)
    have HZ2 : Hid (CvRow w2 w.heap.size false .zero 0 (.slice none 0 0) (.slice none 0 0)) := Lib.hid (ht2.2.2.oth _ _ _ (by omega) HZ1.out)
    clear ht2
    have hcl := dbyo 20 (by omega) g w2 HT2.out.1
    go_wp2_with fail
    refine hcl.mono ?_
    rintro e w3 ⟨⟨A1, c1, tk, htl, rfl, ho3⟩, ht3⟩
    clear hcl
    have hsw3 : w2.heap.size ≤ w3.heap.size := ht3.2.1.size
    have HT3 := Lib.hid (HT2.out.trans ht3)
    have HZ3 : Hid (CvRow w3 w.heap.size false .zero 0 (.slice none 0 0) (.slice none 0 0)) := Lib.hid (ht3.2.2.oth _ _ _ (by omega) HZ2.out)
    have HO3 := Lib.hid ho3
    clear ht3 ho3
    have hby3 : Bytes (w3.alloc (.cells #[.int .u8 1] 5)) (fun _ => True) (.slice (some ⟨w3.heap.size, 0, none⟩) 1 1) [1#8] := bytes_one w3 1 1#8 (by unfold bv; decide)
    go_wp2_with (at_builtin; go_must (refine wpList_append_bytes rfl _ _ rfl w2.heap.size _ tk rfl (HO3.out.alloc _) _ (.slice (some ⟨w3.heap.size, 0, none⟩) 1 1) [1#8] rfl hby3 (by simp only [List.length_singleton]; omega) (by simp; omega) ?_; intro v4 w4 ho4 hb4))
    have hb34 : Below w2.heap.size w3 w4 := ((Below.refl _ _).alloc hsw3 _).trans hb4
    have hsw4 : w3.heap.size ≤ w4.heap.size := hb34.size
    have HT4 : Hid (Turn g w w4) := Lib.hid (Turn.below HT3.out hb34 (by omega) (by omega))
    have HZ4 : Hid (CvRow w4 w.heap.size false .zero 0 (.slice none 0 0) (.slice none 0 0)) := Lib.hid (Whole.below HZ3.out hb34 (by omega))
    have HO4 := Lib.hid ho4
    obtain ⟨A4, c4, rfl, -⟩ := id (Bytes.of_own ho4)
    clear hb34 hb4 ho4 hby3
    have hcl := dbyo 20 (by omega) g w4 HT4.out.1
    go_wp2_with fail
    refine hcl.mono ?_
    rintro e w5 ⟨⟨A5, c5, bx, hbl, rfl, ho5⟩, ht5⟩
    clear hcl
    have hsw5 : w4.heap.size ≤ w5.heap.size := ht5.2.1.size
    have HT5 := Lib.hid (HT4.out.trans ht5)
    have HZ5 : Hid (CvRow w5 w.heap.size false .zero 0 (.slice none 0 0) (.slice none 0 0)) := Lib.hid (ht5.2.2.oth _ _ _ (by omega) HZ4.out)
    have HO5 := Lib.hid ho5
    have h4 : Bytes w4 (fun q => w2.heap.size ≤ q ∧ q < w4.heap.size) (.slice A4 (tk ++ [1#8]).length c4) (tk ++ [1#8]) := (Bytes.of_own HO4.out).mono fun q hq h => ⟨h, hq⟩
    have HO45 := Lib.hid (h4.oth ht5.2.2 fun q hq => by omega)
    clear ht5 ho5 h4
    have hby5 : Bytes (w5.alloc (.cells #[.int .u8 2] 5)) (fun _ => True) (.slice (some ⟨w5.heap.size, 0, none⟩) 1 1) [2#8] := bytes_one w5 2 2#8 (by unfold bv; decide)
    have HZA : Hid (∀ W, Below w4.heap.size w5 W → CvRow W w.heap.size false .zero 0 (.slice none 0 0) (.slice none 0 0)) := Lib.hid fun W hW => Whole.below HZ5.out hW (by omega)
    go_wp2_with (first
      | (at_builtin; go_must (refine wpList_append_bytes rfl _ _ rfl w4.heap.size _ bx rfl (HO5.out.alloc _) _ (.slice (some ⟨w5.heap.size, 0, none⟩) 1 1) [2#8] rfl hby5 (by simp only [List.length_singleton]; omega) (by simp; omega) ?_; intro v6 w6 ho6 hb6; obtain ⟨A6, c6, rfl, -⟩ := id (Bytes.of_own ho6)))
      | (refine wpList_store_row rfl 59 _ _ rfl w.heap.size _ rfl rfl 59 _ (HZA.out _ (((Below.refl _ _).alloc (by omega) _).trans hb6)) (by rw [cavSize]; rfl) (by rw [cvrow_size]; rfl) (by simp [Value.oneCell']) ?_))
    rw [cv4]
    have hb56 : Below w4.heap.size w5 w6 := ((Below.refl _ _).alloc (by omega) _).trans hb6
    have hz6 := Whole.setRow (HZA.out _ hb56) (cvrow true .zero (pa : Int) (.slice A4 (tk.length + 1) c4) (.slice A6 (bx.length + 1) c6))
    have ht6 : Turn g w w6 := Turn.below HT5.out hb56 (by omega) (by omega)
    have hl1 : (tk ++ [1#8]).length = tk.length + 1 := by simp
    have hl2 : (bx ++ [2#8]).length = bx.length + 1 := by simp
    have hB1 := HO45.out.keep fun q _ hq => hb56.block q hq.2
    have hB2 := Bytes.of_own ho6
    refine bodyPost_ret (results_cav Tryd.results52 _ rfl hz6) rfl ?_
    refine ⟨⟨_, ⟨true, .zero, (pa : Int), tk ++ [1#8], bx ++ [2#8]⟩, rfl, cvok_mk.2 (.inl ⟨rfl, rfl, by omega, by omega, by omega, by omega, by omega, by omega⟩), A4, c4, A6, c6, by rw [hl1, hl2], ?_, ?_, by simp, by simp, by simp; omega, by simp; omega⟩, Turn.below ht6 (below_setRow (Below.refl _ _) (Nat.le_refl _) _) hgw (Nat.le_refl _)⟩
    · exact (hB1.keep fun q _ hq => setRow_other _ _ q _ (by have := hq.1; omega)).mono fun q _ hq => by have := hq.1; omega
    · exact (hB2.keep fun q _ hq => setRow_other _ _ q _ (by have hq : w4.heap.size ≤ q := hq; omega)).mono fun q _ hq => by have hq : w4.heap.size ≤ q := hq; omega
end Go.Proofs.YtiikhjifjdpgdaaDoor
