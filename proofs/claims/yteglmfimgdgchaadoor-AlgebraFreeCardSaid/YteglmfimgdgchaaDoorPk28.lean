/-
  The law AlgebraFree.
-/
import Derived.Deep.CutBlock
import Derived.Deep.RegionHeld3
import Derived.Deep.DeepCutAuto
import Derived.Test.YteglmfimgdgchaaDoorPk21
import Derived.Test.YteglmfimgdgchaaDoorPk20
import Derived.Test.YteglmfimgdgchaaDoorPk22
import Derived.Test.YteglmfimgdgchaaDoorPk3
import Derived.Test.YteglmfimgdgchaaDoorPk27
import Derived.Test.YteglmfimgdgchaaDoorPk15
import Derived.Test.YteglmfimgdgchaaDoorPk11
namespace Go.Proofs.YteglmfimgdgchaaDoor
open Go Go.RowKit Sh Leaf

set_option linter.unusedSimpArgs false in
set_option linter.unusedVariables false in
set_option maxRecDepth 100000 in
set_option maxHeartbeats 8000000 in
theorem afree_law (A0 : Option Addr) (l0 : List Int) (c0 : Nat) {Q1 : Nat → Prop} (A1 : Option Addr) (x : List B8) (c1 : Nat) {Q2 : Nat → Prop} (A2 : Option Addr) (y : List B8) (c2 : Nat) (w : World) (hT : Tables w) (hI0 : Ints w (fun b => b < w.heap.size) A0 c0 l0) (hB1 : Bytes w Q1 (.slice A1 x.length c1) x) (hB2 : Bytes w Q2 (.slice A2 y.length c2) y) :
    Calls Tryd.prog 7 #[.slice A0 l0.length c0, .slice A1 x.length c1, .slice A2 y.length c2] w fun e w' => e = .returned (.bool true) ∧ Below w.heap.size w w' := by
  have HT := Lib.hid hT
  clear hT
  have H1 : Hid (Below w.heap.size w w) := Lib.hid (Below.refl _ _)
  obtain ⟨n0, hn0⟩ : ∃ n, n = l0.length := ⟨_, rfl⟩
  rw [← hn0]
  have HI0 := Lib.hid hI0
  have HN0 := Lib.hid hn0
  clear hI0 hn0
  have H2 : Hid (Bytes w (Off []) (.slice A1 x.length c1) x) := Lib.hid (hB1.mono fun _ _ _ => by intro y hy; cases hy)
  clear hB1
  have H3 : Hid (Bytes w (Off []) (.slice A2 y.length c2) y) := Lib.hid (hB2.mono fun _ _ _ => by intro y hy; cases hy)
  clear hB2
  go_enter Tryd.func7, Tryd.ntmps7
  have hcl := ashort H2.out
  go_wp2_with fail
  refine hcl.mono ?_
  rintro e w1 ⟨⟨X, rfl, hqX, hbx⟩, hww⟩
  clear hcl
  replace hww := hww.symm
  subst hww
  clear H2
  have H4 : Hid (Bytes w (Off []) (.slice A1 X.length c1) X) := Lib.hid (hbx)
  clear hbx
  have hcl := ashort H3.out
  go_wp2_with fail
  refine hcl.mono ?_
  rintro e w1 ⟨⟨Y, rfl, hqY, hbx⟩, hww⟩
  clear hcl
  replace hww := hww.symm
  subst hww
  clear H3
  have H5 : Hid (Bytes w (Off []) (.slice A2 Y.length c2) Y) := Lib.hid (hbx)
  clear hbx
  have hcl := dnew A0 _ c0 l0 w HN0.out ((HI0.out.below H1.out).mono (Below.size H1.out))
  go_wp2_with fail
  refine hcl.mono ?_
  rintro e d0 ⟨rfl, hdk, hbu⟩
  clear hcl
  have hsd0 : w.heap.size < d0.heap.size := hdk.lt
  have H6 : Hid (Bytes w (Off [w.heap.size]) (.slice A1 X.length c1) X) := Lib.hid (Bytes.grow H4.out (by omega))
  have H7 : Hid (Bytes w (Off [w.heap.size]) (.slice A2 Y.length c2) Y) := Lib.hid (Bytes.grow H5.out (by omega))
  clear H4 H5
  have H8 : Hid (Below w.heap.size w d0) := Lib.hid ((Below.trans H1.out (Below.mono hbu (Below.size H1.out))))
  have H9 : Hid (Bytes d0 (Off [w.heap.size]) (.slice A1 X.length c1) X) := Lib.hid ((Bytes.below H6.out hbu (Nat.le_refl _)))
  have H10 : Hid (Bytes d0 (Off [w.heap.size]) (.slice A2 Y.length c2) Y) := Lib.hid ((Bytes.below H7.out hbu (Nat.le_refl _)))
  clear H1 H6 H7
  have H11 : Hid (Deck w.heap.size d0) := Lib.hid (hdk)
  clear hdk hbu HI0 HN0
  have hcl := dalg w.heap.size d0 H11.out
  go_wp2_with fail
  refine hcl.mono ?_
  rintro e u1 ⟨⟨v, a, rfl, hv, h4a, hb4a, hf4a, hgd⟩, ht⟩
  clear hcl
  have HGa := Lib.hid hgd
  obtain ⟨Ama, cma, Aba, cba, rfl, hM, hBx, hA⟩ := hv
  have hsla : a.seed.length = 32 := hA.seed
  have hfra : 0 ≤ a.fresh := hA.lo
  have hsu1 : d0.heap.size ≤ u1.heap.size := Turn.size ht
  have H12 : Hid (Below w.heap.size w u1) := Lib.hid ((base_turn H8.out ht (by omega)))
  have H13 : Hid (Bytes u1 (Off [w.heap.size]) (.slice A1 X.length c1) X) := Lib.hid ((Bytes.turn H9.out ht (by simp)))
  have H14 : Hid (Bytes u1 (Off [w.heap.size]) (.slice A2 Y.length c2) Y) := Lib.hid ((Bytes.turn H10.out ht (by simp)))
  have H15 : Hid (Deck w.heap.size u1) := Lib.hid ((ht).1)
  clear H8 H9 H10 H11
  have H16 : Hid (AlV u1 (Off [w.heap.size]) (.agg (alc a.free a.seed a.fresh (.slice Ama a.macs.length cma) (.slice Aba a.boxes.length cba))) a) := Lib.hid (AlV.mono ⟨Ama, cma, Aba, cba, rfl, hM, hBx, hA⟩ (fun _ _ h => off_one h))
  clear hM hBx hA ht hgd
  have ks0 : ∀ z0 : Array Value, Whole (u1.alloc (.cells z0 28)) u1.heap.size 28 z0 := fun _ => (Whole.here _ _ _)
  go_upto_region 4 with (with_reducible refine wpList_store_alg rfl _ _ rfl (g := u1.heap.size) rfl rfl (ks0 _) rfl (alc_size _ _ _ _ _) (alc_one _ _ _ _ _ _ _ _ _) ?_)
  clear ks0
  rw [zar_lit]
  obtain ⟨q2, hq⟩ : ∃ q, q = ((u1.alloc (.cells zar 28)).setRow u1.heap.size (alc a.free a.seed a.fresh (.slice Ama a.macs.length cma) (.slice Aba a.boxes.length cba))) := ⟨_, rfl⟩
  rw [← hq]
  have hsq2 : u1.heap.size + 1 ≤ q2.heap.size := by rw [hq]; simp
  have H17 : Hid (Below w.heap.size w q2) := Lib.hid (by rw [hq]; exact (below_setRow (Below.trans H12.out (Below.mono (Below.alloc (Below.refl _ _) (Nat.le_refl _) _) (Below.size H12.out))) (by omega) _))
  have H18 : Hid (Bytes q2 (Off [u1.heap.size, w.heap.size]) (.slice A1 X.length c1) X) := Lib.hid (by rw [hq]; exact (Bytes.store (Bytes.below (Bytes.grow H13.out (by omega)) (Below.alloc (Below.refl _ _) (Nat.le_refl _) _) (Nat.le_refl _)) (by simp) _))
  have H19 : Hid (Bytes q2 (Off [u1.heap.size, w.heap.size]) (.slice A2 Y.length c2) Y) := Lib.hid (by rw [hq]; exact (Bytes.store (Bytes.below (Bytes.grow H14.out (by omega)) (Below.alloc (Below.refl _ _) (Nat.le_refl _) _) (Nat.le_refl _)) (by simp) _))
  have H20 : Hid (Deck w.heap.size q2) := Lib.hid (by rw [hq]; exact (Deck.store (Deck.below H15.out (Below.alloc (Below.refl _ _) (Nat.le_refl _) _) (Deck.lt H15.out)) (by omega) _))
  have H21 : Hid (AlV q2 (Off [u1.heap.size, w.heap.size]) (.agg (alc a.free a.seed a.fresh (.slice Ama a.macs.length cma) (.slice Aba a.boxes.length cba))) a) := Lib.hid (by rw [hq]; exact (AlV.store (AlV.below (AlV.grow H16.out (by omega)) (Below.alloc (Below.refl _ _) (Nat.le_refl _) _) (Nat.le_refl _)) (by simp) _))
  clear H12 H13 H14 H15 H16
  have H22 : Hid (ALRow q2 u1.heap.size a.free a.seed a.fresh (.slice Ama a.macs.length cma) (.slice Aba a.boxes.length cba)) := Lib.hid (by rw [hq]; exact (Whole.setRow (Whole.here _ _ _) _))
  clear hq
  have hsd := ALRow.seed H22.out hsla
  have hsl : (a.seed.map byt).length = 32 := by rw [List.length_map, hsla]
  have hcl := anew true hsla q2 (Off [u1.heap.size, w.heap.size])
  go_wp2_with (with_reducible refine wpList_load_mid rfl 23 _ rfl u1.heap.size 1 rfl _ _ hsd Tryd.underlying23 rfl (by rw [tagSize, hsl]) ?_)
  refine hcl.mono ?_
  rintro e u9 ⟨⟨v, rfl, hv⟩, hbu⟩
  clear hcl hsd hsl
  obtain ⟨b, hb⟩ : ∃ b, b = (⟨true, a.seed, 0, [], []⟩ : Alg) := ⟨_, rfl⟩
  rw [← hb] at hv
  have HB := Lib.hid hb
  clear hb
  obtain ⟨Amb, cmb, Abb, cbb, rfl, hM, hBx, hA⟩ := hv
  have hsu9 : q2.heap.size ≤ u9.heap.size := hbu.size
  have H23 : Hid (Below w.heap.size w u9) := Lib.hid ((Below.trans H17.out (Below.mono hbu (Below.size H17.out))))
  have H24 : Hid (Bytes u9 (Off [u1.heap.size, w.heap.size]) (.slice A1 X.length c1) X) := Lib.hid ((Bytes.below H18.out hbu (Nat.le_refl _)))
  have H25 : Hid (Bytes u9 (Off [u1.heap.size, w.heap.size]) (.slice A2 Y.length c2) Y) := Lib.hid ((Bytes.below H19.out hbu (Nat.le_refl _)))
  have H26 : Hid (Deck w.heap.size u9) := Lib.hid ((Deck.below H20.out hbu (Deck.lt H20.out)))
  have H27 : Hid (AlV u9 (Off [u1.heap.size, w.heap.size]) (.agg (alc a.free a.seed a.fresh (.slice Ama a.macs.length cma) (.slice Aba a.boxes.length cba))) a) := Lib.hid ((AlV.below H21.out hbu (Nat.le_refl _)))
  have H28 : Hid (ALRow u9 u1.heap.size a.free a.seed a.fresh (.slice Ama a.macs.length cma) (.slice Aba a.boxes.length cba)) := Lib.hid ((Whole.below H22.out hbu (Whole.lt H22.out)))
  clear H17 H18 H19 H20 H21 H22
  have H29 : Hid (AlV u9 (Off [u1.heap.size, w.heap.size]) (.agg (alc b.free b.seed b.fresh (.slice Amb b.macs.length cmb) (.slice Abb b.boxes.length cbb))) b) := Lib.hid (⟨Amb, cmb, Abb, cbb, rfl, hM, hBx, hA⟩)
  clear hM hBx hA hbu
  have ks0 : Whole u9 u1.heap.size 28 (alc a.free a.seed a.fresh (.slice Ama a.macs.length cma) (.slice Aba a.boxes.length cba)) := H28.out
  go_upto_region 5 with (with_reducible refine wpList_store_alg rfl _ _ rfl (g := u1.heap.size) rfl rfl (ks0) (alc_size _ _ _ _ _) (alc_size _ _ _ _ _) (alc_one _ _ _ _ _ _ _ _ _) ?_)
  clear ks0
  obtain ⟨q3, hq⟩ : ∃ q, q = (u9.setRow u1.heap.size (alc b.free b.seed b.fresh (.slice Amb b.macs.length cmb) (.slice Abb b.boxes.length cbb))) := ⟨_, rfl⟩
  rw [← hq]
  have hsq3 : u9.heap.size ≤ q3.heap.size := by rw [hq]; simp
  have H30 : Hid (Below w.heap.size w q3) := Lib.hid (by rw [hq]; exact (below_setRow H23.out (by omega) _))
  have H31 : Hid (Bytes q3 (Off [u1.heap.size, w.heap.size]) (.slice A1 X.length c1) X) := Lib.hid (by rw [hq]; exact (Bytes.store H24.out (by simp) _))
  have H32 : Hid (Bytes q3 (Off [u1.heap.size, w.heap.size]) (.slice A2 Y.length c2) Y) := Lib.hid (by rw [hq]; exact (Bytes.store H25.out (by simp) _))
  have H33 : Hid (Deck w.heap.size q3) := Lib.hid (by rw [hq]; exact (Deck.store H26.out (by omega) _))
  have H34 : Hid (AlV q3 (Off [u1.heap.size, w.heap.size]) (.agg (alc a.free a.seed a.fresh (.slice Ama a.macs.length cma) (.slice Aba a.boxes.length cba))) a) := Lib.hid (by rw [hq]; exact (AlV.store H27.out (by simp) _))
  have H35 : Hid (ALRow q3 u1.heap.size b.free b.seed b.fresh (.slice Amb b.macs.length cmb) (.slice Abb b.boxes.length cbb)) := Lib.hid (by rw [hq]; exact (Whole.setRow H28.out _))
  have H36 : Hid (AlV q3 (Off [u1.heap.size, w.heap.size]) (.agg (alc b.free b.seed b.fresh (.slice Amb b.macs.length cmb) (.slice Abb b.boxes.length cbb))) b) := Lib.hid (by rw [hq]; exact (AlV.store H29.out (by simp) _))
  clear H23 H24 H25 H26 H27 H28 H29
  clear hq
  clear H34
  have hcl := pkey H36.out (Tables.below HT.out (Nat.le_refl _) H30.out)
  obtain ⟨R, hR⟩ : ∃ R, R = aKey b := ⟨_, rfl⟩
  have hlK : R.2.1.length = 32 := by rw [hR]; exact key_len _
  rw [← hR] at hcl
  obtain ⟨c, K, eK⟩ := R
  have HEc := Lib.hid hR
  clear hR
  dsimp only [AlgR] at hcl hlK
  go_wp2_with (with_reducible refine wpList_load_alg rfl _ rfl rfl H35.out (alc_size _ _ _ _ _) ?_)
  refine hcl.mono ?_
  rintro e u4 ⟨⟨x, rfl, hx⟩, hbu⟩
  clear hcl
  obtain ⟨Amc, cmc, Abc, cbc, rfl, hM, hBx, hA⟩ := hx
  have hsu4 : q3.heap.size ≤ u4.heap.size := hbu.size
  have H37 : Hid (Below w.heap.size w u4) := Lib.hid ((Below.trans H30.out (Below.mono hbu (Below.size H30.out))))
  have H38 : Hid (Bytes u4 (Off [u1.heap.size, w.heap.size]) (.slice A1 X.length c1) X) := Lib.hid ((Bytes.below H31.out hbu (Nat.le_refl _)))
  have H39 : Hid (Bytes u4 (Off [u1.heap.size, w.heap.size]) (.slice A2 Y.length c2) Y) := Lib.hid ((Bytes.below H32.out hbu (Nat.le_refl _)))
  have H40 : Hid (Deck w.heap.size u4) := Lib.hid ((Deck.below H33.out hbu (Deck.lt H33.out)))
  have H41 : Hid (ALRow u4 u1.heap.size b.free b.seed b.fresh (.slice Amb b.macs.length cmb) (.slice Abb b.boxes.length cbb)) := Lib.hid ((Whole.below H35.out hbu (Whole.lt H35.out)))
  have H42 : Hid (AlV u4 (Off [u1.heap.size, w.heap.size]) (.agg (alc b.free b.seed b.fresh (.slice Amb b.macs.length cmb) (.slice Abb b.boxes.length cbb))) b) := Lib.hid ((AlV.below H36.out hbu (Nat.le_refl _)))
  clear H30 H31 H32 H33 H35 H36
  have H43 : Hid (AlV u4 (Off [u1.heap.size, w.heap.size]) (.agg (alc c.free c.seed c.fresh (.slice Amc c.macs.length cmc) (.slice Abc c.boxes.length cbc))) c) := Lib.hid (⟨Amc, cmc, Abc, cbc, rfl, hM, hBx, hA⟩)
  clear hM hBx hA hbu
  have hnc : c.macs.length ≤ b.macs.length := by have := key_macs b; rw [← HEc.out] at this; exact this
  have ks0 : ∀ z0 : Array Value, Whole (u4.alloc (.cells z0 23)) u1.heap.size 28 (alc b.free b.seed b.fresh (.slice Amb b.macs.length cmb) (.slice Abb b.boxes.length cbb)) := fun _ => (Whole.below H41.out (Below.alloc (Below.refl _ _) (Nat.le_refl _) _) (Whole.lt H41.out))
  have ks1 : ∀ z0 : Array Value, Whole ((u4.alloc (.cells z0 23)).setRow u1.heap.size (alc c.free c.seed c.fresh (.slice Amc c.macs.length cmc) (.slice Abc c.boxes.length cbc))) u4.heap.size 23 z0 := fun _ => (Whole.setRow_far (Whole.here _ _ _) (by omega) _)
  go_upto_region 6 with (first
    | (with_reducible refine wpList_store_alg rfl _ _ rfl (g := u1.heap.size) rfl rfl (ks0 _) (alc_size _ _ _ _ _) (alc_size _ _ _ _ _) (alc_one _ _ _ _ _ _ _ _ _) ?_)
    | (with_reducible refine wpList_store_tag rfl _ _ rfl (g := u4.heap.size) rfl rfl (ks1 _) rfl (tag_size hlK) (tag_one _) ?_))
  clear ks0 ks1
  rw [ztr_lit]
  obtain ⟨q5, hq⟩ : ∃ q, q = (((u4.alloc (.cells ztr 23)).setRow u1.heap.size (alc c.free c.seed c.fresh (.slice Amc c.macs.length cmc) (.slice Abc c.boxes.length cbc))).setRow u4.heap.size (K.map byt).toArray) := ⟨_, rfl⟩
  rw [← hq]
  have hsq5 : u4.heap.size + 1 ≤ q5.heap.size := by rw [hq]; simp
  have H44 : Hid (Below w.heap.size w q5) := Lib.hid (by rw [hq]; exact (below_setRow (below_setRow (Below.trans H37.out (Below.mono (Below.alloc (Below.refl _ _) (Nat.le_refl _) _) (Below.size H37.out))) (by omega) _) (by omega) _))
  have H45 : Hid (Bytes q5 (Off [u4.heap.size, u1.heap.size, w.heap.size]) (.slice A1 X.length c1) X) := Lib.hid (by rw [hq]; exact (Bytes.store (Bytes.store (Bytes.below (Bytes.grow H38.out (by omega)) (Below.alloc (Below.refl _ _) (Nat.le_refl _) _) (Nat.le_refl _)) (by simp) _) (by simp) _))
  have H46 : Hid (Bytes q5 (Off [u4.heap.size, u1.heap.size, w.heap.size]) (.slice A2 Y.length c2) Y) := Lib.hid (by rw [hq]; exact (Bytes.store (Bytes.store (Bytes.below (Bytes.grow H39.out (by omega)) (Below.alloc (Below.refl _ _) (Nat.le_refl _) _) (Nat.le_refl _)) (by simp) _) (by simp) _))
  have H47 : Hid (Deck w.heap.size q5) := Lib.hid (by rw [hq]; exact (Deck.store (Deck.store (Deck.below H40.out (Below.alloc (Below.refl _ _) (Nat.le_refl _) _) (Deck.lt H40.out)) (by omega) _) (by omega) _))
  have H48 : Hid (ALRow q5 u1.heap.size c.free c.seed c.fresh (.slice Amc c.macs.length cmc) (.slice Abc c.boxes.length cbc)) := Lib.hid (by rw [hq]; exact (Whole.setRow_far (Whole.setRow (Whole.below H41.out (Below.alloc (Below.refl _ _) (Nat.le_refl _) _) (Whole.lt H41.out)) _) (by omega) _))
  have H49 : Hid (AlV q5 (Off [u4.heap.size, u1.heap.size, w.heap.size]) (.agg (alc b.free b.seed b.fresh (.slice Amb b.macs.length cmb) (.slice Abb b.boxes.length cbb))) b) := Lib.hid (by rw [hq]; exact (AlV.store (AlV.store (AlV.below (AlV.grow H42.out (by omega)) (Below.alloc (Below.refl _ _) (Nat.le_refl _) _) (Nat.le_refl _)) (by simp) _) (by simp) _))
  have H50 : Hid (AlV q5 (Off [u4.heap.size, u1.heap.size, w.heap.size]) (.agg (alc c.free c.seed c.fresh (.slice Amc c.macs.length cmc) (.slice Abc c.boxes.length cbc))) c) := Lib.hid (by rw [hq]; exact (AlV.store (AlV.store (AlV.below (AlV.grow H43.out (by omega)) (Below.alloc (Below.refl _ _) (Nat.le_refl _) _) (Nat.le_refl _)) (by simp) _) (by simp) _))
  clear H37 H38 H39 H40 H41 H42 H43
  have H51 : Hid (TGRow q5 u4.heap.size K) := Lib.hid (by rw [hq]; exact (Whole.setRow (Whole.setRow_far (Whole.here _ _ _) (by omega) _) _))
  clear hq
  clear H49
  have hcl := pkey H50.out (Tables.below HT.out (Nat.le_refl _) H44.out)
  obtain ⟨R, hR⟩ : ∃ R, R = aKey c := ⟨_, rfl⟩
  have hlL : R.2.1.length = 32 := by rw [hR]; exact key_len _
  rw [← hR] at hcl
  obtain ⟨d, L, eL⟩ := R
  have HEd := Lib.hid hR
  clear hR
  dsimp only [AlgR] at hcl hlL
  go_wp2_with (with_reducible refine wpList_load_alg rfl _ rfl rfl H48.out (alc_size _ _ _ _ _) ?_)
  refine hcl.mono ?_
  rintro e u6 ⟨⟨x, rfl, hx⟩, hbu⟩
  clear hcl
  obtain ⟨Amd, cmd, Abd, cbd, rfl, hM, hBx, hA⟩ := hx
  have hsu6 : q5.heap.size ≤ u6.heap.size := hbu.size
  have H52 : Hid (Below w.heap.size w u6) := Lib.hid ((Below.trans H44.out (Below.mono hbu (Below.size H44.out))))
  have H53 : Hid (Bytes u6 (Off [u4.heap.size, u1.heap.size, w.heap.size]) (.slice A1 X.length c1) X) := Lib.hid ((Bytes.below H45.out hbu (Nat.le_refl _)))
  have H54 : Hid (Bytes u6 (Off [u4.heap.size, u1.heap.size, w.heap.size]) (.slice A2 Y.length c2) Y) := Lib.hid ((Bytes.below H46.out hbu (Nat.le_refl _)))
  have H55 : Hid (Deck w.heap.size u6) := Lib.hid ((Deck.below H47.out hbu (Deck.lt H47.out)))
  have H56 : Hid (ALRow u6 u1.heap.size c.free c.seed c.fresh (.slice Amc c.macs.length cmc) (.slice Abc c.boxes.length cbc)) := Lib.hid ((Whole.below H48.out hbu (Whole.lt H48.out)))
  have H57 : Hid (AlV u6 (Off [u4.heap.size, u1.heap.size, w.heap.size]) (.agg (alc c.free c.seed c.fresh (.slice Amc c.macs.length cmc) (.slice Abc c.boxes.length cbc))) c) := Lib.hid ((AlV.below H50.out hbu (Nat.le_refl _)))
  have H58 : Hid (TGRow u6 u4.heap.size K) := Lib.hid ((Whole.below H51.out hbu (Whole.lt H51.out)))
  clear H44 H45 H46 H47 H48 H50 H51
  have H59 : Hid (AlV u6 (Off [u4.heap.size, u1.heap.size, w.heap.size]) (.agg (alc d.free d.seed d.fresh (.slice Amd d.macs.length cmd) (.slice Abd d.boxes.length cbd))) d) := Lib.hid (⟨Amd, cmd, Abd, cbd, rfl, hM, hBx, hA⟩)
  clear hM hBx hA hbu
  have hnd : d.macs.length ≤ c.macs.length := by have := key_macs c; rw [← HEd.out] at this; exact this
  have ks0 : ∀ z0 : Array Value, Whole (u6.alloc (.cells z0 23)) u1.heap.size 28 (alc c.free c.seed c.fresh (.slice Amc c.macs.length cmc) (.slice Abc c.boxes.length cbc)) := fun _ => (Whole.below H56.out (Below.alloc (Below.refl _ _) (Nat.le_refl _) _) (Whole.lt H56.out))
  have ks1 : ∀ z0 : Array Value, Whole ((u6.alloc (.cells z0 23)).setRow u1.heap.size (alc d.free d.seed d.fresh (.slice Amd d.macs.length cmd) (.slice Abd d.boxes.length cbd))) u6.heap.size 23 z0 := fun _ => (Whole.setRow_far (Whole.here _ _ _) (by omega) _)
  go_upto_region 7 with (first
    | (with_reducible refine wpList_store_alg rfl _ _ rfl (g := u1.heap.size) rfl rfl (ks0 _) (alc_size _ _ _ _ _) (alc_size _ _ _ _ _) (alc_one _ _ _ _ _ _ _ _ _) ?_)
    | (with_reducible refine wpList_store_tag rfl _ _ rfl (g := u6.heap.size) rfl rfl (ks1 _) rfl (tag_size hlL) (tag_one _) ?_))
  clear ks0 ks1
  rw [ztr_lit]
  obtain ⟨q7, hq⟩ : ∃ q, q = (((u6.alloc (.cells ztr 23)).setRow u1.heap.size (alc d.free d.seed d.fresh (.slice Amd d.macs.length cmd) (.slice Abd d.boxes.length cbd))).setRow u6.heap.size (L.map byt).toArray) := ⟨_, rfl⟩
  rw [← hq]
  have hsq7 : u6.heap.size + 1 ≤ q7.heap.size := by rw [hq]; simp
  have H60 : Hid (Below w.heap.size w q7) := Lib.hid (by rw [hq]; exact (below_setRow (below_setRow (Below.trans H52.out (Below.mono (Below.alloc (Below.refl _ _) (Nat.le_refl _) _) (Below.size H52.out))) (by omega) _) (by omega) _))
  have H61 : Hid (Bytes q7 (Off [u6.heap.size, u4.heap.size, u1.heap.size, w.heap.size]) (.slice A1 X.length c1) X) := Lib.hid (by rw [hq]; exact (Bytes.store (Bytes.store (Bytes.below (Bytes.grow H53.out (by omega)) (Below.alloc (Below.refl _ _) (Nat.le_refl _) _) (Nat.le_refl _)) (by simp) _) (by simp) _))
  have H62 : Hid (Bytes q7 (Off [u6.heap.size, u4.heap.size, u1.heap.size, w.heap.size]) (.slice A2 Y.length c2) Y) := Lib.hid (by rw [hq]; exact (Bytes.store (Bytes.store (Bytes.below (Bytes.grow H54.out (by omega)) (Below.alloc (Below.refl _ _) (Nat.le_refl _) _) (Nat.le_refl _)) (by simp) _) (by simp) _))
  have H63 : Hid (Deck w.heap.size q7) := Lib.hid (by rw [hq]; exact (Deck.store (Deck.store (Deck.below H55.out (Below.alloc (Below.refl _ _) (Nat.le_refl _) _) (Deck.lt H55.out)) (by omega) _) (by omega) _))
  have H64 : Hid (ALRow q7 u1.heap.size d.free d.seed d.fresh (.slice Amd d.macs.length cmd) (.slice Abd d.boxes.length cbd)) := Lib.hid (by rw [hq]; exact (Whole.setRow_far (Whole.setRow (Whole.below H56.out (Below.alloc (Below.refl _ _) (Nat.le_refl _) _) (Whole.lt H56.out)) _) (by omega) _))
  have H65 : Hid (AlV q7 (Off [u6.heap.size, u4.heap.size, u1.heap.size, w.heap.size]) (.agg (alc c.free c.seed c.fresh (.slice Amc c.macs.length cmc) (.slice Abc c.boxes.length cbc))) c) := Lib.hid (by rw [hq]; exact (AlV.store (AlV.store (AlV.below (AlV.grow H57.out (by omega)) (Below.alloc (Below.refl _ _) (Nat.le_refl _) _) (Nat.le_refl _)) (by simp) _) (by simp) _))
  have H66 : Hid (TGRow q7 u4.heap.size K) := Lib.hid (by rw [hq]; exact (Whole.setRow_far (Whole.setRow_far (Whole.below H58.out (Below.alloc (Below.refl _ _) (Nat.le_refl _) _) (Whole.lt H58.out)) (by omega) _) (by omega) _))
  have H67 : Hid (AlV q7 (Off [u6.heap.size, u4.heap.size, u1.heap.size, w.heap.size]) (.agg (alc d.free d.seed d.fresh (.slice Amd d.macs.length cmd) (.slice Abd d.boxes.length cbd))) d) := Lib.hid (by rw [hq]; exact (AlV.store (AlV.store (AlV.below (AlV.grow H59.out (by omega)) (Below.alloc (Below.refl _ _) (Nat.le_refl _) _) (Nat.le_refl _)) (by simp) _) (by simp) _))
  clear H52 H53 H54 H55 H56 H57 H58 H59
  have H68 : Hid (TGRow q7 u6.heap.size L) := Lib.hid (by rw [hq]; exact (Whole.setRow (Whole.setRow_far (Whole.here _ _ _) (by omega) _) _))
  clear hq
  clear H65
  obtain ⟨rfl, rfl, hKL, hd0⟩ := free_two HB.out HEc.out HEd.out
  have hqe := fun W => eql_tag hlK hlL hKL W
  have hdd : d.macs.length ≤ 3 := by omega
  clear hd0
  go_upto_region 9 with (first
    | (with_reducible refine wpList_load_wanted_at (by with_unfolding_all rfl) 23 _ rfl u4.heap.size 0 rfl _ _ (TGRow.range H66.out) Tryd.underlying23 rfl (tag_sz hlK) ?_)
    | (with_reducible refine wpList_load_wanted_at (by with_unfolding_all rfl) 23 _ rfl u6.heap.size 0 rfl _ _ (TGRow.range H68.out) Tryd.underlying23 rfl (tag_sz hlL) ?_))
  clear hqe hKL
  have hcl := dknown w.heap.size q7 H63.out H67.out (fun b h => h _ (by simp))
  go_wp2_with (with_reducible refine wpList_load_alg rfl _ rfl rfl H64.out (alc_size _ _ _ _ _) ?_)
  refine hcl.mono ?_
  rintro e u8 ⟨⟨J, hlJ, rfl⟩, ht⟩
  clear hcl
  have hsu8 : q7.heap.size ≤ u8.heap.size := Turn.size ht
  have H69 : Hid (Below w.heap.size w u8) := Lib.hid ((base_turn H60.out ht (by omega)))
  have H70 : Hid (Bytes u8 (Off [u6.heap.size, u4.heap.size, u1.heap.size, w.heap.size]) (.slice A1 X.length c1) X) := Lib.hid ((Bytes.turn H61.out ht (by simp)))
  have H71 : Hid (Bytes u8 (Off [u6.heap.size, u4.heap.size, u1.heap.size, w.heap.size]) (.slice A2 Y.length c2) Y) := Lib.hid ((Bytes.turn H62.out ht (by simp)))
  have H72 : Hid (Deck w.heap.size u8) := Lib.hid ((ht).1)
  have H73 : Hid (ALRow u8 u1.heap.size d.free d.seed d.fresh (.slice Amd d.macs.length cmd) (.slice Abd d.boxes.length cbd)) := Lib.hid (((ht).2.2.oth _ _ _ (by omega) H64.out))
  have H74 : Hid (TGRow u8 u4.heap.size K) := Lib.hid (((ht).2.2.oth _ _ _ (by omega) H66.out))
  have H75 : Hid (AlV u8 (Off [u6.heap.size, u4.heap.size, u1.heap.size, w.heap.size]) (.agg (alc d.free d.seed d.fresh (.slice Amd d.macs.length cmd) (.slice Abd d.boxes.length cbd))) d) := Lib.hid ((AlV.turn H67.out ht (by simp) (Turn.size ht)))
  have H76 : Hid (TGRow u8 u6.heap.size L) := Lib.hid (((ht).2.2.oth _ _ _ (by omega) H68.out))
  clear H60 H61 H62 H63 H64 H66 H67 H68
  clear ht
  have ks0 : ∀ z0 : Array Value, Whole (u8.alloc (.cells z0 23)) u8.heap.size 23 z0 := fun _ => (Whole.here _ _ _)
  go_upto_region 10 with (with_reducible refine wpList_store_tag rfl _ _ rfl (g := u8.heap.size) rfl rfl (ks0 _) rfl (tag_size hlJ) (tag_one _) ?_)
  clear ks0
  rw [ztr_lit]
  obtain ⟨q9, hq⟩ : ∃ q, q = ((u8.alloc (.cells ztr 23)).setRow u8.heap.size (J.map byt).toArray) := ⟨_, rfl⟩
  rw [← hq]
  have hsq9 : u8.heap.size + 1 ≤ q9.heap.size := by rw [hq]; simp
  have H77 : Hid (Below w.heap.size w q9) := Lib.hid (by rw [hq]; exact (below_setRow (Below.trans H69.out (Below.mono (Below.alloc (Below.refl _ _) (Nat.le_refl _) _) (Below.size H69.out))) (by omega) _))
  have H78 : Hid (Bytes q9 (Off [u8.heap.size, u6.heap.size, u4.heap.size, u1.heap.size, w.heap.size]) (.slice A1 X.length c1) X) := Lib.hid (by rw [hq]; exact (Bytes.store (Bytes.below (Bytes.grow H70.out (by omega)) (Below.alloc (Below.refl _ _) (Nat.le_refl _) _) (Nat.le_refl _)) (by simp) _))
  have H79 : Hid (Bytes q9 (Off [u8.heap.size, u6.heap.size, u4.heap.size, u1.heap.size, w.heap.size]) (.slice A2 Y.length c2) Y) := Lib.hid (by rw [hq]; exact (Bytes.store (Bytes.below (Bytes.grow H71.out (by omega)) (Below.alloc (Below.refl _ _) (Nat.le_refl _) _) (Nat.le_refl _)) (by simp) _))
  have H80 : Hid (Deck w.heap.size q9) := Lib.hid (by rw [hq]; exact (Deck.store (Deck.below H72.out (Below.alloc (Below.refl _ _) (Nat.le_refl _) _) (Deck.lt H72.out)) (by omega) _))
  have H81 : Hid (ALRow q9 u1.heap.size d.free d.seed d.fresh (.slice Amd d.macs.length cmd) (.slice Abd d.boxes.length cbd)) := Lib.hid (by rw [hq]; exact (Whole.setRow_far (Whole.below H73.out (Below.alloc (Below.refl _ _) (Nat.le_refl _) _) (Whole.lt H73.out)) (by omega) _))
  have H82 : Hid (TGRow q9 u4.heap.size K) := Lib.hid (by rw [hq]; exact (Whole.setRow_far (Whole.below H74.out (Below.alloc (Below.refl _ _) (Nat.le_refl _) _) (Whole.lt H74.out)) (by omega) _))
  have H83 : Hid (AlV q9 (Off [u8.heap.size, u6.heap.size, u4.heap.size, u1.heap.size, w.heap.size]) (.agg (alc d.free d.seed d.fresh (.slice Amd d.macs.length cmd) (.slice Abd d.boxes.length cbd))) d) := Lib.hid (by rw [hq]; exact (AlV.store (AlV.below (AlV.grow H75.out (by omega)) (Below.alloc (Below.refl _ _) (Nat.le_refl _) _) (Nat.le_refl _)) (by simp) _))
  have H84 : Hid (TGRow q9 u6.heap.size L) := Lib.hid (by rw [hq]; exact (Whole.setRow_far (Whole.below H76.out (Below.alloc (Below.refl _ _) (Nat.le_refl _) _) (Whole.lt H76.out)) (by omega) _))
  clear H69 H70 H71 H72 H73 H74 H75 H76
  have H85 : Hid (TGRow q9 u8.heap.size J) := Lib.hid (by rw [hq]; exact (Whole.setRow (Whole.here _ _ _) _))
  clear hq
  have hcl := dnext 2 (by omega) (by omega) w.heap.size q9 H80.out
  go_wp2_with fail
  refine hcl.mono ?_
  rintro e u10 ⟨i, hi, rfl, ht⟩
  clear hcl
  have hsu10 : q9.heap.size ≤ u10.heap.size := Turn.size ht
  have H86 : Hid (Below w.heap.size w u10) := Lib.hid ((base_turn H77.out ht (by omega)))
  have H87 : Hid (Bytes u10 (Off [u8.heap.size, u6.heap.size, u4.heap.size, u1.heap.size, w.heap.size]) (.slice A1 X.length c1) X) := Lib.hid ((Bytes.turn H78.out ht (by simp)))
  have H88 : Hid (Bytes u10 (Off [u8.heap.size, u6.heap.size, u4.heap.size, u1.heap.size, w.heap.size]) (.slice A2 Y.length c2) Y) := Lib.hid ((Bytes.turn H79.out ht (by simp)))
  have H89 : Hid (Deck w.heap.size u10) := Lib.hid ((ht).1)
  have H90 : Hid (ALRow u10 u1.heap.size d.free d.seed d.fresh (.slice Amd d.macs.length cmd) (.slice Abd d.boxes.length cbd)) := Lib.hid (((ht).2.2.oth _ _ _ (by omega) H81.out))
  have H91 : Hid (TGRow u10 u4.heap.size K) := Lib.hid (((ht).2.2.oth _ _ _ (by omega) H82.out))
  have H92 : Hid (AlV u10 (Off [u8.heap.size, u6.heap.size, u4.heap.size, u1.heap.size, w.heap.size]) (.agg (alc d.free d.seed d.fresh (.slice Amd d.macs.length cmd) (.slice Abd d.boxes.length cbd))) d) := Lib.hid ((AlV.turn H83.out ht (by simp) (Turn.size ht)))
  have H93 : Hid (TGRow u10 u6.heap.size L) := Lib.hid (((ht).2.2.oth _ _ _ (by omega) H84.out))
  have H94 : Hid (TGRow u10 u8.heap.size J) := Lib.hid (((ht).2.2.oth _ _ _ (by omega) H85.out))
  clear H77 H78 H79 H80 H81 H82 H83 H84 H85
  clear ht
  rcases (by omega : i = 0 ∨ i = 1) with rfl | rfl
  · skip
    have ks0 : Whole u10 u8.heap.size 23 (J.map byt).toArray := H94.out
    go_upto_region 12 with (first
      | (with_reducible refine wpList_load_tag rfl _ rfl rfl H91.out (tag_size hlK) ?_)
      | (with_reducible refine wpList_store_tag rfl _ _ rfl (g := u8.heap.size) rfl rfl (ks0) (tag_size hlJ) (tag_size hlK) (tag_one _) ?_))
    clear ks0
    obtain ⟨q11, hq⟩ : ∃ q, q = (u10.setRow u8.heap.size (K.map byt).toArray) := ⟨_, rfl⟩
    rw [← hq]
    have hsq11 : u10.heap.size ≤ q11.heap.size := by rw [hq]; simp
    have H95 : Hid (Below w.heap.size w q11) := Lib.hid (by rw [hq]; exact (below_setRow H86.out (by omega) _))
    have H96 : Hid (Bytes q11 (Off [u8.heap.size, u6.heap.size, u4.heap.size, u1.heap.size, w.heap.size]) (.slice A1 X.length c1) X) := Lib.hid (by rw [hq]; exact (Bytes.store H87.out (by simp) _))
    have H97 : Hid (Bytes q11 (Off [u8.heap.size, u6.heap.size, u4.heap.size, u1.heap.size, w.heap.size]) (.slice A2 Y.length c2) Y) := Lib.hid (by rw [hq]; exact (Bytes.store H88.out (by simp) _))
    have H98 : Hid (Deck w.heap.size q11) := Lib.hid (by rw [hq]; exact (Deck.store H89.out (by omega) _))
    have H99 : Hid (ALRow q11 u1.heap.size d.free d.seed d.fresh (.slice Amd d.macs.length cmd) (.slice Abd d.boxes.length cbd)) := Lib.hid (by rw [hq]; exact (Whole.setRow_far H90.out (by omega) _))
    have H100 : Hid (TGRow q11 u4.heap.size K) := Lib.hid (by rw [hq]; exact (Whole.setRow_far H91.out (by omega) _))
    have H101 : Hid (AlV q11 (Off [u8.heap.size, u6.heap.size, u4.heap.size, u1.heap.size, w.heap.size]) (.agg (alc d.free d.seed d.fresh (.slice Amd d.macs.length cmd) (.slice Abd d.boxes.length cbd))) d) := Lib.hid (by rw [hq]; exact (AlV.store H92.out (by simp) _))
    have H102 : Hid (TGRow q11 u6.heap.size L) := Lib.hid (by rw [hq]; exact (Whole.setRow_far H93.out (by omega) _))
    have H103 : Hid (TGRow q11 u8.heap.size K) := Lib.hid (by rw [hq]; exact (Whole.setRow H94.out _))
    clear H86 H87 H88 H89 H90 H91 H92 H93 H94
    clear hq
    have hcl := pmac (m := X) H101.out (by omega) hlK H96.out (by omega) (Tables.below HT.out (Nat.le_refl _) H95.out)
    obtain ⟨R, hR⟩ : ∃ R, R = aMac d K X := ⟨_, rfl⟩
    have hlT : R.2.1.length = 32 := by rw [hR]; exact AlV.mac_len H101.out _ _
    rw [← hR] at hcl
    obtain ⟨f, T, eT⟩ := R
    have HEf := Lib.hid hR
    clear hR
    dsimp only [AlgR] at hcl hlT
    go_wp2_with (first
      | (with_reducible refine wpList_load_alg rfl _ rfl rfl H99.out (alc_size _ _ _ _ _) ?_)
      | (with_reducible refine wpList_load_tag rfl _ rfl rfl H100.out (tag_size hlK) ?_))
    refine hcl.mono ?_
    rintro e u12 ⟨⟨x, rfl, hx⟩, hbu⟩
    clear hcl
    obtain ⟨Amf, cmf, Abf, cbf, rfl, hM, hBx, hA⟩ := hx
    have hsu12 : q11.heap.size ≤ u12.heap.size := hbu.size
    have hlast : ∀ y ∈ ([u8.heap.size, u6.heap.size, u4.heap.size, u1.heap.size, w.heap.size] : List Nat), y < q11.heap.size := by intro y hy; simp at hy; have := (Whole.lt H103.out); omega
    have H104 : Hid (Below w.heap.size w u12) := Lib.hid ((Below.trans H95.out (Below.mono hbu (Below.size H95.out))))
    have H105 : Hid (Bytes u12 (Off [u8.heap.size, u6.heap.size, u4.heap.size, u1.heap.size, w.heap.size]) (.slice A1 X.length c1) X) := Lib.hid ((Bytes.below H96.out hbu (Nat.le_refl _)))
    have H106 : Hid (Bytes u12 (Off [u8.heap.size, u6.heap.size, u4.heap.size, u1.heap.size, w.heap.size]) (.slice A2 Y.length c2) Y) := Lib.hid ((Bytes.below H97.out hbu (Nat.le_refl _)))
    have H107 : Hid (Deck w.heap.size u12) := Lib.hid ((Deck.below H98.out hbu (Deck.lt H98.out)))
    have H108 : Hid (ALRow u12 u1.heap.size d.free d.seed d.fresh (.slice Amd d.macs.length cmd) (.slice Abd d.boxes.length cbd)) := Lib.hid ((Whole.below H99.out hbu (Whole.lt H99.out)))
    have H109 : Hid (TGRow u12 u4.heap.size K) := Lib.hid ((Whole.below H100.out hbu (Whole.lt H100.out)))
    have H110 : Hid (AlV u12 (Off [u8.heap.size, u6.heap.size, u4.heap.size, u1.heap.size, w.heap.size]) (.agg (alc d.free d.seed d.fresh (.slice Amd d.macs.length cmd) (.slice Abd d.boxes.length cbd))) d) := Lib.hid ((AlV.below H101.out hbu (Nat.le_refl _)))
    have H111 : Hid (TGRow u12 u6.heap.size L) := Lib.hid ((Whole.below H102.out hbu (Whole.lt H102.out)))
    have H112 : Hid (TGRow u12 u8.heap.size K) := Lib.hid ((Whole.below H103.out hbu (Whole.lt H103.out)))
    clear H95 H96 H97 H98 H99 H100 H101 H102 H103
    have H113 : Hid (AlV u12 (Off [u8.heap.size, u6.heap.size, u4.heap.size, u1.heap.size, w.heap.size]) (.agg (alc f.free f.seed f.fresh (.slice Amf f.macs.length cmf) (.slice Abf f.boxes.length cbf))) f) := Lib.hid (AlV.fresh ⟨Amf, cmf, Abf, cbf, rfl, hM, hBx, hA⟩ hlast)
    clear hM hBx hA hbu hlast
    have hnf : f.macs.length ≤ d.macs.length + 1 := by have := mac_le d K X; rw [← HEf.out] at this; exact this
    have ks0 : ∀ z0 : Array Value, Whole (u12.alloc (.cells z0 23)) u1.heap.size 28 (alc d.free d.seed d.fresh (.slice Amd d.macs.length cmd) (.slice Abd d.boxes.length cbd)) := fun _ => (Whole.below H108.out (Below.alloc (Below.refl _ _) (Nat.le_refl _) _) (Whole.lt H108.out))
    have ks1 : ∀ z0 : Array Value, Whole ((u12.alloc (.cells z0 23)).setRow u1.heap.size (alc f.free f.seed f.fresh (.slice Amf f.macs.length cmf) (.slice Abf f.boxes.length cbf))) u12.heap.size 23 z0 := fun _ => (Whole.setRow_far (Whole.here _ _ _) (by omega) _)
    go_upto_region 13 with (first
      | (with_reducible refine wpList_store_alg rfl _ _ rfl (g := u1.heap.size) rfl rfl (ks0 _) (alc_size _ _ _ _ _) (alc_size _ _ _ _ _) (alc_one _ _ _ _ _ _ _ _ _) ?_)
      | (with_reducible refine wpList_store_tag rfl _ _ rfl (g := u12.heap.size) rfl rfl (ks1 _) rfl (tag_size hlT) (tag_one _) ?_))
    clear ks0 ks1
    rw [ztr_lit]
    obtain ⟨q13, hq⟩ : ∃ q, q = (((u12.alloc (.cells ztr 23)).setRow u1.heap.size (alc f.free f.seed f.fresh (.slice Amf f.macs.length cmf) (.slice Abf f.boxes.length cbf))).setRow u12.heap.size (T.map byt).toArray) := ⟨_, rfl⟩
    rw [← hq]
    have hsq13 : u12.heap.size + 1 ≤ q13.heap.size := by rw [hq]; simp
    have H114 : Hid (Below w.heap.size w q13) := Lib.hid (by rw [hq]; exact (below_setRow (below_setRow (Below.trans H104.out (Below.mono (Below.alloc (Below.refl _ _) (Nat.le_refl _) _) (Below.size H104.out))) (by omega) _) (by omega) _))
    have H115 : Hid (Bytes q13 (Off [u12.heap.size, u8.heap.size, u6.heap.size, u4.heap.size, u1.heap.size, w.heap.size]) (.slice A1 X.length c1) X) := Lib.hid (by rw [hq]; exact (Bytes.store (Bytes.store (Bytes.below (Bytes.grow H105.out (by omega)) (Below.alloc (Below.refl _ _) (Nat.le_refl _) _) (Nat.le_refl _)) (by simp) _) (by simp) _))
    have H116 : Hid (Bytes q13 (Off [u12.heap.size, u8.heap.size, u6.heap.size, u4.heap.size, u1.heap.size, w.heap.size]) (.slice A2 Y.length c2) Y) := Lib.hid (by rw [hq]; exact (Bytes.store (Bytes.store (Bytes.below (Bytes.grow H106.out (by omega)) (Below.alloc (Below.refl _ _) (Nat.le_refl _) _) (Nat.le_refl _)) (by simp) _) (by simp) _))
    have H117 : Hid (Deck w.heap.size q13) := Lib.hid (by rw [hq]; exact (Deck.store (Deck.store (Deck.below H107.out (Below.alloc (Below.refl _ _) (Nat.le_refl _) _) (Deck.lt H107.out)) (by omega) _) (by omega) _))
    have H118 : Hid (ALRow q13 u1.heap.size f.free f.seed f.fresh (.slice Amf f.macs.length cmf) (.slice Abf f.boxes.length cbf)) := Lib.hid (by rw [hq]; exact (Whole.setRow_far (Whole.setRow (Whole.below H108.out (Below.alloc (Below.refl _ _) (Nat.le_refl _) _) (Whole.lt H108.out)) _) (by omega) _))
    have H119 : Hid (TGRow q13 u4.heap.size K) := Lib.hid (by rw [hq]; exact (Whole.setRow_far (Whole.setRow_far (Whole.below H109.out (Below.alloc (Below.refl _ _) (Nat.le_refl _) _) (Whole.lt H109.out)) (by omega) _) (by omega) _))
    have H120 : Hid (AlV q13 (Off [u12.heap.size, u8.heap.size, u6.heap.size, u4.heap.size, u1.heap.size, w.heap.size]) (.agg (alc d.free d.seed d.fresh (.slice Amd d.macs.length cmd) (.slice Abd d.boxes.length cbd))) d) := Lib.hid (by rw [hq]; exact (AlV.store (AlV.store (AlV.below (AlV.grow H110.out (by omega)) (Below.alloc (Below.refl _ _) (Nat.le_refl _) _) (Nat.le_refl _)) (by simp) _) (by simp) _))
    have H121 : Hid (TGRow q13 u6.heap.size L) := Lib.hid (by rw [hq]; exact (Whole.setRow_far (Whole.setRow_far (Whole.below H111.out (Below.alloc (Below.refl _ _) (Nat.le_refl _) _) (Whole.lt H111.out)) (by omega) _) (by omega) _))
    have H122 : Hid (TGRow q13 u8.heap.size K) := Lib.hid (by rw [hq]; exact (Whole.setRow_far (Whole.setRow_far (Whole.below H112.out (Below.alloc (Below.refl _ _) (Nat.le_refl _) _) (Whole.lt H112.out)) (by omega) _) (by omega) _))
    have H123 : Hid (AlV q13 (Off [u12.heap.size, u8.heap.size, u6.heap.size, u4.heap.size, u1.heap.size, w.heap.size]) (.agg (alc f.free f.seed f.fresh (.slice Amf f.macs.length cmf) (.slice Abf f.boxes.length cbf))) f) := Lib.hid (by rw [hq]; exact (AlV.store (AlV.store (AlV.below (AlV.grow H113.out (by omega)) (Below.alloc (Below.refl _ _) (Nat.le_refl _) _) (Nat.le_refl _)) (by simp) _) (by simp) _))
    clear H104 H105 H106 H107 H108 H109 H110 H111 H112 H113
    have H124 : Hid (TGRow q13 u12.heap.size T) := Lib.hid (by rw [hq]; exact (Whole.setRow (Whole.setRow_far (Whole.here _ _ _) (by omega) _) _))
    clear hq
    clear H120
    have hcl := pmac (m := Y) H123.out (by omega) hlK H116.out (by omega) (Tables.below HT.out (Nat.le_refl _) H114.out)
    obtain ⟨R, hR⟩ : ∃ R, R = aMac f K Y := ⟨_, rfl⟩
    have hlU : R.2.1.length = 32 := by rw [hR]; exact AlV.mac_len H123.out _ _
    rw [← hR] at hcl
    obtain ⟨h, U, eU⟩ := R
    have HEh := Lib.hid hR
    clear hR
    dsimp only [AlgR] at hcl hlU
    go_wp2_with (first
      | (with_reducible refine wpList_load_alg rfl _ rfl rfl H118.out (alc_size _ _ _ _ _) ?_)
      | (with_reducible refine wpList_load_tag rfl _ rfl rfl H122.out (tag_size hlK) ?_))
    refine hcl.mono ?_
    rintro e u14 ⟨⟨x, rfl, hx⟩, hbu⟩
    clear hcl
    obtain ⟨Amh, cmh, Abh, cbh, rfl, hM, hBx, hA⟩ := hx
    have hsu14 : q13.heap.size ≤ u14.heap.size := hbu.size
    have hlast : ∀ y ∈ ([u12.heap.size, u8.heap.size, u6.heap.size, u4.heap.size, u1.heap.size, w.heap.size] : List Nat), y < q13.heap.size := by intro y hy; simp at hy; have := (Whole.lt H124.out); omega
    have H125 : Hid (Below w.heap.size w u14) := Lib.hid ((Below.trans H114.out (Below.mono hbu (Below.size H114.out))))
    have H126 : Hid (Bytes u14 (Off [u12.heap.size, u8.heap.size, u6.heap.size, u4.heap.size, u1.heap.size, w.heap.size]) (.slice A1 X.length c1) X) := Lib.hid ((Bytes.below H115.out hbu (Nat.le_refl _)))
    have H127 : Hid (Bytes u14 (Off [u12.heap.size, u8.heap.size, u6.heap.size, u4.heap.size, u1.heap.size, w.heap.size]) (.slice A2 Y.length c2) Y) := Lib.hid ((Bytes.below H116.out hbu (Nat.le_refl _)))
    have H128 : Hid (Deck w.heap.size u14) := Lib.hid ((Deck.below H117.out hbu (Deck.lt H117.out)))
    have H129 : Hid (ALRow u14 u1.heap.size f.free f.seed f.fresh (.slice Amf f.macs.length cmf) (.slice Abf f.boxes.length cbf)) := Lib.hid ((Whole.below H118.out hbu (Whole.lt H118.out)))
    have H130 : Hid (TGRow u14 u4.heap.size K) := Lib.hid ((Whole.below H119.out hbu (Whole.lt H119.out)))
    have H131 : Hid (TGRow u14 u6.heap.size L) := Lib.hid ((Whole.below H121.out hbu (Whole.lt H121.out)))
    have H132 : Hid (TGRow u14 u8.heap.size K) := Lib.hid ((Whole.below H122.out hbu (Whole.lt H122.out)))
    have H133 : Hid (AlV u14 (Off [u12.heap.size, u8.heap.size, u6.heap.size, u4.heap.size, u1.heap.size, w.heap.size]) (.agg (alc f.free f.seed f.fresh (.slice Amf f.macs.length cmf) (.slice Abf f.boxes.length cbf))) f) := Lib.hid ((AlV.below H123.out hbu (Nat.le_refl _)))
    have H134 : Hid (TGRow u14 u12.heap.size T) := Lib.hid ((Whole.below H124.out hbu (Whole.lt H124.out)))
    clear H114 H115 H116 H117 H118 H119 H121 H122 H123 H124
    have H135 : Hid (AlV u14 (Off [u12.heap.size, u8.heap.size, u6.heap.size, u4.heap.size, u1.heap.size, w.heap.size]) (.agg (alc h.free h.seed h.fresh (.slice Amh h.macs.length cmh) (.slice Abh h.boxes.length cbh))) h) := Lib.hid (AlV.fresh ⟨Amh, cmh, Abh, cbh, rfl, hM, hBx, hA⟩ hlast)
    clear hM hBx hA hbu hlast
    have hnh : h.macs.length ≤ f.macs.length + 1 := by have := mac_le f K Y; rw [← HEh.out] at this; exact this
    have ks0 : ∀ z0 : Array Value, Whole (u14.alloc (.cells z0 23)) u1.heap.size 28 (alc f.free f.seed f.fresh (.slice Amf f.macs.length cmf) (.slice Abf f.boxes.length cbf)) := fun _ => (Whole.below H129.out (Below.alloc (Below.refl _ _) (Nat.le_refl _) _) (Whole.lt H129.out))
    have ks1 : ∀ z0 : Array Value, Whole ((u14.alloc (.cells z0 23)).setRow u1.heap.size (alc h.free h.seed h.fresh (.slice Amh h.macs.length cmh) (.slice Abh h.boxes.length cbh))) u14.heap.size 23 z0 := fun _ => (Whole.setRow_far (Whole.here _ _ _) (by omega) _)
    go_upto_region 14 with (first
      | (with_reducible refine wpList_store_alg rfl _ _ rfl (g := u1.heap.size) rfl rfl (ks0 _) (alc_size _ _ _ _ _) (alc_size _ _ _ _ _) (alc_one _ _ _ _ _ _ _ _ _) ?_)
      | (with_reducible refine wpList_store_tag rfl _ _ rfl (g := u14.heap.size) rfl rfl (ks1 _) rfl (tag_size hlU) (tag_one _) ?_))
    clear ks0 ks1
    rw [ztr_lit]
    obtain ⟨q15, hq⟩ : ∃ q, q = (((u14.alloc (.cells ztr 23)).setRow u1.heap.size (alc h.free h.seed h.fresh (.slice Amh h.macs.length cmh) (.slice Abh h.boxes.length cbh))).setRow u14.heap.size (U.map byt).toArray) := ⟨_, rfl⟩
    rw [← hq]
    have hsq15 : u14.heap.size + 1 ≤ q15.heap.size := by rw [hq]; simp
    have H136 : Hid (Below w.heap.size w q15) := Lib.hid (by rw [hq]; exact (below_setRow (below_setRow (Below.trans H125.out (Below.mono (Below.alloc (Below.refl _ _) (Nat.le_refl _) _) (Below.size H125.out))) (by omega) _) (by omega) _))
    have H137 : Hid (Bytes q15 (Off [u14.heap.size, u12.heap.size, u8.heap.size, u6.heap.size, u4.heap.size, u1.heap.size, w.heap.size]) (.slice A1 X.length c1) X) := Lib.hid (by rw [hq]; exact (Bytes.store (Bytes.store (Bytes.below (Bytes.grow H126.out (by omega)) (Below.alloc (Below.refl _ _) (Nat.le_refl _) _) (Nat.le_refl _)) (by simp) _) (by simp) _))
    have H138 : Hid (Bytes q15 (Off [u14.heap.size, u12.heap.size, u8.heap.size, u6.heap.size, u4.heap.size, u1.heap.size, w.heap.size]) (.slice A2 Y.length c2) Y) := Lib.hid (by rw [hq]; exact (Bytes.store (Bytes.store (Bytes.below (Bytes.grow H127.out (by omega)) (Below.alloc (Below.refl _ _) (Nat.le_refl _) _) (Nat.le_refl _)) (by simp) _) (by simp) _))
    have H139 : Hid (Deck w.heap.size q15) := Lib.hid (by rw [hq]; exact (Deck.store (Deck.store (Deck.below H128.out (Below.alloc (Below.refl _ _) (Nat.le_refl _) _) (Deck.lt H128.out)) (by omega) _) (by omega) _))
    have H140 : Hid (ALRow q15 u1.heap.size h.free h.seed h.fresh (.slice Amh h.macs.length cmh) (.slice Abh h.boxes.length cbh)) := Lib.hid (by rw [hq]; exact (Whole.setRow_far (Whole.setRow (Whole.below H129.out (Below.alloc (Below.refl _ _) (Nat.le_refl _) _) (Whole.lt H129.out)) _) (by omega) _))
    have H141 : Hid (TGRow q15 u4.heap.size K) := Lib.hid (by rw [hq]; exact (Whole.setRow_far (Whole.setRow_far (Whole.below H130.out (Below.alloc (Below.refl _ _) (Nat.le_refl _) _) (Whole.lt H130.out)) (by omega) _) (by omega) _))
    have H142 : Hid (TGRow q15 u6.heap.size L) := Lib.hid (by rw [hq]; exact (Whole.setRow_far (Whole.setRow_far (Whole.below H131.out (Below.alloc (Below.refl _ _) (Nat.le_refl _) _) (Whole.lt H131.out)) (by omega) _) (by omega) _))
    have H143 : Hid (TGRow q15 u8.heap.size K) := Lib.hid (by rw [hq]; exact (Whole.setRow_far (Whole.setRow_far (Whole.below H132.out (Below.alloc (Below.refl _ _) (Nat.le_refl _) _) (Whole.lt H132.out)) (by omega) _) (by omega) _))
    have H144 : Hid (AlV q15 (Off [u14.heap.size, u12.heap.size, u8.heap.size, u6.heap.size, u4.heap.size, u1.heap.size, w.heap.size]) (.agg (alc f.free f.seed f.fresh (.slice Amf f.macs.length cmf) (.slice Abf f.boxes.length cbf))) f) := Lib.hid (by rw [hq]; exact (AlV.store (AlV.store (AlV.below (AlV.grow H133.out (by omega)) (Below.alloc (Below.refl _ _) (Nat.le_refl _) _) (Nat.le_refl _)) (by simp) _) (by simp) _))
    have H145 : Hid (TGRow q15 u12.heap.size T) := Lib.hid (by rw [hq]; exact (Whole.setRow_far (Whole.setRow_far (Whole.below H134.out (Below.alloc (Below.refl _ _) (Nat.le_refl _) _) (Whole.lt H134.out)) (by omega) _) (by omega) _))
    have H146 : Hid (AlV q15 (Off [u14.heap.size, u12.heap.size, u8.heap.size, u6.heap.size, u4.heap.size, u1.heap.size, w.heap.size]) (.agg (alc h.free h.seed h.fresh (.slice Amh h.macs.length cmh) (.slice Abh h.boxes.length cbh))) h) := Lib.hid (by rw [hq]; exact (AlV.store (AlV.store (AlV.below (AlV.grow H135.out (by omega)) (Below.alloc (Below.refl _ _) (Nat.le_refl _) _) (Nat.le_refl _)) (by simp) _) (by simp) _))
    clear H125 H126 H127 H128 H129 H130 H131 H132 H133 H134 H135
    have H147 : Hid (TGRow q15 u14.heap.size U) := Lib.hid (by rw [hq]; exact (Whole.setRow (Whole.setRow_far (Whole.here _ _ _) (by omega) _) _))
    clear hq
    clear H144
    have hcl := pkey H146.out (Tables.below HT.out (Nat.le_refl _) H136.out)
    obtain ⟨R, hR⟩ : ∃ R, R = aKey h := ⟨_, rfl⟩
    have hlN : R.2.1.length = 32 := by rw [hR]; exact key_len _
    rw [← hR] at hcl
    obtain ⟨i, N, eN⟩ := R
    have HEi := Lib.hid hR
    clear hR
    dsimp only [AlgR] at hcl hlN
    go_wp2_with (with_reducible refine wpList_load_alg rfl _ rfl rfl H140.out (alc_size _ _ _ _ _) ?_)
    refine hcl.mono ?_
    rintro e u16 ⟨⟨x, rfl, hx⟩, hbu⟩
    clear hcl
    obtain ⟨Ami, cmi, Abi, cbi, rfl, hM, hBx, hA⟩ := hx
    have hsu16 : q15.heap.size ≤ u16.heap.size := hbu.size
    have H148 : Hid (Below w.heap.size w u16) := Lib.hid ((Below.trans H136.out (Below.mono hbu (Below.size H136.out))))
    have H149 : Hid (Bytes u16 (Off [u14.heap.size, u12.heap.size, u8.heap.size, u6.heap.size, u4.heap.size, u1.heap.size, w.heap.size]) (.slice A1 X.length c1) X) := Lib.hid ((Bytes.below H137.out hbu (Nat.le_refl _)))
    have H150 : Hid (Bytes u16 (Off [u14.heap.size, u12.heap.size, u8.heap.size, u6.heap.size, u4.heap.size, u1.heap.size, w.heap.size]) (.slice A2 Y.length c2) Y) := Lib.hid ((Bytes.below H138.out hbu (Nat.le_refl _)))
    have H151 : Hid (Deck w.heap.size u16) := Lib.hid ((Deck.below H139.out hbu (Deck.lt H139.out)))
    have H152 : Hid (ALRow u16 u1.heap.size h.free h.seed h.fresh (.slice Amh h.macs.length cmh) (.slice Abh h.boxes.length cbh)) := Lib.hid ((Whole.below H140.out hbu (Whole.lt H140.out)))
    have H153 : Hid (TGRow u16 u4.heap.size K) := Lib.hid ((Whole.below H141.out hbu (Whole.lt H141.out)))
    have H154 : Hid (TGRow u16 u6.heap.size L) := Lib.hid ((Whole.below H142.out hbu (Whole.lt H142.out)))
    have H155 : Hid (TGRow u16 u8.heap.size K) := Lib.hid ((Whole.below H143.out hbu (Whole.lt H143.out)))
    have H156 : Hid (TGRow u16 u12.heap.size T) := Lib.hid ((Whole.below H145.out hbu (Whole.lt H145.out)))
    have H157 : Hid (AlV u16 (Off [u14.heap.size, u12.heap.size, u8.heap.size, u6.heap.size, u4.heap.size, u1.heap.size, w.heap.size]) (.agg (alc h.free h.seed h.fresh (.slice Amh h.macs.length cmh) (.slice Abh h.boxes.length cbh))) h) := Lib.hid ((AlV.below H146.out hbu (Nat.le_refl _)))
    have H158 : Hid (TGRow u16 u14.heap.size U) := Lib.hid ((Whole.below H147.out hbu (Whole.lt H147.out)))
    clear H136 H137 H138 H139 H140 H141 H142 H143 H145 H146 H147
    have H159 : Hid (AlV u16 (Off [u14.heap.size, u12.heap.size, u8.heap.size, u6.heap.size, u4.heap.size, u1.heap.size, w.heap.size]) (.agg (alc i.free i.seed i.fresh (.slice Ami i.macs.length cmi) (.slice Abi i.boxes.length cbi))) i) := Lib.hid (⟨Ami, cmi, Abi, cbi, rfl, hM, hBx, hA⟩)
    clear hM hBx hA hbu
    have hni : i.macs.length ≤ h.macs.length := by have := key_macs h; rw [← HEi.out] at this; exact this
    have ks0 : ∀ z0 z1 : Array Value, Whole ((u16.alloc (.cells z0 28)).alloc (.cells z1 23)) u16.heap.size 28 z0 := fun _ _ => (Whole.alloc (Whole.here _ _ _) _)
    have ks1 : ∀ z0 z1 : Array Value, Whole (((u16.alloc (.cells z0 28)).alloc (.cells z1 23)).setRow u16.heap.size (alc i.free i.seed i.fresh (.slice Ami i.macs.length cmi) (.slice Abi i.boxes.length cbi))) (u16.heap.size + 1) 23 z1 := fun _ _ => (Whole.setRow_far (Whole.at_ _ _ _ _ (by simp)) (by omega) _)
    go_upto_region 15 with (first
      | (with_reducible refine wpList_store_alg rfl _ _ rfl (g := u16.heap.size) rfl rfl (ks0 _ _) rfl (alc_size _ _ _ _ _) (alc_one _ _ _ _ _ _ _ _ _) ?_)
      | (with_reducible refine wpList_store_tag rfl _ _ rfl (g := (u16.heap.size + 1)) rfl rfl (ks1 _ _) rfl (tag_size hlN) (tag_one _) ?_))
    clear ks0 ks1
    rw [zar_lit]
    rw [ztr_lit]
    obtain ⟨q17, hq⟩ : ∃ q, q = ((((u16.alloc (.cells zar 28)).alloc (.cells ztr 23)).setRow u16.heap.size (alc i.free i.seed i.fresh (.slice Ami i.macs.length cmi) (.slice Abi i.boxes.length cbi))).setRow (u16.heap.size + 1) (N.map byt).toArray) := ⟨_, rfl⟩
    rw [← hq]
    have hsq17 : u16.heap.size + 2 ≤ q17.heap.size := by rw [hq]; simp
    have H160 : Hid (Below w.heap.size w q17) := Lib.hid (by rw [hq]; exact (below_setRow (below_setRow (Below.trans H148.out (Below.mono (Below.alloc (Below.alloc (Below.refl _ _) (Nat.le_refl _) _) (by simp) _) (Below.size H148.out))) (by omega) _) (by omega) _))
    have H161 : Hid (Bytes q17 (Off [(u16.heap.size + 1), u16.heap.size, u14.heap.size, u12.heap.size, u8.heap.size, u6.heap.size, u4.heap.size, u1.heap.size, w.heap.size]) (.slice A1 X.length c1) X) := Lib.hid (by rw [hq]; exact (Bytes.store (Bytes.store (Bytes.below (Bytes.grow (Bytes.grow H149.out (by omega)) (by omega)) (Below.alloc (Below.alloc (Below.refl _ _) (Nat.le_refl _) _) (by simp) _) (Nat.le_refl _)) (by simp) _) (by simp) _))
    have H162 : Hid (Bytes q17 (Off [(u16.heap.size + 1), u16.heap.size, u14.heap.size, u12.heap.size, u8.heap.size, u6.heap.size, u4.heap.size, u1.heap.size, w.heap.size]) (.slice A2 Y.length c2) Y) := Lib.hid (by rw [hq]; exact (Bytes.store (Bytes.store (Bytes.below (Bytes.grow (Bytes.grow H150.out (by omega)) (by omega)) (Below.alloc (Below.alloc (Below.refl _ _) (Nat.le_refl _) _) (by simp) _) (Nat.le_refl _)) (by simp) _) (by simp) _))
    have H163 : Hid (Deck w.heap.size q17) := Lib.hid (by rw [hq]; exact (Deck.store (Deck.store (Deck.below H151.out (Below.alloc (Below.alloc (Below.refl _ _) (Nat.le_refl _) _) (by simp) _) (Deck.lt H151.out)) (by omega) _) (by omega) _))
    have H164 : Hid (ALRow q17 u1.heap.size h.free h.seed h.fresh (.slice Amh h.macs.length cmh) (.slice Abh h.boxes.length cbh)) := Lib.hid (by rw [hq]; exact (Whole.setRow_far (Whole.setRow_far (Whole.below H152.out (Below.alloc (Below.alloc (Below.refl _ _) (Nat.le_refl _) _) (by simp) _) (Whole.lt H152.out)) (by omega) _) (by omega) _))
    have H165 : Hid (TGRow q17 u4.heap.size K) := Lib.hid (by rw [hq]; exact (Whole.setRow_far (Whole.setRow_far (Whole.below H153.out (Below.alloc (Below.alloc (Below.refl _ _) (Nat.le_refl _) _) (by simp) _) (Whole.lt H153.out)) (by omega) _) (by omega) _))
    have H166 : Hid (TGRow q17 u6.heap.size L) := Lib.hid (by rw [hq]; exact (Whole.setRow_far (Whole.setRow_far (Whole.below H154.out (Below.alloc (Below.alloc (Below.refl _ _) (Nat.le_refl _) _) (by simp) _) (Whole.lt H154.out)) (by omega) _) (by omega) _))
    have H167 : Hid (TGRow q17 u8.heap.size K) := Lib.hid (by rw [hq]; exact (Whole.setRow_far (Whole.setRow_far (Whole.below H155.out (Below.alloc (Below.alloc (Below.refl _ _) (Nat.le_refl _) _) (by simp) _) (Whole.lt H155.out)) (by omega) _) (by omega) _))
    have H168 : Hid (TGRow q17 u12.heap.size T) := Lib.hid (by rw [hq]; exact (Whole.setRow_far (Whole.setRow_far (Whole.below H156.out (Below.alloc (Below.alloc (Below.refl _ _) (Nat.le_refl _) _) (by simp) _) (Whole.lt H156.out)) (by omega) _) (by omega) _))
    have H169 : Hid (AlV q17 (Off [(u16.heap.size + 1), u16.heap.size, u14.heap.size, u12.heap.size, u8.heap.size, u6.heap.size, u4.heap.size, u1.heap.size, w.heap.size]) (.agg (alc h.free h.seed h.fresh (.slice Amh h.macs.length cmh) (.slice Abh h.boxes.length cbh))) h) := Lib.hid (by rw [hq]; exact (AlV.store (AlV.store (AlV.below (AlV.grow (AlV.grow H157.out (by omega)) (by omega)) (Below.alloc (Below.alloc (Below.refl _ _) (Nat.le_refl _) _) (by simp) _) (Nat.le_refl _)) (by simp) _) (by simp) _))
    have H170 : Hid (TGRow q17 u14.heap.size U) := Lib.hid (by rw [hq]; exact (Whole.setRow_far (Whole.setRow_far (Whole.below H158.out (Below.alloc (Below.alloc (Below.refl _ _) (Nat.le_refl _) _) (by simp) _) (Whole.lt H158.out)) (by omega) _) (by omega) _))
    have H171 : Hid (AlV q17 (Off [(u16.heap.size + 1), u16.heap.size, u14.heap.size, u12.heap.size, u8.heap.size, u6.heap.size, u4.heap.size, u1.heap.size, w.heap.size]) (.agg (alc i.free i.seed i.fresh (.slice Ami i.macs.length cmi) (.slice Abi i.boxes.length cbi))) i) := Lib.hid (by rw [hq]; exact (AlV.store (AlV.store (AlV.below (AlV.grow (AlV.grow H159.out (by omega)) (by omega)) (Below.alloc (Below.alloc (Below.refl _ _) (Nat.le_refl _) _) (by simp) _) (Nat.le_refl _)) (by simp) _) (by simp) _))
    clear H148 H149 H150 H151 H152 H153 H154 H155 H156 H157 H158 H159
    have H172 : Hid (ALRow q17 u16.heap.size i.free i.seed i.fresh (.slice Ami i.macs.length cmi) (.slice Abi i.boxes.length cbi)) := Lib.hid (by rw [hq]; exact (Whole.setRow_far (Whole.setRow (Whole.alloc (Whole.here _ _ _) _) _) (by omega) _))
    have H173 : Hid (TGRow q17 (u16.heap.size + 1) N) := Lib.hid (by rw [hq]; exact (Whole.setRow (Whole.setRow_far (Whole.at_ _ _ _ _ (by simp)) (by omega) _) _))
    clear hq
    obtain ⟨⟨rfl, rfl, rfl⟩, hq0, hq1, hq2, hq3, hq4, hq5, hq6, hq7⟩ := free_all HB.out HEc.out HEd.out HEf.out HEh.out HEi.out hqX hqY
    have HQ := Lib.hid (And.intro hq0 (And.intro hq1 (And.intro hq2 (And.intro hq3 (And.intro hq4 (And.intro hq5 (And.intro hq6 hq7)))))))
    clear hq0 hq1 hq2 hq3 hq4 hq5 hq6 hq7
    have hqe := fun W => eql_tag hlK hlK (decide_eq_true rfl) W
    have hcl := same_ _ _ X Y _ _ q17 H161.out H162.out (by omega) (by omega)
    obtain ⟨D, hD⟩ : ∃ D, decide (X = Y) = D := ⟨_, rfl⟩
    rw [hD] at hcl
    go_wp2_with (first
      | (with_reducible refine wpList_load_tag rfl _ rfl rfl H165.out (tag_size hlK) ?_)
      | (with_reducible refine wpList_load_tag rfl _ rfl rfl H167.out (tag_size hlK) ?_))
    refine hcl.mono ?_
    rintro e u18 ⟨rfl, hbu⟩
    clear hcl hqe
    have hsu18 : q17.heap.size ≤ u18.heap.size := hbu.size
    have H174 : Hid (Below w.heap.size w u18) := Lib.hid ((Below.trans H160.out (Below.mono hbu (Below.size H160.out))))
    have H175 : Hid (Bytes u18 (Off [(u16.heap.size + 1), u16.heap.size, u14.heap.size, u12.heap.size, u8.heap.size, u6.heap.size, u4.heap.size, u1.heap.size, w.heap.size]) (.slice A1 X.length c1) X) := Lib.hid ((Bytes.below H161.out hbu (Nat.le_refl _)))
    have H176 : Hid (Bytes u18 (Off [(u16.heap.size + 1), u16.heap.size, u14.heap.size, u12.heap.size, u8.heap.size, u6.heap.size, u4.heap.size, u1.heap.size, w.heap.size]) (.slice A2 Y.length c2) Y) := Lib.hid ((Bytes.below H162.out hbu (Nat.le_refl _)))
    have H177 : Hid (Deck w.heap.size u18) := Lib.hid ((Deck.below H163.out hbu (Deck.lt H163.out)))
    have H178 : Hid (ALRow u18 u1.heap.size h.free h.seed h.fresh (.slice Amh h.macs.length cmh) (.slice Abh h.boxes.length cbh)) := Lib.hid ((Whole.below H164.out hbu (Whole.lt H164.out)))
    have H179 : Hid (TGRow u18 u4.heap.size K) := Lib.hid ((Whole.below H165.out hbu (Whole.lt H165.out)))
    have H180 : Hid (TGRow u18 u6.heap.size L) := Lib.hid ((Whole.below H166.out hbu (Whole.lt H166.out)))
    have H181 : Hid (TGRow u18 u8.heap.size K) := Lib.hid ((Whole.below H167.out hbu (Whole.lt H167.out)))
    have H182 : Hid (TGRow u18 u12.heap.size T) := Lib.hid ((Whole.below H168.out hbu (Whole.lt H168.out)))
    have H183 : Hid (AlV u18 (Off [(u16.heap.size + 1), u16.heap.size, u14.heap.size, u12.heap.size, u8.heap.size, u6.heap.size, u4.heap.size, u1.heap.size, w.heap.size]) (.agg (alc h.free h.seed h.fresh (.slice Amh h.macs.length cmh) (.slice Abh h.boxes.length cbh))) h) := Lib.hid ((AlV.below H169.out hbu (Nat.le_refl _)))
    have H184 : Hid (TGRow u18 u14.heap.size U) := Lib.hid ((Whole.below H170.out hbu (Whole.lt H170.out)))
    have H185 : Hid (AlV u18 (Off [(u16.heap.size + 1), u16.heap.size, u14.heap.size, u12.heap.size, u8.heap.size, u6.heap.size, u4.heap.size, u1.heap.size, w.heap.size]) (.agg (alc i.free i.seed i.fresh (.slice Ami i.macs.length cmi) (.slice Abi i.boxes.length cbi))) i) := Lib.hid ((AlV.below H171.out hbu (Nat.le_refl _)))
    have H186 : Hid (ALRow u18 u16.heap.size i.free i.seed i.fresh (.slice Ami i.macs.length cmi) (.slice Abi i.boxes.length cbi)) := Lib.hid ((Whole.below H172.out hbu (Whole.lt H172.out)))
    have H187 : Hid (TGRow u18 (u16.heap.size + 1) N) := Lib.hid ((Whole.below H173.out hbu (Whole.lt H173.out)))
    clear H160 H161 H162 H163 H164 H165 H166 H167 H168 H169 H170 H171 H172 H173
    clear hbu
    go_upto_region 16 with fail
    have hTU : decide (T = U) = D := by rw [HQ.out.1, ← hD]; simp
    clear hD
    cases D
    · skip
      have kq1 := fun W => neq_tag hlT hlK HQ.out.2.1 W
      have kq2 := fun W => neq_tag hlT hlL HQ.out.2.2.1 W
      have kq3 := fun W => neq_tag hlU hlK HQ.out.2.2.2.1 W
      have kq4 := fun W => neq_tag hlU hlL HQ.out.2.2.2.2.1 W
      have kq5 := fun W => neq_tag hlN hlK HQ.out.2.2.2.2.2.1 W
      have kq6 := fun W => neq_tag hlN hlT HQ.out.2.2.2.2.2.2.1 W
      have kq7 := fun W => neq_tag hlN hlU HQ.out.2.2.2.2.2.2.2 W
      have kq0 := fun W => eql_tag hlT hlU hTU W
      have hcl := aawk u18 (Tables.below HT.out (Nat.le_refl _) H174.out)
      go_wp2_with (first
        | (with_reducible refine wpList_load_wanted_at (by with_unfolding_all rfl) 23 _ rfl u12.heap.size 0 rfl _ _ (TGRow.range H182.out) Tryd.underlying23 rfl (tag_sz hlT) ?_)
        | (with_reducible refine wpList_load_wanted_at (by with_unfolding_all rfl) 23 _ rfl u14.heap.size 0 rfl _ _ (TGRow.range H184.out) Tryd.underlying23 rfl (tag_sz hlU) ?_)
        | (with_reducible refine wpList_load_wanted_at (by with_unfolding_all rfl) 23 _ rfl u4.heap.size 0 rfl _ _ (TGRow.range H179.out) Tryd.underlying23 rfl (tag_sz hlK) ?_)
        | (with_reducible refine wpList_load_wanted_at (by with_unfolding_all rfl) 23 _ rfl u6.heap.size 0 rfl _ _ (TGRow.range H180.out) Tryd.underlying23 rfl (tag_sz hlL) ?_)
        | (with_reducible refine wpList_load_wanted_at (by with_unfolding_all rfl) 23 _ rfl (u16.heap.size + 1) 0 rfl _ _ (TGRow.range H187.out) Tryd.underlying23 rfl (tag_sz hlN) ?_))
      refine hcl.mono ?_
      rintro e w9 ⟨rfl, hb9⟩
      clear hcl kq0 kq1 kq2 kq3 kq4 kq5 kq6 kq7
      have HG := Lib.hid (Below.trans H174.out (Below.mono hb9 (Below.size H174.out)))
      go_wp2
      go_ret
      exact ⟨rfl, HG.out⟩
    · skip
      have kq1 := fun W => neq_tag hlT hlK HQ.out.2.1 W
      have kq2 := fun W => neq_tag hlT hlL HQ.out.2.2.1 W
      have kq3 := fun W => neq_tag hlU hlK HQ.out.2.2.2.1 W
      have kq4 := fun W => neq_tag hlU hlL HQ.out.2.2.2.2.1 W
      have kq5 := fun W => neq_tag hlN hlK HQ.out.2.2.2.2.2.1 W
      have kq6 := fun W => neq_tag hlN hlT HQ.out.2.2.2.2.2.2.1 W
      have kq7 := fun W => neq_tag hlN hlU HQ.out.2.2.2.2.2.2.2 W
      have kq0 := fun W => eql_tag hlT hlU hTU W
      have hcl := aawk u18 (Tables.below HT.out (Nat.le_refl _) H174.out)
      go_wp2_with (first
        | (with_reducible refine wpList_load_wanted_at (by with_unfolding_all rfl) 23 _ rfl u12.heap.size 0 rfl _ _ (TGRow.range H182.out) Tryd.underlying23 rfl (tag_sz hlT) ?_)
        | (with_reducible refine wpList_load_wanted_at (by with_unfolding_all rfl) 23 _ rfl u14.heap.size 0 rfl _ _ (TGRow.range H184.out) Tryd.underlying23 rfl (tag_sz hlU) ?_)
        | (with_reducible refine wpList_load_wanted_at (by with_unfolding_all rfl) 23 _ rfl u4.heap.size 0 rfl _ _ (TGRow.range H179.out) Tryd.underlying23 rfl (tag_sz hlK) ?_)
        | (with_reducible refine wpList_load_wanted_at (by with_unfolding_all rfl) 23 _ rfl u6.heap.size 0 rfl _ _ (TGRow.range H180.out) Tryd.underlying23 rfl (tag_sz hlL) ?_)
        | (with_reducible refine wpList_load_wanted_at (by with_unfolding_all rfl) 23 _ rfl (u16.heap.size + 1) 0 rfl _ _ (TGRow.range H187.out) Tryd.underlying23 rfl (tag_sz hlN) ?_))
      refine hcl.mono ?_
      rintro e w9 ⟨rfl, hb9⟩
      clear hcl kq0 kq1 kq2 kq3 kq4 kq5 kq6 kq7
      have HG := Lib.hid (Below.trans H174.out (Below.mono hb9 (Below.size H174.out)))
      go_wp2
      go_ret
      exact ⟨rfl, HG.out⟩
  · skip
    go_upto_region 12 with fail
    have hcl := pmac (m := X) H92.out (by omega) hlK H87.out (by omega) (Tables.below HT.out (Nat.le_refl _) H86.out)
    obtain ⟨R, hR⟩ : ∃ R, R = aMac d K X := ⟨_, rfl⟩
    have hlT : R.2.1.length = 32 := by rw [hR]; exact AlV.mac_len H92.out _ _
    rw [← hR] at hcl
    obtain ⟨f, T, eT⟩ := R
    have HEf := Lib.hid hR
    clear hR
    dsimp only [AlgR] at hcl hlT
    go_wp2_with (first
      | (with_reducible refine wpList_load_alg rfl _ rfl rfl H90.out (alc_size _ _ _ _ _) ?_)
      | (with_reducible refine wpList_load_tag rfl _ rfl rfl H91.out (tag_size hlK) ?_))
    refine hcl.mono ?_
    rintro e u19 ⟨⟨x, rfl, hx⟩, hbu⟩
    clear hcl
    obtain ⟨Amf, cmf, Abf, cbf, rfl, hM, hBx, hA⟩ := hx
    have hsu19 : u10.heap.size ≤ u19.heap.size := hbu.size
    have hlast : ∀ y ∈ ([u8.heap.size, u6.heap.size, u4.heap.size, u1.heap.size, w.heap.size] : List Nat), y < u10.heap.size := by intro y hy; simp at hy; have := (Whole.lt H94.out); omega
    have H188 : Hid (Below w.heap.size w u19) := Lib.hid ((Below.trans H86.out (Below.mono hbu (Below.size H86.out))))
    have H189 : Hid (Bytes u19 (Off [u8.heap.size, u6.heap.size, u4.heap.size, u1.heap.size, w.heap.size]) (.slice A1 X.length c1) X) := Lib.hid ((Bytes.below H87.out hbu (Nat.le_refl _)))
    have H190 : Hid (Bytes u19 (Off [u8.heap.size, u6.heap.size, u4.heap.size, u1.heap.size, w.heap.size]) (.slice A2 Y.length c2) Y) := Lib.hid ((Bytes.below H88.out hbu (Nat.le_refl _)))
    have H191 : Hid (Deck w.heap.size u19) := Lib.hid ((Deck.below H89.out hbu (Deck.lt H89.out)))
    have H192 : Hid (ALRow u19 u1.heap.size d.free d.seed d.fresh (.slice Amd d.macs.length cmd) (.slice Abd d.boxes.length cbd)) := Lib.hid ((Whole.below H90.out hbu (Whole.lt H90.out)))
    have H193 : Hid (TGRow u19 u4.heap.size K) := Lib.hid ((Whole.below H91.out hbu (Whole.lt H91.out)))
    have H194 : Hid (AlV u19 (Off [u8.heap.size, u6.heap.size, u4.heap.size, u1.heap.size, w.heap.size]) (.agg (alc d.free d.seed d.fresh (.slice Amd d.macs.length cmd) (.slice Abd d.boxes.length cbd))) d) := Lib.hid ((AlV.below H92.out hbu (Nat.le_refl _)))
    have H195 : Hid (TGRow u19 u6.heap.size L) := Lib.hid ((Whole.below H93.out hbu (Whole.lt H93.out)))
    have H196 : Hid (TGRow u19 u8.heap.size J) := Lib.hid ((Whole.below H94.out hbu (Whole.lt H94.out)))
    clear H86 H87 H88 H89 H90 H91 H92 H93 H94
    have H197 : Hid (AlV u19 (Off [u8.heap.size, u6.heap.size, u4.heap.size, u1.heap.size, w.heap.size]) (.agg (alc f.free f.seed f.fresh (.slice Amf f.macs.length cmf) (.slice Abf f.boxes.length cbf))) f) := Lib.hid (AlV.fresh ⟨Amf, cmf, Abf, cbf, rfl, hM, hBx, hA⟩ hlast)
    clear hM hBx hA hbu hlast
    have hnf : f.macs.length ≤ d.macs.length + 1 := by have := mac_le d K X; rw [← HEf.out] at this; exact this
    have ks0 : ∀ z0 : Array Value, Whole (u19.alloc (.cells z0 23)) u1.heap.size 28 (alc d.free d.seed d.fresh (.slice Amd d.macs.length cmd) (.slice Abd d.boxes.length cbd)) := fun _ => (Whole.below H192.out (Below.alloc (Below.refl _ _) (Nat.le_refl _) _) (Whole.lt H192.out))
    have ks1 : ∀ z0 : Array Value, Whole ((u19.alloc (.cells z0 23)).setRow u1.heap.size (alc f.free f.seed f.fresh (.slice Amf f.macs.length cmf) (.slice Abf f.boxes.length cbf))) u19.heap.size 23 z0 := fun _ => (Whole.setRow_far (Whole.here _ _ _) (by omega) _)
    go_upto_region 13 with (first
      | (with_reducible refine wpList_store_alg rfl _ _ rfl (g := u1.heap.size) rfl rfl (ks0 _) (alc_size _ _ _ _ _) (alc_size _ _ _ _ _) (alc_one _ _ _ _ _ _ _ _ _) ?_)
      | (with_reducible refine wpList_store_tag rfl _ _ rfl (g := u19.heap.size) rfl rfl (ks1 _) rfl (tag_size hlT) (tag_one _) ?_))
    clear ks0 ks1
    rw [ztr_lit]
    obtain ⟨q20, hq⟩ : ∃ q, q = (((u19.alloc (.cells ztr 23)).setRow u1.heap.size (alc f.free f.seed f.fresh (.slice Amf f.macs.length cmf) (.slice Abf f.boxes.length cbf))).setRow u19.heap.size (T.map byt).toArray) := ⟨_, rfl⟩
    rw [← hq]
    have hsq20 : u19.heap.size + 1 ≤ q20.heap.size := by rw [hq]; simp
    have H198 : Hid (Below w.heap.size w q20) := Lib.hid (by rw [hq]; exact (below_setRow (below_setRow (Below.trans H188.out (Below.mono (Below.alloc (Below.refl _ _) (Nat.le_refl _) _) (Below.size H188.out))) (by omega) _) (by omega) _))
    have H199 : Hid (Bytes q20 (Off [u19.heap.size, u8.heap.size, u6.heap.size, u4.heap.size, u1.heap.size, w.heap.size]) (.slice A1 X.length c1) X) := Lib.hid (by rw [hq]; exact (Bytes.store (Bytes.store (Bytes.below (Bytes.grow H189.out (by omega)) (Below.alloc (Below.refl _ _) (Nat.le_refl _) _) (Nat.le_refl _)) (by simp) _) (by simp) _))
    have H200 : Hid (Bytes q20 (Off [u19.heap.size, u8.heap.size, u6.heap.size, u4.heap.size, u1.heap.size, w.heap.size]) (.slice A2 Y.length c2) Y) := Lib.hid (by rw [hq]; exact (Bytes.store (Bytes.store (Bytes.below (Bytes.grow H190.out (by omega)) (Below.alloc (Below.refl _ _) (Nat.le_refl _) _) (Nat.le_refl _)) (by simp) _) (by simp) _))
    have H201 : Hid (Deck w.heap.size q20) := Lib.hid (by rw [hq]; exact (Deck.store (Deck.store (Deck.below H191.out (Below.alloc (Below.refl _ _) (Nat.le_refl _) _) (Deck.lt H191.out)) (by omega) _) (by omega) _))
    have H202 : Hid (ALRow q20 u1.heap.size f.free f.seed f.fresh (.slice Amf f.macs.length cmf) (.slice Abf f.boxes.length cbf)) := Lib.hid (by rw [hq]; exact (Whole.setRow_far (Whole.setRow (Whole.below H192.out (Below.alloc (Below.refl _ _) (Nat.le_refl _) _) (Whole.lt H192.out)) _) (by omega) _))
    have H203 : Hid (TGRow q20 u4.heap.size K) := Lib.hid (by rw [hq]; exact (Whole.setRow_far (Whole.setRow_far (Whole.below H193.out (Below.alloc (Below.refl _ _) (Nat.le_refl _) _) (Whole.lt H193.out)) (by omega) _) (by omega) _))
    have H204 : Hid (AlV q20 (Off [u19.heap.size, u8.heap.size, u6.heap.size, u4.heap.size, u1.heap.size, w.heap.size]) (.agg (alc d.free d.seed d.fresh (.slice Amd d.macs.length cmd) (.slice Abd d.boxes.length cbd))) d) := Lib.hid (by rw [hq]; exact (AlV.store (AlV.store (AlV.below (AlV.grow H194.out (by omega)) (Below.alloc (Below.refl _ _) (Nat.le_refl _) _) (Nat.le_refl _)) (by simp) _) (by simp) _))
    have H205 : Hid (TGRow q20 u6.heap.size L) := Lib.hid (by rw [hq]; exact (Whole.setRow_far (Whole.setRow_far (Whole.below H195.out (Below.alloc (Below.refl _ _) (Nat.le_refl _) _) (Whole.lt H195.out)) (by omega) _) (by omega) _))
    have H206 : Hid (TGRow q20 u8.heap.size J) := Lib.hid (by rw [hq]; exact (Whole.setRow_far (Whole.setRow_far (Whole.below H196.out (Below.alloc (Below.refl _ _) (Nat.le_refl _) _) (Whole.lt H196.out)) (by omega) _) (by omega) _))
    have H207 : Hid (AlV q20 (Off [u19.heap.size, u8.heap.size, u6.heap.size, u4.heap.size, u1.heap.size, w.heap.size]) (.agg (alc f.free f.seed f.fresh (.slice Amf f.macs.length cmf) (.slice Abf f.boxes.length cbf))) f) := Lib.hid (by rw [hq]; exact (AlV.store (AlV.store (AlV.below (AlV.grow H197.out (by omega)) (Below.alloc (Below.refl _ _) (Nat.le_refl _) _) (Nat.le_refl _)) (by simp) _) (by simp) _))
    clear H188 H189 H190 H191 H192 H193 H194 H195 H196 H197
    have H208 : Hid (TGRow q20 u19.heap.size T) := Lib.hid (by rw [hq]; exact (Whole.setRow (Whole.setRow_far (Whole.here _ _ _) (by omega) _) _))
    clear hq
    clear H204
    have hcl := pmac (m := Y) H207.out (by omega) hlJ H200.out (by omega) (Tables.below HT.out (Nat.le_refl _) H198.out)
    obtain ⟨R, hR⟩ : ∃ R, R = aMac f J Y := ⟨_, rfl⟩
    have hlU : R.2.1.length = 32 := by rw [hR]; exact AlV.mac_len H207.out _ _
    rw [← hR] at hcl
    obtain ⟨h, U, eU⟩ := R
    have HEh := Lib.hid hR
    clear hR
    dsimp only [AlgR] at hcl hlU
    go_wp2_with (first
      | (with_reducible refine wpList_load_alg rfl _ rfl rfl H202.out (alc_size _ _ _ _ _) ?_)
      | (with_reducible refine wpList_load_tag rfl _ rfl rfl H206.out (tag_size hlJ) ?_))
    refine hcl.mono ?_
    rintro e u21 ⟨⟨x, rfl, hx⟩, hbu⟩
    clear hcl
    obtain ⟨Amh, cmh, Abh, cbh, rfl, hM, hBx, hA⟩ := hx
    have hsu21 : q20.heap.size ≤ u21.heap.size := hbu.size
    have hlast : ∀ y ∈ ([u19.heap.size, u8.heap.size, u6.heap.size, u4.heap.size, u1.heap.size, w.heap.size] : List Nat), y < q20.heap.size := by intro y hy; simp at hy; have := (Whole.lt H208.out); omega
    have H209 : Hid (Below w.heap.size w u21) := Lib.hid ((Below.trans H198.out (Below.mono hbu (Below.size H198.out))))
    have H210 : Hid (Bytes u21 (Off [u19.heap.size, u8.heap.size, u6.heap.size, u4.heap.size, u1.heap.size, w.heap.size]) (.slice A1 X.length c1) X) := Lib.hid ((Bytes.below H199.out hbu (Nat.le_refl _)))
    have H211 : Hid (Bytes u21 (Off [u19.heap.size, u8.heap.size, u6.heap.size, u4.heap.size, u1.heap.size, w.heap.size]) (.slice A2 Y.length c2) Y) := Lib.hid ((Bytes.below H200.out hbu (Nat.le_refl _)))
    have H212 : Hid (Deck w.heap.size u21) := Lib.hid ((Deck.below H201.out hbu (Deck.lt H201.out)))
    have H213 : Hid (ALRow u21 u1.heap.size f.free f.seed f.fresh (.slice Amf f.macs.length cmf) (.slice Abf f.boxes.length cbf)) := Lib.hid ((Whole.below H202.out hbu (Whole.lt H202.out)))
    have H214 : Hid (TGRow u21 u4.heap.size K) := Lib.hid ((Whole.below H203.out hbu (Whole.lt H203.out)))
    have H215 : Hid (TGRow u21 u6.heap.size L) := Lib.hid ((Whole.below H205.out hbu (Whole.lt H205.out)))
    have H216 : Hid (TGRow u21 u8.heap.size J) := Lib.hid ((Whole.below H206.out hbu (Whole.lt H206.out)))
    have H217 : Hid (AlV u21 (Off [u19.heap.size, u8.heap.size, u6.heap.size, u4.heap.size, u1.heap.size, w.heap.size]) (.agg (alc f.free f.seed f.fresh (.slice Amf f.macs.length cmf) (.slice Abf f.boxes.length cbf))) f) := Lib.hid ((AlV.below H207.out hbu (Nat.le_refl _)))
    have H218 : Hid (TGRow u21 u19.heap.size T) := Lib.hid ((Whole.below H208.out hbu (Whole.lt H208.out)))
    clear H198 H199 H200 H201 H202 H203 H205 H206 H207 H208
    have H219 : Hid (AlV u21 (Off [u19.heap.size, u8.heap.size, u6.heap.size, u4.heap.size, u1.heap.size, w.heap.size]) (.agg (alc h.free h.seed h.fresh (.slice Amh h.macs.length cmh) (.slice Abh h.boxes.length cbh))) h) := Lib.hid (AlV.fresh ⟨Amh, cmh, Abh, cbh, rfl, hM, hBx, hA⟩ hlast)
    clear hM hBx hA hbu hlast
    have hnh : h.macs.length ≤ f.macs.length + 1 := by have := mac_le f J Y; rw [← HEh.out] at this; exact this
    have ks0 : ∀ z0 : Array Value, Whole (u21.alloc (.cells z0 23)) u1.heap.size 28 (alc f.free f.seed f.fresh (.slice Amf f.macs.length cmf) (.slice Abf f.boxes.length cbf)) := fun _ => (Whole.below H213.out (Below.alloc (Below.refl _ _) (Nat.le_refl _) _) (Whole.lt H213.out))
    have ks1 : ∀ z0 : Array Value, Whole ((u21.alloc (.cells z0 23)).setRow u1.heap.size (alc h.free h.seed h.fresh (.slice Amh h.macs.length cmh) (.slice Abh h.boxes.length cbh))) u21.heap.size 23 z0 := fun _ => (Whole.setRow_far (Whole.here _ _ _) (by omega) _)
    go_upto_region 14 with (first
      | (with_reducible refine wpList_store_alg rfl _ _ rfl (g := u1.heap.size) rfl rfl (ks0 _) (alc_size _ _ _ _ _) (alc_size _ _ _ _ _) (alc_one _ _ _ _ _ _ _ _ _) ?_)
      | (with_reducible refine wpList_store_tag rfl _ _ rfl (g := u21.heap.size) rfl rfl (ks1 _) rfl (tag_size hlU) (tag_one _) ?_))
    clear ks0 ks1
    rw [ztr_lit]
    obtain ⟨q22, hq⟩ : ∃ q, q = (((u21.alloc (.cells ztr 23)).setRow u1.heap.size (alc h.free h.seed h.fresh (.slice Amh h.macs.length cmh) (.slice Abh h.boxes.length cbh))).setRow u21.heap.size (U.map byt).toArray) := ⟨_, rfl⟩
    rw [← hq]
    have hsq22 : u21.heap.size + 1 ≤ q22.heap.size := by rw [hq]; simp
    have H220 : Hid (Below w.heap.size w q22) := Lib.hid (by rw [hq]; exact (below_setRow (below_setRow (Below.trans H209.out (Below.mono (Below.alloc (Below.refl _ _) (Nat.le_refl _) _) (Below.size H209.out))) (by omega) _) (by omega) _))
    have H221 : Hid (Bytes q22 (Off [u21.heap.size, u19.heap.size, u8.heap.size, u6.heap.size, u4.heap.size, u1.heap.size, w.heap.size]) (.slice A1 X.length c1) X) := Lib.hid (by rw [hq]; exact (Bytes.store (Bytes.store (Bytes.below (Bytes.grow H210.out (by omega)) (Below.alloc (Below.refl _ _) (Nat.le_refl _) _) (Nat.le_refl _)) (by simp) _) (by simp) _))
    have H222 : Hid (Bytes q22 (Off [u21.heap.size, u19.heap.size, u8.heap.size, u6.heap.size, u4.heap.size, u1.heap.size, w.heap.size]) (.slice A2 Y.length c2) Y) := Lib.hid (by rw [hq]; exact (Bytes.store (Bytes.store (Bytes.below (Bytes.grow H211.out (by omega)) (Below.alloc (Below.refl _ _) (Nat.le_refl _) _) (Nat.le_refl _)) (by simp) _) (by simp) _))
    have H223 : Hid (Deck w.heap.size q22) := Lib.hid (by rw [hq]; exact (Deck.store (Deck.store (Deck.below H212.out (Below.alloc (Below.refl _ _) (Nat.le_refl _) _) (Deck.lt H212.out)) (by omega) _) (by omega) _))
    have H224 : Hid (ALRow q22 u1.heap.size h.free h.seed h.fresh (.slice Amh h.macs.length cmh) (.slice Abh h.boxes.length cbh)) := Lib.hid (by rw [hq]; exact (Whole.setRow_far (Whole.setRow (Whole.below H213.out (Below.alloc (Below.refl _ _) (Nat.le_refl _) _) (Whole.lt H213.out)) _) (by omega) _))
    have H225 : Hid (TGRow q22 u4.heap.size K) := Lib.hid (by rw [hq]; exact (Whole.setRow_far (Whole.setRow_far (Whole.below H214.out (Below.alloc (Below.refl _ _) (Nat.le_refl _) _) (Whole.lt H214.out)) (by omega) _) (by omega) _))
    have H226 : Hid (TGRow q22 u6.heap.size L) := Lib.hid (by rw [hq]; exact (Whole.setRow_far (Whole.setRow_far (Whole.below H215.out (Below.alloc (Below.refl _ _) (Nat.le_refl _) _) (Whole.lt H215.out)) (by omega) _) (by omega) _))
    have H227 : Hid (TGRow q22 u8.heap.size J) := Lib.hid (by rw [hq]; exact (Whole.setRow_far (Whole.setRow_far (Whole.below H216.out (Below.alloc (Below.refl _ _) (Nat.le_refl _) _) (Whole.lt H216.out)) (by omega) _) (by omega) _))
    have H228 : Hid (AlV q22 (Off [u21.heap.size, u19.heap.size, u8.heap.size, u6.heap.size, u4.heap.size, u1.heap.size, w.heap.size]) (.agg (alc f.free f.seed f.fresh (.slice Amf f.macs.length cmf) (.slice Abf f.boxes.length cbf))) f) := Lib.hid (by rw [hq]; exact (AlV.store (AlV.store (AlV.below (AlV.grow H217.out (by omega)) (Below.alloc (Below.refl _ _) (Nat.le_refl _) _) (Nat.le_refl _)) (by simp) _) (by simp) _))
    have H229 : Hid (TGRow q22 u19.heap.size T) := Lib.hid (by rw [hq]; exact (Whole.setRow_far (Whole.setRow_far (Whole.below H218.out (Below.alloc (Below.refl _ _) (Nat.le_refl _) _) (Whole.lt H218.out)) (by omega) _) (by omega) _))
    have H230 : Hid (AlV q22 (Off [u21.heap.size, u19.heap.size, u8.heap.size, u6.heap.size, u4.heap.size, u1.heap.size, w.heap.size]) (.agg (alc h.free h.seed h.fresh (.slice Amh h.macs.length cmh) (.slice Abh h.boxes.length cbh))) h) := Lib.hid (by rw [hq]; exact (AlV.store (AlV.store (AlV.below (AlV.grow H219.out (by omega)) (Below.alloc (Below.refl _ _) (Nat.le_refl _) _) (Nat.le_refl _)) (by simp) _) (by simp) _))
    clear H209 H210 H211 H212 H213 H214 H215 H216 H217 H218 H219
    have H231 : Hid (TGRow q22 u21.heap.size U) := Lib.hid (by rw [hq]; exact (Whole.setRow (Whole.setRow_far (Whole.here _ _ _) (by omega) _) _))
    clear hq
    clear H228
    have hcl := pkey H230.out (Tables.below HT.out (Nat.le_refl _) H220.out)
    obtain ⟨R, hR⟩ : ∃ R, R = aKey h := ⟨_, rfl⟩
    have hlN : R.2.1.length = 32 := by rw [hR]; exact key_len _
    rw [← hR] at hcl
    obtain ⟨i, N, eN⟩ := R
    have HEi := Lib.hid hR
    clear hR
    dsimp only [AlgR] at hcl hlN
    go_wp2_with (with_reducible refine wpList_load_alg rfl _ rfl rfl H224.out (alc_size _ _ _ _ _) ?_)
    refine hcl.mono ?_
    rintro e u23 ⟨⟨x, rfl, hx⟩, hbu⟩
    clear hcl
    obtain ⟨Ami, cmi, Abi, cbi, rfl, hM, hBx, hA⟩ := hx
    have hsu23 : q22.heap.size ≤ u23.heap.size := hbu.size
    have H232 : Hid (Below w.heap.size w u23) := Lib.hid ((Below.trans H220.out (Below.mono hbu (Below.size H220.out))))
    have H233 : Hid (Bytes u23 (Off [u21.heap.size, u19.heap.size, u8.heap.size, u6.heap.size, u4.heap.size, u1.heap.size, w.heap.size]) (.slice A1 X.length c1) X) := Lib.hid ((Bytes.below H221.out hbu (Nat.le_refl _)))
    have H234 : Hid (Bytes u23 (Off [u21.heap.size, u19.heap.size, u8.heap.size, u6.heap.size, u4.heap.size, u1.heap.size, w.heap.size]) (.slice A2 Y.length c2) Y) := Lib.hid ((Bytes.below H222.out hbu (Nat.le_refl _)))
    have H235 : Hid (Deck w.heap.size u23) := Lib.hid ((Deck.below H223.out hbu (Deck.lt H223.out)))
    have H236 : Hid (ALRow u23 u1.heap.size h.free h.seed h.fresh (.slice Amh h.macs.length cmh) (.slice Abh h.boxes.length cbh)) := Lib.hid ((Whole.below H224.out hbu (Whole.lt H224.out)))
    have H237 : Hid (TGRow u23 u4.heap.size K) := Lib.hid ((Whole.below H225.out hbu (Whole.lt H225.out)))
    have H238 : Hid (TGRow u23 u6.heap.size L) := Lib.hid ((Whole.below H226.out hbu (Whole.lt H226.out)))
    have H239 : Hid (TGRow u23 u8.heap.size J) := Lib.hid ((Whole.below H227.out hbu (Whole.lt H227.out)))
    have H240 : Hid (TGRow u23 u19.heap.size T) := Lib.hid ((Whole.below H229.out hbu (Whole.lt H229.out)))
    have H241 : Hid (AlV u23 (Off [u21.heap.size, u19.heap.size, u8.heap.size, u6.heap.size, u4.heap.size, u1.heap.size, w.heap.size]) (.agg (alc h.free h.seed h.fresh (.slice Amh h.macs.length cmh) (.slice Abh h.boxes.length cbh))) h) := Lib.hid ((AlV.below H230.out hbu (Nat.le_refl _)))
    have H242 : Hid (TGRow u23 u21.heap.size U) := Lib.hid ((Whole.below H231.out hbu (Whole.lt H231.out)))
    clear H220 H221 H222 H223 H224 H225 H226 H227 H229 H230 H231
    have H243 : Hid (AlV u23 (Off [u21.heap.size, u19.heap.size, u8.heap.size, u6.heap.size, u4.heap.size, u1.heap.size, w.heap.size]) (.agg (alc i.free i.seed i.fresh (.slice Ami i.macs.length cmi) (.slice Abi i.boxes.length cbi))) i) := Lib.hid (⟨Ami, cmi, Abi, cbi, rfl, hM, hBx, hA⟩)
    clear hM hBx hA hbu
    have hni : i.macs.length ≤ h.macs.length := by have := key_macs h; rw [← HEi.out] at this; exact this
    have ks0 : ∀ z0 z1 : Array Value, Whole ((u23.alloc (.cells z0 28)).alloc (.cells z1 23)) u23.heap.size 28 z0 := fun _ _ => (Whole.alloc (Whole.here _ _ _) _)
    have ks1 : ∀ z0 z1 : Array Value, Whole (((u23.alloc (.cells z0 28)).alloc (.cells z1 23)).setRow u23.heap.size (alc i.free i.seed i.fresh (.slice Ami i.macs.length cmi) (.slice Abi i.boxes.length cbi))) (u23.heap.size + 1) 23 z1 := fun _ _ => (Whole.setRow_far (Whole.at_ _ _ _ _ (by simp)) (by omega) _)
    go_upto_region 15 with (first
      | (with_reducible refine wpList_store_alg rfl _ _ rfl (g := u23.heap.size) rfl rfl (ks0 _ _) rfl (alc_size _ _ _ _ _) (alc_one _ _ _ _ _ _ _ _ _) ?_)
      | (with_reducible refine wpList_store_tag rfl _ _ rfl (g := (u23.heap.size + 1)) rfl rfl (ks1 _ _) rfl (tag_size hlN) (tag_one _) ?_))
    clear ks0 ks1
    rw [zar_lit]
    rw [ztr_lit]
    obtain ⟨q24, hq⟩ : ∃ q, q = ((((u23.alloc (.cells zar 28)).alloc (.cells ztr 23)).setRow u23.heap.size (alc i.free i.seed i.fresh (.slice Ami i.macs.length cmi) (.slice Abi i.boxes.length cbi))).setRow (u23.heap.size + 1) (N.map byt).toArray) := ⟨_, rfl⟩
    rw [← hq]
    have hsq24 : u23.heap.size + 2 ≤ q24.heap.size := by rw [hq]; simp
    have H244 : Hid (Below w.heap.size w q24) := Lib.hid (by rw [hq]; exact (below_setRow (below_setRow (Below.trans H232.out (Below.mono (Below.alloc (Below.alloc (Below.refl _ _) (Nat.le_refl _) _) (by simp) _) (Below.size H232.out))) (by omega) _) (by omega) _))
    have H245 : Hid (Bytes q24 (Off [(u23.heap.size + 1), u23.heap.size, u21.heap.size, u19.heap.size, u8.heap.size, u6.heap.size, u4.heap.size, u1.heap.size, w.heap.size]) (.slice A1 X.length c1) X) := Lib.hid (by rw [hq]; exact (Bytes.store (Bytes.store (Bytes.below (Bytes.grow (Bytes.grow H233.out (by omega)) (by omega)) (Below.alloc (Below.alloc (Below.refl _ _) (Nat.le_refl _) _) (by simp) _) (Nat.le_refl _)) (by simp) _) (by simp) _))
    have H246 : Hid (Bytes q24 (Off [(u23.heap.size + 1), u23.heap.size, u21.heap.size, u19.heap.size, u8.heap.size, u6.heap.size, u4.heap.size, u1.heap.size, w.heap.size]) (.slice A2 Y.length c2) Y) := Lib.hid (by rw [hq]; exact (Bytes.store (Bytes.store (Bytes.below (Bytes.grow (Bytes.grow H234.out (by omega)) (by omega)) (Below.alloc (Below.alloc (Below.refl _ _) (Nat.le_refl _) _) (by simp) _) (Nat.le_refl _)) (by simp) _) (by simp) _))
    have H247 : Hid (Deck w.heap.size q24) := Lib.hid (by rw [hq]; exact (Deck.store (Deck.store (Deck.below H235.out (Below.alloc (Below.alloc (Below.refl _ _) (Nat.le_refl _) _) (by simp) _) (Deck.lt H235.out)) (by omega) _) (by omega) _))
    have H248 : Hid (ALRow q24 u1.heap.size h.free h.seed h.fresh (.slice Amh h.macs.length cmh) (.slice Abh h.boxes.length cbh)) := Lib.hid (by rw [hq]; exact (Whole.setRow_far (Whole.setRow_far (Whole.below H236.out (Below.alloc (Below.alloc (Below.refl _ _) (Nat.le_refl _) _) (by simp) _) (Whole.lt H236.out)) (by omega) _) (by omega) _))
    have H249 : Hid (TGRow q24 u4.heap.size K) := Lib.hid (by rw [hq]; exact (Whole.setRow_far (Whole.setRow_far (Whole.below H237.out (Below.alloc (Below.alloc (Below.refl _ _) (Nat.le_refl _) _) (by simp) _) (Whole.lt H237.out)) (by omega) _) (by omega) _))
    have H250 : Hid (TGRow q24 u6.heap.size L) := Lib.hid (by rw [hq]; exact (Whole.setRow_far (Whole.setRow_far (Whole.below H238.out (Below.alloc (Below.alloc (Below.refl _ _) (Nat.le_refl _) _) (by simp) _) (Whole.lt H238.out)) (by omega) _) (by omega) _))
    have H251 : Hid (TGRow q24 u8.heap.size J) := Lib.hid (by rw [hq]; exact (Whole.setRow_far (Whole.setRow_far (Whole.below H239.out (Below.alloc (Below.alloc (Below.refl _ _) (Nat.le_refl _) _) (by simp) _) (Whole.lt H239.out)) (by omega) _) (by omega) _))
    have H252 : Hid (TGRow q24 u19.heap.size T) := Lib.hid (by rw [hq]; exact (Whole.setRow_far (Whole.setRow_far (Whole.below H240.out (Below.alloc (Below.alloc (Below.refl _ _) (Nat.le_refl _) _) (by simp) _) (Whole.lt H240.out)) (by omega) _) (by omega) _))
    have H253 : Hid (AlV q24 (Off [(u23.heap.size + 1), u23.heap.size, u21.heap.size, u19.heap.size, u8.heap.size, u6.heap.size, u4.heap.size, u1.heap.size, w.heap.size]) (.agg (alc h.free h.seed h.fresh (.slice Amh h.macs.length cmh) (.slice Abh h.boxes.length cbh))) h) := Lib.hid (by rw [hq]; exact (AlV.store (AlV.store (AlV.below (AlV.grow (AlV.grow H241.out (by omega)) (by omega)) (Below.alloc (Below.alloc (Below.refl _ _) (Nat.le_refl _) _) (by simp) _) (Nat.le_refl _)) (by simp) _) (by simp) _))
    have H254 : Hid (TGRow q24 u21.heap.size U) := Lib.hid (by rw [hq]; exact (Whole.setRow_far (Whole.setRow_far (Whole.below H242.out (Below.alloc (Below.alloc (Below.refl _ _) (Nat.le_refl _) _) (by simp) _) (Whole.lt H242.out)) (by omega) _) (by omega) _))
    have H255 : Hid (AlV q24 (Off [(u23.heap.size + 1), u23.heap.size, u21.heap.size, u19.heap.size, u8.heap.size, u6.heap.size, u4.heap.size, u1.heap.size, w.heap.size]) (.agg (alc i.free i.seed i.fresh (.slice Ami i.macs.length cmi) (.slice Abi i.boxes.length cbi))) i) := Lib.hid (by rw [hq]; exact (AlV.store (AlV.store (AlV.below (AlV.grow (AlV.grow H243.out (by omega)) (by omega)) (Below.alloc (Below.alloc (Below.refl _ _) (Nat.le_refl _) _) (by simp) _) (Nat.le_refl _)) (by simp) _) (by simp) _))
    clear H232 H233 H234 H235 H236 H237 H238 H239 H240 H241 H242 H243
    have H256 : Hid (ALRow q24 u23.heap.size i.free i.seed i.fresh (.slice Ami i.macs.length cmi) (.slice Abi i.boxes.length cbi)) := Lib.hid (by rw [hq]; exact (Whole.setRow_far (Whole.setRow (Whole.alloc (Whole.here _ _ _) _) _) (by omega) _))
    have H257 : Hid (TGRow q24 (u23.heap.size + 1) N) := Lib.hid (by rw [hq]; exact (Whole.setRow (Whole.setRow_far (Whole.at_ _ _ _ _ (by simp)) (by omega) _) _))
    clear hq
    obtain ⟨⟨rfl, rfl, rfl⟩, hq0, hq1, hq2, hq3, hq4, hq5, hq6, hq7⟩ := free_all HB.out HEc.out HEd.out HEf.out HEh.out HEi.out hqX hqY
    have HQ := Lib.hid (And.intro hq0 (And.intro hq1 (And.intro hq2 (And.intro hq3 (And.intro hq4 (And.intro hq5 (And.intro hq6 hq7)))))))
    clear hq0 hq1 hq2 hq3 hq4 hq5 hq6 hq7
    by_cases hKJ : K = J
    · skip
      subst hKJ
      have hqe := fun W => eql_tag hlK hlK (decide_eq_true rfl) W
      have hcl := same_ _ _ X Y _ _ q24 H245.out H246.out (by omega) (by omega)
      obtain ⟨D, hD⟩ : ∃ D, decide (X = Y) = D := ⟨_, rfl⟩
      rw [hD] at hcl
      go_wp2_with (first
        | (with_reducible refine wpList_load_tag rfl _ rfl rfl H249.out (tag_size hlK) ?_)
        | (with_reducible refine wpList_load_tag rfl _ rfl rfl H251.out (tag_size hlK) ?_))
      refine hcl.mono ?_
      rintro e u25 ⟨rfl, hbu⟩
      clear hcl hqe
      have hsu25 : q24.heap.size ≤ u25.heap.size := hbu.size
      have H258 : Hid (Below w.heap.size w u25) := Lib.hid ((Below.trans H244.out (Below.mono hbu (Below.size H244.out))))
      have H259 : Hid (Bytes u25 (Off [(u23.heap.size + 1), u23.heap.size, u21.heap.size, u19.heap.size, u8.heap.size, u6.heap.size, u4.heap.size, u1.heap.size, w.heap.size]) (.slice A1 X.length c1) X) := Lib.hid ((Bytes.below H245.out hbu (Nat.le_refl _)))
      have H260 : Hid (Bytes u25 (Off [(u23.heap.size + 1), u23.heap.size, u21.heap.size, u19.heap.size, u8.heap.size, u6.heap.size, u4.heap.size, u1.heap.size, w.heap.size]) (.slice A2 Y.length c2) Y) := Lib.hid ((Bytes.below H246.out hbu (Nat.le_refl _)))
      have H261 : Hid (Deck w.heap.size u25) := Lib.hid ((Deck.below H247.out hbu (Deck.lt H247.out)))
      have H262 : Hid (ALRow u25 u1.heap.size h.free h.seed h.fresh (.slice Amh h.macs.length cmh) (.slice Abh h.boxes.length cbh)) := Lib.hid ((Whole.below H248.out hbu (Whole.lt H248.out)))
      have H263 : Hid (TGRow u25 u4.heap.size K) := Lib.hid ((Whole.below H249.out hbu (Whole.lt H249.out)))
      have H264 : Hid (TGRow u25 u6.heap.size L) := Lib.hid ((Whole.below H250.out hbu (Whole.lt H250.out)))
      have H265 : Hid (TGRow u25 u8.heap.size K) := Lib.hid ((Whole.below H251.out hbu (Whole.lt H251.out)))
      have H266 : Hid (TGRow u25 u19.heap.size T) := Lib.hid ((Whole.below H252.out hbu (Whole.lt H252.out)))
      have H267 : Hid (AlV u25 (Off [(u23.heap.size + 1), u23.heap.size, u21.heap.size, u19.heap.size, u8.heap.size, u6.heap.size, u4.heap.size, u1.heap.size, w.heap.size]) (.agg (alc h.free h.seed h.fresh (.slice Amh h.macs.length cmh) (.slice Abh h.boxes.length cbh))) h) := Lib.hid ((AlV.below H253.out hbu (Nat.le_refl _)))
      have H268 : Hid (TGRow u25 u21.heap.size U) := Lib.hid ((Whole.below H254.out hbu (Whole.lt H254.out)))
      have H269 : Hid (AlV u25 (Off [(u23.heap.size + 1), u23.heap.size, u21.heap.size, u19.heap.size, u8.heap.size, u6.heap.size, u4.heap.size, u1.heap.size, w.heap.size]) (.agg (alc i.free i.seed i.fresh (.slice Ami i.macs.length cmi) (.slice Abi i.boxes.length cbi))) i) := Lib.hid ((AlV.below H255.out hbu (Nat.le_refl _)))
      have H270 : Hid (ALRow u25 u23.heap.size i.free i.seed i.fresh (.slice Ami i.macs.length cmi) (.slice Abi i.boxes.length cbi)) := Lib.hid ((Whole.below H256.out hbu (Whole.lt H256.out)))
      have H271 : Hid (TGRow u25 (u23.heap.size + 1) N) := Lib.hid ((Whole.below H257.out hbu (Whole.lt H257.out)))
      clear H244 H245 H246 H247 H248 H249 H250 H251 H252 H253 H254 H255 H256 H257
      clear hbu
      go_upto_region 16 with fail
      have hTU : decide (T = U) = D := by rw [HQ.out.1, ← hD]; simp
      clear hD
      cases D
      · skip
        have kq1 := fun W => neq_tag hlT hlK HQ.out.2.1 W
        have kq2 := fun W => neq_tag hlT hlL HQ.out.2.2.1 W
        have kq3 := fun W => neq_tag hlU hlK HQ.out.2.2.2.1 W
        have kq4 := fun W => neq_tag hlU hlL HQ.out.2.2.2.2.1 W
        have kq5 := fun W => neq_tag hlN hlK HQ.out.2.2.2.2.2.1 W
        have kq6 := fun W => neq_tag hlN hlT HQ.out.2.2.2.2.2.2.1 W
        have kq7 := fun W => neq_tag hlN hlU HQ.out.2.2.2.2.2.2.2 W
        have kq0 := fun W => eql_tag hlT hlU hTU W
        have hcl := aawk u25 (Tables.below HT.out (Nat.le_refl _) H258.out)
        go_wp2_with (first
          | (with_reducible refine wpList_load_wanted_at (by with_unfolding_all rfl) 23 _ rfl u19.heap.size 0 rfl _ _ (TGRow.range H266.out) Tryd.underlying23 rfl (tag_sz hlT) ?_)
          | (with_reducible refine wpList_load_wanted_at (by with_unfolding_all rfl) 23 _ rfl u21.heap.size 0 rfl _ _ (TGRow.range H268.out) Tryd.underlying23 rfl (tag_sz hlU) ?_)
          | (with_reducible refine wpList_load_wanted_at (by with_unfolding_all rfl) 23 _ rfl u4.heap.size 0 rfl _ _ (TGRow.range H263.out) Tryd.underlying23 rfl (tag_sz hlK) ?_)
          | (with_reducible refine wpList_load_wanted_at (by with_unfolding_all rfl) 23 _ rfl u6.heap.size 0 rfl _ _ (TGRow.range H264.out) Tryd.underlying23 rfl (tag_sz hlL) ?_)
          | (with_reducible refine wpList_load_wanted_at (by with_unfolding_all rfl) 23 _ rfl (u23.heap.size + 1) 0 rfl _ _ (TGRow.range H271.out) Tryd.underlying23 rfl (tag_sz hlN) ?_))
        refine hcl.mono ?_
        rintro e w9 ⟨rfl, hb9⟩
        clear hcl kq0 kq1 kq2 kq3 kq4 kq5 kq6 kq7
        have HG := Lib.hid (Below.trans H258.out (Below.mono hb9 (Below.size H258.out)))
        go_wp2
        go_ret
        exact ⟨rfl, HG.out⟩
      · skip
        have kq1 := fun W => neq_tag hlT hlK HQ.out.2.1 W
        have kq2 := fun W => neq_tag hlT hlL HQ.out.2.2.1 W
        have kq3 := fun W => neq_tag hlU hlK HQ.out.2.2.2.1 W
        have kq4 := fun W => neq_tag hlU hlL HQ.out.2.2.2.2.1 W
        have kq5 := fun W => neq_tag hlN hlK HQ.out.2.2.2.2.2.1 W
        have kq6 := fun W => neq_tag hlN hlT HQ.out.2.2.2.2.2.2.1 W
        have kq7 := fun W => neq_tag hlN hlU HQ.out.2.2.2.2.2.2.2 W
        have kq0 := fun W => eql_tag hlT hlU hTU W
        have hcl := aawk u25 (Tables.below HT.out (Nat.le_refl _) H258.out)
        go_wp2_with (first
          | (with_reducible refine wpList_load_wanted_at (by with_unfolding_all rfl) 23 _ rfl u19.heap.size 0 rfl _ _ (TGRow.range H266.out) Tryd.underlying23 rfl (tag_sz hlT) ?_)
          | (with_reducible refine wpList_load_wanted_at (by with_unfolding_all rfl) 23 _ rfl u21.heap.size 0 rfl _ _ (TGRow.range H268.out) Tryd.underlying23 rfl (tag_sz hlU) ?_)
          | (with_reducible refine wpList_load_wanted_at (by with_unfolding_all rfl) 23 _ rfl u4.heap.size 0 rfl _ _ (TGRow.range H263.out) Tryd.underlying23 rfl (tag_sz hlK) ?_)
          | (with_reducible refine wpList_load_wanted_at (by with_unfolding_all rfl) 23 _ rfl u6.heap.size 0 rfl _ _ (TGRow.range H264.out) Tryd.underlying23 rfl (tag_sz hlL) ?_)
          | (with_reducible refine wpList_load_wanted_at (by with_unfolding_all rfl) 23 _ rfl (u23.heap.size + 1) 0 rfl _ _ (TGRow.range H271.out) Tryd.underlying23 rfl (tag_sz hlN) ?_))
        refine hcl.mono ?_
        rintro e w9 ⟨rfl, hb9⟩
        clear hcl kq0 kq1 kq2 kq3 kq4 kq5 kq6 kq7
        have HG := Lib.hid (Below.trans H258.out (Below.mono hb9 (Below.size H258.out)))
        go_wp2
        go_ret
        exact ⟨rfl, HG.out⟩
    · skip
      have hqe := fun W => eql_tag hlK hlJ (decide_eq_false hKJ) W
      have hTU : decide (T = U) = false := by rw [HQ.out.1]; simp [hKJ]
      have HKJ := Lib.hid hKJ
      clear hKJ
      go_upto_region 16 with (first
        | (with_reducible refine wpList_load_tag rfl _ rfl rfl H249.out (tag_size hlK) ?_)
        | (with_reducible refine wpList_load_tag rfl _ rfl rfl H251.out (tag_size hlJ) ?_))
      clear hqe
      have kq1 := fun W => neq_tag hlT hlK HQ.out.2.1 W
      have kq2 := fun W => neq_tag hlT hlL HQ.out.2.2.1 W
      have kq3 := fun W => neq_tag hlU hlK HQ.out.2.2.2.1 W
      have kq4 := fun W => neq_tag hlU hlL HQ.out.2.2.2.2.1 W
      have kq5 := fun W => neq_tag hlN hlK HQ.out.2.2.2.2.2.1 W
      have kq6 := fun W => neq_tag hlN hlT HQ.out.2.2.2.2.2.2.1 W
      have kq7 := fun W => neq_tag hlN hlU HQ.out.2.2.2.2.2.2.2 W
      have kq0 := fun W => eql_tag hlT hlU hTU W
      have hcl := aawk q24 (Tables.below HT.out (Nat.le_refl _) H244.out)
      go_wp2_with (first
        | (with_reducible refine wpList_load_wanted_at (by with_unfolding_all rfl) 23 _ rfl u19.heap.size 0 rfl _ _ (TGRow.range H252.out) Tryd.underlying23 rfl (tag_sz hlT) ?_)
        | (with_reducible refine wpList_load_wanted_at (by with_unfolding_all rfl) 23 _ rfl u21.heap.size 0 rfl _ _ (TGRow.range H254.out) Tryd.underlying23 rfl (tag_sz hlU) ?_)
        | (with_reducible refine wpList_load_wanted_at (by with_unfolding_all rfl) 23 _ rfl u4.heap.size 0 rfl _ _ (TGRow.range H249.out) Tryd.underlying23 rfl (tag_sz hlK) ?_)
        | (with_reducible refine wpList_load_wanted_at (by with_unfolding_all rfl) 23 _ rfl u6.heap.size 0 rfl _ _ (TGRow.range H250.out) Tryd.underlying23 rfl (tag_sz hlL) ?_)
        | (with_reducible refine wpList_load_wanted_at (by with_unfolding_all rfl) 23 _ rfl (u23.heap.size + 1) 0 rfl _ _ (TGRow.range H257.out) Tryd.underlying23 rfl (tag_sz hlN) ?_))
      refine hcl.mono ?_
      rintro e w9 ⟨rfl, hb9⟩
      clear hcl kq0 kq1 kq2 kq3 kq4 kq5 kq6 kq7
      have HG := Lib.hid (Below.trans H244.out (Below.mono hb9 (Below.size H244.out)))
      go_wp2
      go_ret
      exact ⟨rfl, HG.out⟩
end Go.Proofs.YteglmfimgdgchaaDoor
