/-
  The law AlgebraKey.
-/
import Derived.Deep.CutBlock
import Derived.Deep.RegionHeld3
import Derived.Deep.DeepCutAuto
import Derived.Test.YteglmfimgdgchaaDoorPk21
import Derived.Test.YteglmfimgdgchaaDoorPk20
import Derived.Test.YteglmfimgdgchaaDoorPk22
import Derived.Test.YteglmfimgdgchaaDoorPk15
import Derived.Test.YteglmfimgdgchaaDoorPk27
namespace Go.Proofs.YteglmfimgdgchaaDoor
open Go Go.RowKit Sh Leaf

set_option linter.unusedSimpArgs false in
set_option linter.unusedVariables false in
set_option maxRecDepth 100000 in
set_option maxHeartbeats 8000000 in
theorem akey_law (fr : Bool) (K0 : List B8) (kd : B8) (z : Int) (A4 : Option Addr) (l4 : List Int) (c4 : Nat) (w : World) (hT : Tables w) (hlK0 : K0.length = 32) (hi3 : i64q z) (hI4 : Ints w (fun b => b < w.heap.size) A4 c4 l4) :
    Calls Tryd.prog 3 #[.bool fr, .agg (K0.map byt).toArray, .int .u8 (bv kd), .int .i64 z, .slice A4 l4.length c4] w fun e w' => e = .returned (.bool true) ∧ Below w.heap.size w w' := by
  have HT := Lib.hid hT
  clear hT
  have H1 : Hid (Below w.heap.size w w) := Lib.hid (Below.refl _ _)
  obtain ⟨n4, hn4⟩ : ∃ n, n = l4.length := ⟨_, rfl⟩
  rw [← hn4]
  have HI4 := Lib.hid hI4
  have HN4 := Lib.hid hn4
  clear hI4 hn4
  go_enter Tryd.func3, Tryd.ntmps3
  obtain ⟨p0, hp⟩ : ∃ p, p = w.alloc (.cells (K0.map byt).toArray 23) := ⟨_, rfl⟩
  have hsp0 : w.heap.size + 1 ≤ p0.heap.size := by rw [hp]; simp
  have hbp : Below w.heap.size w p0 := by rw [hp]; exact (Below.refl _ _).alloc (Nat.le_refl _) _
  go_upto_region 1 with fail
  rw [← hp]
  have H2 : Hid (Below w.heap.size w p0) := Lib.hid ((Below.trans H1.out (Below.mono hbp (Below.size H1.out))))
  clear H1
  have H3 : Hid (TGRow p0 w.heap.size K0) := Lib.hid (by rw [hp]; exact Whole.here _ _ _)
  clear hp hbp
  have hcl := dnew A4 _ c4 l4 p0 HN4.out ((HI4.out.below H2.out).mono (Below.size H2.out))
  go_wp2_with fail
  refine hcl.mono ?_
  rintro e d0 ⟨rfl, hdk, hbu⟩
  clear hcl
  have hsd0 : p0.heap.size < d0.heap.size := hdk.lt
  have H4 : Hid (Below w.heap.size w d0) := Lib.hid ((Below.trans H2.out (Below.mono hbu (Below.size H2.out))))
  have H5 : Hid (TGRow d0 w.heap.size K0) := Lib.hid ((Whole.below H3.out hbu (Whole.lt H3.out)))
  clear H2 H3
  have H6 : Hid (Deck p0.heap.size d0) := Lib.hid (hdk)
  clear hdk hbu HI4 HN4
  have hcl := dalg p0.heap.size d0 H6.out
  go_wp2_with fail
  refine hcl.mono ?_
  rintro e u1 ⟨⟨v, a, rfl, hv, h4a, hb4a, hf4a, hgd⟩, ht⟩
  clear hcl
  have HGa := Lib.hid hgd
  obtain ⟨Ama, cma, Aba, cba, rfl, hM, hBx, hA⟩ := hv
  have hsla : a.seed.length = 32 := hA.seed
  have hfra : 0 ≤ a.fresh := hA.lo
  have hsu1 : d0.heap.size ≤ u1.heap.size := Turn.size ht
  have H7 : Hid (Below w.heap.size w u1) := Lib.hid ((base_turn H4.out ht (by omega)))
  have H8 : Hid (TGRow u1 w.heap.size K0) := Lib.hid (((ht).2.2.oth _ _ _ (by omega) H5.out))
  have H9 : Hid (Deck p0.heap.size u1) := Lib.hid ((ht).1)
  clear H4 H5 H6
  have H10 : Hid (AlV u1 (Off [p0.heap.size]) (.agg (alc a.free a.seed a.fresh (.slice Ama a.macs.length cma) (.slice Aba a.boxes.length cba))) a) := Lib.hid (AlV.mono ⟨Ama, cma, Aba, cba, rfl, hM, hBx, hA⟩ (fun _ _ h => off_one h))
  clear hM hBx hA ht hgd
  have ks0 : ∀ z0 : Array Value, Whole (u1.alloc (.cells z0 28)) u1.heap.size 28 z0 := fun _ => (Whole.here _ _ _)
  go_upto_region 2 with (with_reducible refine wpList_store_alg rfl _ _ rfl (g := u1.heap.size) rfl rfl (ks0 _) rfl (alc_size _ _ _ _ _) (alc_one _ _ _ _ _ _ _ _ _) ?_)
  clear ks0
  rw [zar_lit]
  obtain ⟨q2, hq⟩ : ∃ q, q = ((u1.alloc (.cells zar 28)).setRow u1.heap.size (alc a.free a.seed a.fresh (.slice Ama a.macs.length cma) (.slice Aba a.boxes.length cba))) := ⟨_, rfl⟩
  rw [← hq]
  have hsq2 : u1.heap.size + 1 ≤ q2.heap.size := by rw [hq]; simp
  have H11 : Hid (Below w.heap.size w q2) := Lib.hid (by rw [hq]; exact (below_setRow (Below.trans H7.out (Below.mono (Below.alloc (Below.refl _ _) (Nat.le_refl _) _) (Below.size H7.out))) (by omega) _))
  have H12 : Hid (TGRow q2 w.heap.size K0) := Lib.hid (by rw [hq]; exact (Whole.setRow_far (Whole.below H8.out (Below.alloc (Below.refl _ _) (Nat.le_refl _) _) (Whole.lt H8.out)) (by omega) _))
  have H13 : Hid (Deck p0.heap.size q2) := Lib.hid (by rw [hq]; exact (Deck.store (Deck.below H9.out (Below.alloc (Below.refl _ _) (Nat.le_refl _) _) (Deck.lt H9.out)) (by omega) _))
  have H14 : Hid (AlV q2 (Off [u1.heap.size, p0.heap.size]) (.agg (alc a.free a.seed a.fresh (.slice Ama a.macs.length cma) (.slice Aba a.boxes.length cba))) a) := Lib.hid (by rw [hq]; exact (AlV.store (AlV.below (AlV.grow H10.out (by omega)) (Below.alloc (Below.refl _ _) (Nat.le_refl _) _) (Nat.le_refl _)) (by simp) _))
  clear H7 H8 H9 H10
  have H15 : Hid (ALRow q2 u1.heap.size a.free a.seed a.fresh (.slice Ama a.macs.length cma) (.slice Aba a.boxes.length cba)) := Lib.hid (by rw [hq]; exact (Whole.setRow (Whole.here _ _ _) _))
  clear hq
  have hcl := pkey H14.out (Tables.below HT.out (Nat.le_refl _) H11.out)
  obtain ⟨R, hR⟩ : ∃ R, R = aKey a := ⟨_, rfl⟩
  have hlT : R.2.1.length = 32 := by rw [hR]; exact key_len _
  rw [← hR] at hcl
  obtain ⟨b, T, eT⟩ := R
  have HEb := Lib.hid hR
  clear hR
  dsimp only [AlgR] at hcl hlT
  go_wp2_with (with_reducible refine wpList_load_alg rfl _ rfl rfl H15.out (alc_size _ _ _ _ _) ?_)
  refine hcl.mono ?_
  rintro e u3 ⟨⟨x, rfl, hx⟩, hbu⟩
  clear hcl
  obtain ⟨Amb, cmb, Abb, cbb, rfl, hM, hBx, hA⟩ := hx
  have hsu3 : q2.heap.size ≤ u3.heap.size := hbu.size
  have H16 : Hid (Below w.heap.size w u3) := Lib.hid ((Below.trans H11.out (Below.mono hbu (Below.size H11.out))))
  have H17 : Hid (TGRow u3 w.heap.size K0) := Lib.hid ((Whole.below H12.out hbu (Whole.lt H12.out)))
  have H18 : Hid (Deck p0.heap.size u3) := Lib.hid ((Deck.below H13.out hbu (Deck.lt H13.out)))
  have H19 : Hid (AlV u3 (Off [u1.heap.size, p0.heap.size]) (.agg (alc a.free a.seed a.fresh (.slice Ama a.macs.length cma) (.slice Aba a.boxes.length cba))) a) := Lib.hid ((AlV.below H14.out hbu (Nat.le_refl _)))
  have H20 : Hid (ALRow u3 u1.heap.size a.free a.seed a.fresh (.slice Ama a.macs.length cma) (.slice Aba a.boxes.length cba)) := Lib.hid ((Whole.below H15.out hbu (Whole.lt H15.out)))
  clear H11 H12 H13 H14 H15
  have H21 : Hid (AlV u3 (Off [u1.heap.size, p0.heap.size]) (.agg (alc b.free b.seed b.fresh (.slice Amb b.macs.length cmb) (.slice Abb b.boxes.length cbb))) b) := Lib.hid (⟨Amb, cmb, Abb, cbb, rfl, hM, hBx, hA⟩)
  clear hM hBx hA hbu
  have hnb : b.macs.length ≤ a.macs.length := by have := key_macs a; rw [← HEb.out] at this; exact this
  have ks0 : ∀ z0 z1 : Array Value, Whole ((u3.alloc (.cells z0 28)).alloc (.cells z1 23)) u3.heap.size 28 z0 := fun _ _ => (Whole.alloc (Whole.here _ _ _) _)
  have ks1 : ∀ z0 z1 : Array Value, Whole (((u3.alloc (.cells z0 28)).alloc (.cells z1 23)).setRow u3.heap.size (alc b.free b.seed b.fresh (.slice Amb b.macs.length cmb) (.slice Abb b.boxes.length cbb))) (u3.heap.size + 1) 23 z1 := fun _ _ => (Whole.setRow_far (Whole.at_ _ _ _ _ (by simp)) (by omega) _)
  go_upto_region 3 with (first
    | (with_reducible refine wpList_store_alg rfl _ _ rfl (g := u3.heap.size) rfl rfl (ks0 _ _) rfl (alc_size _ _ _ _ _) (alc_one _ _ _ _ _ _ _ _ _) ?_)
    | (with_reducible refine wpList_store_tag rfl _ _ rfl (g := (u3.heap.size + 1)) rfl rfl (ks1 _ _) rfl (tag_size hlT) (tag_one _) ?_))
  clear ks0 ks1
  rw [ztr_lit]
  rw [zar_lit]
  obtain ⟨q4, hq⟩ : ∃ q, q = ((((u3.alloc (.cells zar 28)).alloc (.cells ztr 23)).setRow u3.heap.size (alc b.free b.seed b.fresh (.slice Amb b.macs.length cmb) (.slice Abb b.boxes.length cbb))).setRow (u3.heap.size + 1) (T.map byt).toArray) := ⟨_, rfl⟩
  rw [← hq]
  have hsq4 : u3.heap.size + 2 ≤ q4.heap.size := by rw [hq]; simp
  have H22 : Hid (Below w.heap.size w q4) := Lib.hid (by rw [hq]; exact (below_setRow (below_setRow (Below.trans H16.out (Below.mono (Below.alloc (Below.alloc (Below.refl _ _) (Nat.le_refl _) _) (by simp) _) (Below.size H16.out))) (by omega) _) (by omega) _))
  have H23 : Hid (TGRow q4 w.heap.size K0) := Lib.hid (by rw [hq]; exact (Whole.setRow_far (Whole.setRow_far (Whole.below H17.out (Below.alloc (Below.alloc (Below.refl _ _) (Nat.le_refl _) _) (by simp) _) (Whole.lt H17.out)) (by omega) _) (by omega) _))
  have H24 : Hid (Deck p0.heap.size q4) := Lib.hid (by rw [hq]; exact (Deck.store (Deck.store (Deck.below H18.out (Below.alloc (Below.alloc (Below.refl _ _) (Nat.le_refl _) _) (by simp) _) (Deck.lt H18.out)) (by omega) _) (by omega) _))
  have H25 : Hid (AlV q4 (Off [(u3.heap.size + 1), u3.heap.size, u1.heap.size, p0.heap.size]) (.agg (alc a.free a.seed a.fresh (.slice Ama a.macs.length cma) (.slice Aba a.boxes.length cba))) a) := Lib.hid (by rw [hq]; exact (AlV.store (AlV.store (AlV.below (AlV.grow (AlV.grow H19.out (by omega)) (by omega)) (Below.alloc (Below.alloc (Below.refl _ _) (Nat.le_refl _) _) (by simp) _) (Nat.le_refl _)) (by simp) _) (by simp) _))
  have H26 : Hid (ALRow q4 u1.heap.size a.free a.seed a.fresh (.slice Ama a.macs.length cma) (.slice Aba a.boxes.length cba)) := Lib.hid (by rw [hq]; exact (Whole.setRow_far (Whole.setRow_far (Whole.below H20.out (Below.alloc (Below.alloc (Below.refl _ _) (Nat.le_refl _) _) (by simp) _) (Whole.lt H20.out)) (by omega) _) (by omega) _))
  have H27 : Hid (AlV q4 (Off [(u3.heap.size + 1), u3.heap.size, u1.heap.size, p0.heap.size]) (.agg (alc b.free b.seed b.fresh (.slice Amb b.macs.length cmb) (.slice Abb b.boxes.length cbb))) b) := Lib.hid (by rw [hq]; exact (AlV.store (AlV.store (AlV.below (AlV.grow (AlV.grow H21.out (by omega)) (by omega)) (Below.alloc (Below.alloc (Below.refl _ _) (Nat.le_refl _) _) (by simp) _) (Nat.le_refl _)) (by simp) _) (by simp) _))
  clear H16 H17 H18 H19 H20 H21
  have H28 : Hid (ALRow q4 u3.heap.size b.free b.seed b.fresh (.slice Amb b.macs.length cmb) (.slice Abb b.boxes.length cbb)) := Lib.hid (by rw [hq]; exact (Whole.setRow_far (Whole.setRow (Whole.alloc (Whole.here _ _ _) _) _) (by omega) _))
  have H29 : Hid (TGRow q4 (u3.heap.size + 1) T) := Lib.hid (by rw [hq]; exact (Whole.setRow (Whole.setRow_far (Whole.at_ _ _ _ _ (by simp)) (by omega) _) _))
  clear hq
  have hcl := rkey H25.out
  obtain ⟨R, hR⟩ : ∃ R, R = aKey a := ⟨_, rfl⟩
  have hlU : R.2.1.length = 32 := by rw [hR]; exact key_len _
  rw [← hR] at hcl
  obtain ⟨c, U, eU⟩ := R
  have HEc := Lib.hid hR
  clear hR
  dsimp only [AlgR] at hcl hlU
  go_wp2_with (with_reducible refine wpList_load_alg rfl _ rfl rfl H26.out (alc_size _ _ _ _ _) ?_)
  refine hcl.mono ?_
  rintro e u5 ⟨⟨x, rfl, hx⟩, hbu⟩
  clear hcl
  obtain ⟨Amc, cmc, Abc, cbc, rfl, hM, hBx, hA⟩ := hx
  have hsu5 : q4.heap.size ≤ u5.heap.size := hbu.size
  have H30 : Hid (Below w.heap.size w u5) := Lib.hid ((Below.trans H22.out (Below.mono hbu (Below.size H22.out))))
  have H31 : Hid (TGRow u5 w.heap.size K0) := Lib.hid ((Whole.below H23.out hbu (Whole.lt H23.out)))
  have H32 : Hid (Deck p0.heap.size u5) := Lib.hid ((Deck.below H24.out hbu (Deck.lt H24.out)))
  have H33 : Hid (AlV u5 (Off [(u3.heap.size + 1), u3.heap.size, u1.heap.size, p0.heap.size]) (.agg (alc a.free a.seed a.fresh (.slice Ama a.macs.length cma) (.slice Aba a.boxes.length cba))) a) := Lib.hid ((AlV.below H25.out hbu (Nat.le_refl _)))
  have H34 : Hid (ALRow u5 u1.heap.size a.free a.seed a.fresh (.slice Ama a.macs.length cma) (.slice Aba a.boxes.length cba)) := Lib.hid ((Whole.below H26.out hbu (Whole.lt H26.out)))
  have H35 : Hid (AlV u5 (Off [(u3.heap.size + 1), u3.heap.size, u1.heap.size, p0.heap.size]) (.agg (alc b.free b.seed b.fresh (.slice Amb b.macs.length cmb) (.slice Abb b.boxes.length cbb))) b) := Lib.hid ((AlV.below H27.out hbu (Nat.le_refl _)))
  have H36 : Hid (ALRow u5 u3.heap.size b.free b.seed b.fresh (.slice Amb b.macs.length cmb) (.slice Abb b.boxes.length cbb)) := Lib.hid ((Whole.below H28.out hbu (Whole.lt H28.out)))
  have H37 : Hid (TGRow u5 (u3.heap.size + 1) T) := Lib.hid ((Whole.below H29.out hbu (Whole.lt H29.out)))
  clear H22 H23 H24 H25 H26 H27 H28 H29
  have H38 : Hid (AlV u5 (Off [(u3.heap.size + 1), u3.heap.size, u1.heap.size, p0.heap.size]) (.agg (alc c.free c.seed c.fresh (.slice Amc c.macs.length cmc) (.slice Abc c.boxes.length cbc))) c) := Lib.hid (⟨Amc, cmc, Abc, cbc, rfl, hM, hBx, hA⟩)
  clear hM hBx hA hbu
  have hnc : c.macs.length ≤ a.macs.length := by have := key_macs a; rw [← HEc.out] at this; exact this
  have ks0 : ∀ z0 z1 : Array Value, Whole ((u5.alloc (.cells z0 28)).alloc (.cells z1 23)) u5.heap.size 28 z0 := fun _ _ => (Whole.alloc (Whole.here _ _ _) _)
  have ks1 : ∀ z0 z1 : Array Value, Whole (((u5.alloc (.cells z0 28)).alloc (.cells z1 23)).setRow u5.heap.size (alc c.free c.seed c.fresh (.slice Amc c.macs.length cmc) (.slice Abc c.boxes.length cbc))) (u5.heap.size + 1) 23 z1 := fun _ _ => (Whole.setRow_far (Whole.at_ _ _ _ _ (by simp)) (by omega) _)
  go_upto_region 4 with (first
    | (with_reducible refine wpList_store_alg rfl _ _ rfl (g := u5.heap.size) rfl rfl (ks0 _ _) rfl (alc_size _ _ _ _ _) (alc_one _ _ _ _ _ _ _ _ _) ?_)
    | (with_reducible refine wpList_store_tag rfl _ _ rfl (g := (u5.heap.size + 1)) rfl rfl (ks1 _ _) rfl (tag_size hlU) (tag_one _) ?_))
  clear ks0 ks1
  rw [ztr_lit]
  rw [zar_lit]
  obtain ⟨q6, hq⟩ : ∃ q, q = ((((u5.alloc (.cells zar 28)).alloc (.cells ztr 23)).setRow u5.heap.size (alc c.free c.seed c.fresh (.slice Amc c.macs.length cmc) (.slice Abc c.boxes.length cbc))).setRow (u5.heap.size + 1) (U.map byt).toArray) := ⟨_, rfl⟩
  rw [← hq]
  have hsq6 : u5.heap.size + 2 ≤ q6.heap.size := by rw [hq]; simp
  have H39 : Hid (Below w.heap.size w q6) := Lib.hid (by rw [hq]; exact (below_setRow (below_setRow (Below.trans H30.out (Below.mono (Below.alloc (Below.alloc (Below.refl _ _) (Nat.le_refl _) _) (by simp) _) (Below.size H30.out))) (by omega) _) (by omega) _))
  have H40 : Hid (TGRow q6 w.heap.size K0) := Lib.hid (by rw [hq]; exact (Whole.setRow_far (Whole.setRow_far (Whole.below H31.out (Below.alloc (Below.alloc (Below.refl _ _) (Nat.le_refl _) _) (by simp) _) (Whole.lt H31.out)) (by omega) _) (by omega) _))
  have H41 : Hid (Deck p0.heap.size q6) := Lib.hid (by rw [hq]; exact (Deck.store (Deck.store (Deck.below H32.out (Below.alloc (Below.alloc (Below.refl _ _) (Nat.le_refl _) _) (by simp) _) (Deck.lt H32.out)) (by omega) _) (by omega) _))
  have H42 : Hid (AlV q6 (Off [(u5.heap.size + 1), u5.heap.size, (u3.heap.size + 1), u3.heap.size, u1.heap.size, p0.heap.size]) (.agg (alc a.free a.seed a.fresh (.slice Ama a.macs.length cma) (.slice Aba a.boxes.length cba))) a) := Lib.hid (by rw [hq]; exact (AlV.store (AlV.store (AlV.below (AlV.grow (AlV.grow H33.out (by omega)) (by omega)) (Below.alloc (Below.alloc (Below.refl _ _) (Nat.le_refl _) _) (by simp) _) (Nat.le_refl _)) (by simp) _) (by simp) _))
  have H43 : Hid (ALRow q6 u1.heap.size a.free a.seed a.fresh (.slice Ama a.macs.length cma) (.slice Aba a.boxes.length cba)) := Lib.hid (by rw [hq]; exact (Whole.setRow_far (Whole.setRow_far (Whole.below H34.out (Below.alloc (Below.alloc (Below.refl _ _) (Nat.le_refl _) _) (by simp) _) (Whole.lt H34.out)) (by omega) _) (by omega) _))
  have H44 : Hid (AlV q6 (Off [(u5.heap.size + 1), u5.heap.size, (u3.heap.size + 1), u3.heap.size, u1.heap.size, p0.heap.size]) (.agg (alc b.free b.seed b.fresh (.slice Amb b.macs.length cmb) (.slice Abb b.boxes.length cbb))) b) := Lib.hid (by rw [hq]; exact (AlV.store (AlV.store (AlV.below (AlV.grow (AlV.grow H35.out (by omega)) (by omega)) (Below.alloc (Below.alloc (Below.refl _ _) (Nat.le_refl _) _) (by simp) _) (Nat.le_refl _)) (by simp) _) (by simp) _))
  have H45 : Hid (ALRow q6 u3.heap.size b.free b.seed b.fresh (.slice Amb b.macs.length cmb) (.slice Abb b.boxes.length cbb)) := Lib.hid (by rw [hq]; exact (Whole.setRow_far (Whole.setRow_far (Whole.below H36.out (Below.alloc (Below.alloc (Below.refl _ _) (Nat.le_refl _) _) (by simp) _) (Whole.lt H36.out)) (by omega) _) (by omega) _))
  have H46 : Hid (TGRow q6 (u3.heap.size + 1) T) := Lib.hid (by rw [hq]; exact (Whole.setRow_far (Whole.setRow_far (Whole.below H37.out (Below.alloc (Below.alloc (Below.refl _ _) (Nat.le_refl _) _) (by simp) _) (Whole.lt H37.out)) (by omega) _) (by omega) _))
  have H47 : Hid (AlV q6 (Off [(u5.heap.size + 1), u5.heap.size, (u3.heap.size + 1), u3.heap.size, u1.heap.size, p0.heap.size]) (.agg (alc c.free c.seed c.fresh (.slice Amc c.macs.length cmc) (.slice Abc c.boxes.length cbc))) c) := Lib.hid (by rw [hq]; exact (AlV.store (AlV.store (AlV.below (AlV.grow (AlV.grow H38.out (by omega)) (by omega)) (Below.alloc (Below.alloc (Below.refl _ _) (Nat.le_refl _) _) (by simp) _) (Nat.le_refl _)) (by simp) _) (by simp) _))
  clear H30 H31 H32 H33 H34 H35 H36 H37 H38
  have H48 : Hid (ALRow q6 u5.heap.size c.free c.seed c.fresh (.slice Amc c.macs.length cmc) (.slice Abc c.boxes.length cbc)) := Lib.hid (by rw [hq]; exact (Whole.setRow_far (Whole.setRow (Whole.alloc (Whole.here _ _ _) _) _) (by omega) _))
  have H49 : Hid (TGRow q6 (u5.heap.size + 1) U) := Lib.hid (by rw [hq]; exact (Whole.setRow (Whole.setRow_far (Whole.at_ _ _ _ _ (by simp)) (by omega) _) _))
  clear hq
  have hEE : (b, T, eT) = (c, U, eU) := HEb.out.trans HEc.out.symm
  injection hEE with e1 hEE
  injection hEE with e2 e3
  subst e1 e2 e3
  have hq1 := fun W => eql_tag hlT hlT (decide_eq_true rfl) W
  have hq2 := fun W => eql_tag (sym_length kd z) (sym_length kd z) (decide_eq_true rfl) W
  have hq3 : (eT == eT) = true := by simp
  have hcc : ∀ W, Below q6.heap.size q6 W → (fun W : World => W.rangeAt w.heap.size 0 (K0.map byt) ∧ W.rangeAt u3.heap.size 0 (alcl b.free b.seed b.fresh (.slice Amb b.macs.length cmb) (.slice Abb b.boxes.length cbb)) ∧ W.rangeAt u5.heap.size 0 (alcl b.free b.seed b.fresh (.slice Amc b.macs.length cmc) (.slice Abc b.boxes.length cbc)) ∧ W.rangeAt (u3.heap.size + 1) 0 (T.map byt) ∧ W.rangeAt (u5.heap.size + 1) 0 (T.map byt)) W := fun W hb => ⟨TGRow.range (Whole.below H40.out hb (Whole.lt H40.out)), Whole.range (Whole.below H45.out hb (Whole.lt H45.out)), Whole.range (Whole.below H48.out hb (Whole.lt H48.out)), TGRow.range (Whole.below H46.out hb (Whole.lt H46.out)), TGRow.range (Whole.below H49.out hb (Whole.lt H49.out))⟩
  have HCC := Lib.hid hcc
  clear hcc
  have hb0 : Below q6.heap.size q6 q6.drew := Below.drew (Below.refl _ _)
  refine wp_region_held_drew (S := fun W : World => W.rangeAt w.heap.size 0 (K0.map byt) ∧ W.rangeAt u3.heap.size 0 (alcl b.free b.seed b.fresh (.slice Amb b.macs.length cmb) (.slice Abb b.boxes.length cbb)) ∧ W.rangeAt u5.heap.size 0 (alcl b.free b.seed b.fresh (.slice Amc b.macs.length cmc) (.slice Abc b.boxes.length cbc)) ∧ W.rangeAt (u3.heap.size + 1) 0 (T.map byt) ∧ W.rangeAt (u5.heap.size + 1) 0 (T.map byt)) (by kernel_rfl) (HCC.out _ hb0) (fun hHeld => ?_)
  apply wpAnyH_take (i := 0) rfl (by kernel_rfl) (by kernel_rfl) (by kernel_rfl)
  case hQ => exact fun _ _ _ h => h
  case hS => exact hHeld
  case hy => (refine Or.inl ⟨by rfl, ?_⟩; intro w hSw; (try go_split_ands); go_simp; (try with_reducible rfl))
  (try simp only [List.getElem_toArray, List.getElem_cons_zero, Act.put, List.setIfInBounds_toArray, List.set_cons_zero, List.set_cons_succ])
  apply wpAnyH_take (i := 1) rfl (by kernel_rfl) (by kernel_rfl) (by kernel_rfl)
  case hQ => exact fun _ _ _ h => h
  case hS => exact hHeld
  case hy => exact yieldsIf_load_mid (by rfl) 23 _ rfl w.heap.size (0) rfl ((K0.map byt)) _ (fun w hS => hS.1) Tryd.underlying23 rfl (by rw [tagSize, List.length_map, hlK0])
  (try simp only [List.getElem_toArray, List.getElem_cons_succ, List.getElem_cons_zero, Act.put, List.setIfInBounds_toArray, List.set_cons_zero, List.set_cons_succ])
  apply wpAnyH_take (i := 3) rfl (by kernel_rfl) (by kernel_rfl) (by kernel_rfl)
  case hQ => exact fun _ _ _ h => h
  case hS => exact hHeld
  case hy => (refine Or.inl ⟨by rfl, ?_⟩; intro w hSw; (try go_split_ands); go_simp; (try with_reducible rfl))
  (try simp only [List.getElem_toArray, List.getElem_cons_succ, List.getElem_cons_zero, Act.put, List.setIfInBounds_toArray, List.set_cons_zero, List.set_cons_succ])
  apply wpAnyH_take (i := 4) rfl (by kernel_rfl) (by kernel_rfl) (by kernel_rfl)
  case hQ => exact fun _ _ _ h => h
  case hS => exact hHeld
  case hy => exact yieldsIf_load_mid (by rfl) 23 _ rfl w.heap.size (0) rfl ((K0.map byt)) _ (fun w hS => hS.1) Tryd.underlying23 rfl (by rw [tagSize, List.length_map, hlK0])
  (try simp only [List.getElem_toArray, List.getElem_cons_succ, List.getElem_cons_zero, Act.put, List.setIfInBounds_toArray, List.set_cons_zero, List.set_cons_succ])
  refine wpAnyH_ready (rs := [2]) (by kernel_rfl) (by simp) ?_
  refine AllReadyH.cons rfl (fun KK hKK => ?_) AllReadyH.nil
  (try simp only [List.getElem_toArray, List.getElem_cons_succ, List.getElem_cons_zero])
  go_simp
  go_at_call 18
  refine (anew fr hlK0 _ (Off [])).mono ?_
  rintro e w1 ⟨⟨v1, rfl, hv1⟩, b1⟩
  have b1t := Below.trans hb0 (Below.mono b1 (Below.size hb0))
  clear b1
  refine hKK.out _ _ (HCC.out _ b1t) (fun hHeld => ?_)
  clear hKK KK
  (try simp only [List.getElem_toArray, List.getElem_cons_succ, List.getElem_cons_zero, Act.put, List.setIfInBounds_toArray, List.set_cons_zero, List.set_cons_succ])
  refine wpAnyH_ready (rs := [5]) (by kernel_rfl) (by simp) ?_
  refine AllReadyH.cons rfl (fun KK hKK => ?_) AllReadyH.nil
  (try simp only [List.getElem_toArray, List.getElem_cons_succ, List.getElem_cons_zero])
  go_simp
  go_at_call 19
  refine (rnew fr hlK0 _ (Off [])).mono ?_
  rintro e w2 ⟨⟨v2, rfl, hv2⟩, b2⟩
  have b2t := Below.trans b1t (Below.mono b2 (Below.size b1t))
  have hv1 := hv1.below b2 (Nat.le_refl _)
  clear b2
  refine hKK.out _ _ (HCC.out _ b2t) (fun hHeld => ?_)
  clear hKK KK
  (try simp only [List.getElem_toArray, List.getElem_cons_succ, List.getElem_cons_zero, Act.put, List.setIfInBounds_toArray, List.set_cons_zero, List.set_cons_succ])
  refine wpAnyH_ready (rs := [6]) (by kernel_rfl) (by simp) ?_
  refine AllReadyH.cons rfl (fun KK hKK => ?_) AllReadyH.nil
  (try simp only [List.getElem_toArray, List.getElem_cons_succ, List.getElem_cons_zero])
  go_simp
  go_at_call 17
  refine (rsamea hv1 hv2).mono ?_
  rintro e w3 ⟨rfl, b3⟩
  have b3t := Below.trans b2t (Below.mono b3 (Below.size b2t))
  clear hv1 hv2
  clear b3
  refine hKK.out _ _ (HCC.out _ b3t) (fun hHeld => ?_)
  clear hKK KK
  (try simp only [List.getElem_toArray, List.getElem_cons_succ, List.getElem_cons_zero, Act.put, List.setIfInBounds_toArray, List.set_cons_zero, List.set_cons_succ])
  apply wpAnyH_take (i := 7) rfl (by kernel_rfl) (by kernel_rfl) (by kernel_rfl)
  case hQ => exact fun _ _ _ h => h
  case hS => exact hHeld
  case hy => (refine Or.inl ⟨by rfl, ?_⟩; intro w hSw; (try go_split_ands); go_simp; (try with_reducible rfl))
  (try simp only [List.getElem_toArray, List.getElem_cons_succ, List.getElem_cons_zero, Act.put, List.setIfInBounds_toArray, List.set_cons_zero, List.set_cons_succ])
  apply wpAnyH_take (i := 8) rfl (by kernel_rfl) (by kernel_rfl) (by kernel_rfl)
  case hQ => exact fun _ _ _ h => h
  case hS => exact hHeld
  case hy => (refine Or.inl ⟨by rfl, ?_⟩; intro w hSw; (try go_split_ands); go_simp; (try with_reducible rfl))
  (try simp only [List.getElem_toArray, List.getElem_cons_succ, List.getElem_cons_zero, Act.put, List.setIfInBounds_toArray, List.set_cons_zero, List.set_cons_succ])
  apply wpAnyH_take (i := 9) rfl (by kernel_rfl) (by kernel_rfl) (by kernel_rfl)
  case hQ => exact fun _ _ _ h => h
  case hS => exact hHeld
  case hy => (refine Or.inl ⟨by rfl, ?_⟩; intro w hSw; (try go_split_ands); go_simp; (try with_reducible rfl))
  (try simp only [List.getElem_toArray, List.getElem_cons_succ, List.getElem_cons_zero, Act.put, List.setIfInBounds_toArray, List.set_cons_zero, List.set_cons_succ])
  apply wpAnyH_take (i := 11) rfl (by kernel_rfl) (by kernel_rfl) (by kernel_rfl)
  case hQ => exact fun _ _ _ h => h
  case hS => exact hHeld
  case hy => (refine Or.inl ⟨by rfl, ?_⟩; intro w hSw; (try go_split_ands); go_simp; (try with_reducible rfl))
  (try simp only [List.getElem_toArray, List.getElem_cons_succ, List.getElem_cons_zero, Act.put, List.setIfInBounds_toArray, List.set_cons_zero, List.set_cons_succ])
  apply wpAnyH_take (i := 12) rfl (by kernel_rfl) (by kernel_rfl) (by kernel_rfl)
  case hQ => exact fun _ _ _ h => h
  case hS => exact hHeld
  case hy => (refine Or.inl ⟨by rfl, ?_⟩; intro w hSw; (try go_split_ands); go_simp; (try with_reducible rfl))
  (try simp only [List.getElem_toArray, List.getElem_cons_succ, List.getElem_cons_zero, Act.put, List.setIfInBounds_toArray, List.set_cons_zero, List.set_cons_succ])
  refine wpAnyH_ready (rs := [10]) (by kernel_rfl) (by simp) ?_
  refine AllReadyH.cons rfl (fun KK hKK => ?_) AllReadyH.nil
  (try simp only [List.getElem_toArray, List.getElem_cons_succ, List.getElem_cons_zero])
  go_simp
  go_at_call 20
  refine (symbol kd z _).mono ?_
  rintro e w4 ⟨rfl, b4⟩
  have b4t := Below.trans b3t (Below.mono b4 (Below.size b3t))
  clear b4
  refine hKK.out _ _ (HCC.out _ b4t) (fun hHeld => ?_)
  clear hKK KK
  (try simp only [List.getElem_toArray, List.getElem_cons_succ, List.getElem_cons_zero, Act.put, List.setIfInBounds_toArray, List.set_cons_zero, List.set_cons_succ])
  refine wpAnyH_ready (rs := [13]) (by kernel_rfl) (by simp) ?_
  refine AllReadyH.cons rfl (fun KK hKK => ?_) AllReadyH.nil
  (try simp only [List.getElem_toArray, List.getElem_cons_succ, List.getElem_cons_zero])
  go_simp
  go_at_call 21
  refine (rsymbol kd z _).mono ?_
  rintro e w5 ⟨rfl, b5⟩
  have b5t := Below.trans b4t (Below.mono b5 (Below.size b4t))
  clear b5
  refine hKK.out _ _ (HCC.out _ b5t) (fun hHeld => ?_)
  clear hKK KK
  (try simp only [List.getElem_toArray, List.getElem_cons_succ, List.getElem_cons_zero, Act.put, List.setIfInBounds_toArray, List.set_cons_zero, List.set_cons_succ])
  apply wpAnyH_take (i := 14) rfl (by kernel_rfl) (by kernel_rfl) (by kernel_rfl)
  case hQ => exact fun _ _ _ h => h
  case hS => exact hHeld
  case hy => (refine Or.inl ⟨by rfl, ?_⟩; intro w hSw; (try go_split_ands); go_simp; (try with_reducible rfl))
  (try simp only [List.getElem_toArray, List.getElem_cons_succ, List.getElem_cons_zero, Act.put, List.setIfInBounds_toArray, List.set_cons_zero, List.set_cons_succ])
  apply wpAnyH_take (i := 15) rfl (by kernel_rfl) (by kernel_rfl) (by kernel_rfl)
  case hQ => exact fun _ _ _ h => h
  case hS => exact hHeld
  case hy => (refine Or.inl ⟨by rfl, ?_⟩; intro w hSw; (try go_split_ands); go_simp; (try with_reducible rfl))
  (try simp only [List.getElem_toArray, List.getElem_cons_succ, List.getElem_cons_zero, Act.put, List.setIfInBounds_toArray, List.set_cons_zero, List.set_cons_succ])
  apply wpAnyH_take (i := 16) rfl (by kernel_rfl) (by kernel_rfl) (by kernel_rfl)
  case hQ => exact fun _ _ _ h => h
  case hS => exact hHeld
  case hy => (refine Or.inl ⟨by rfl, ?_⟩; intro w hSw; (try go_split_ands); go_simp; (try with_reducible rfl))
  (try simp only [List.getElem_toArray, List.getElem_cons_succ, List.getElem_cons_zero, Act.put, List.setIfInBounds_toArray, List.set_cons_zero, List.set_cons_succ])
  apply wpAnyH_take (i := 17) rfl (by kernel_rfl) (by kernel_rfl) (by kernel_rfl)
  case hQ => exact fun _ _ _ h => h
  case hS => exact hHeld
  case hy => exact yieldsIf_load_mid (by rfl) 28 _ rfl u3.heap.size (0) rfl ((alcl b.free b.seed b.fresh (.slice Amb b.macs.length cmb) (.slice Abb b.boxes.length cbb))) _ (fun w hS => hS.2.1) Tryd.underlying28 rfl (by rw [algSize, alcl_length])
  (try simp only [List.getElem_toArray, List.getElem_cons_succ, List.getElem_cons_zero, Act.put, List.setIfInBounds_toArray, List.set_cons_zero, List.set_cons_succ])
  apply wpAnyH_take (i := 18) rfl (by kernel_rfl) (by kernel_rfl) (by kernel_rfl)
  case hQ => exact fun _ _ _ h => h
  case hS => exact hHeld
  case hy => exact yieldsIf_load_mid (by rfl) 28 _ rfl u5.heap.size (0) rfl ((alcl b.free b.seed b.fresh (.slice Amc b.macs.length cmc) (.slice Abc b.boxes.length cbc))) _ (fun w hS => hS.2.2.1) Tryd.underlying28 rfl (by rw [algSize, alcl_length])
  (try simp only [List.getElem_toArray, List.getElem_cons_succ, List.getElem_cons_zero, Act.put, List.setIfInBounds_toArray, List.set_cons_zero, List.set_cons_succ])
  refine wpAnyH_ready (rs := [19]) (by kernel_rfl) (by simp) ?_
  refine AllReadyH.cons rfl (fun KK hKK => ?_) AllReadyH.nil
  (try simp only [List.getElem_toArray, List.getElem_cons_succ, List.getElem_cons_zero])
  go_simp
  go_at_call 17
  refine (rsamea (AlV.below H44.out b5t (Nat.le_refl _)) (AlV.below H47.out b5t (Nat.le_refl _))).mono ?_
  rintro e w6 ⟨rfl, b6⟩
  have b6t := Below.trans b5t (Below.mono b6 (Below.size b5t))
  clear b6
  refine hKK.out _ _ (HCC.out _ b6t) (fun hHeld => ?_)
  clear hKK KK
  (try simp only [List.getElem_toArray, List.getElem_cons_succ, List.getElem_cons_zero, Act.put, List.setIfInBounds_toArray, List.set_cons_zero, List.set_cons_succ])
  apply wpAnyH_take (i := 20) rfl (by kernel_rfl) (by kernel_rfl) (by kernel_rfl)
  case hQ => exact fun _ _ _ h => h
  case hS => exact hHeld
  case hy => (refine Or.inl ⟨by rfl, ?_⟩; intro w hSw; (try go_split_ands); go_simp; (try with_reducible rfl))
  (try simp only [List.getElem_toArray, List.getElem_cons_succ, List.getElem_cons_zero, Act.put, List.setIfInBounds_toArray, List.set_cons_zero, List.set_cons_succ])
  apply wpAnyH_take (i := 21) rfl (by kernel_rfl) (by kernel_rfl) (by kernel_rfl)
  case hQ => exact fun _ _ _ h => h
  case hS => exact hHeld
  case hy => (refine Or.inl ⟨by rfl, ?_⟩; intro w hSw; (try go_split_ands); go_simp; (try with_reducible rfl))
  (try simp only [List.getElem_toArray, List.getElem_cons_succ, List.getElem_cons_zero, Act.put, List.setIfInBounds_toArray, List.set_cons_zero, List.set_cons_succ])
  apply wpAnyH_take (i := 22) rfl (by kernel_rfl) (by kernel_rfl) (by kernel_rfl)
  case hQ => exact fun _ _ _ h => h
  case hS => exact hHeld
  case hy => exact yieldsIf_load_mid (by rfl) 23 _ rfl (u3.heap.size + 1) (0) rfl ((T.map byt)) _ (fun w hS => hS.2.2.2.1) Tryd.underlying23 rfl (by rw [tagSize, List.length_map, hlT])
  (try simp only [List.getElem_toArray, List.getElem_cons_succ, List.getElem_cons_zero, Act.put, List.setIfInBounds_toArray, List.set_cons_zero, List.set_cons_succ])
  apply wpAnyH_take (i := 23) rfl (by kernel_rfl) (by kernel_rfl) (by kernel_rfl)
  case hQ => exact fun _ _ _ h => h
  case hS => exact hHeld
  case hy => exact yieldsIf_load_mid (by rfl) 23 _ rfl (u5.heap.size + 1) (0) rfl ((T.map byt)) _ (fun w hS => hS.2.2.2.2) Tryd.underlying23 rfl (by rw [tagSize, List.length_map, hlT])
  (try simp only [List.getElem_toArray, List.getElem_cons_succ, List.getElem_cons_zero, Act.put, List.setIfInBounds_toArray, List.set_cons_zero, List.set_cons_succ])
  apply wpAnyH_take (i := 24) rfl (by kernel_rfl) (by kernel_rfl) (by kernel_rfl)
  case hQ => exact fun _ _ _ h => h
  case hS => exact hHeld
  case hy => (refine Or.inl ⟨by rfl, ?_⟩; intro w hSw; (try go_split_ands); go_simp; (try with_reducible rfl))
  (try simp only [List.getElem_toArray, List.getElem_cons_succ, List.getElem_cons_zero, Act.put, List.setIfInBounds_toArray, List.set_cons_zero, List.set_cons_succ])
  apply wpAnyH_take (i := 25) rfl (by kernel_rfl) (by kernel_rfl) (by kernel_rfl)
  case hQ => exact fun _ _ _ h => h
  case hS => exact hHeld
  case hy => (refine Or.inl ⟨by rfl, ?_⟩; intro w hSw; (try go_split_ands); go_simp; (try with_reducible rfl))
  (try simp only [List.getElem_toArray, List.getElem_cons_succ, List.getElem_cons_zero, Act.put, List.setIfInBounds_toArray, List.set_cons_zero, List.set_cons_succ])
  apply wpAnyH_take (i := 26) rfl (by kernel_rfl) (by kernel_rfl) (by kernel_rfl)
  case hQ => exact fun _ _ _ h => h
  case hS => exact hHeld
  case hy => (refine Or.inl ⟨by rfl, ?_⟩; intro w hSw; (try go_split_ands); go_simp; (try with_reducible rfl))
  (try simp only [List.getElem_toArray, List.getElem_cons_succ, List.getElem_cons_zero, Act.put, List.setIfInBounds_toArray, List.set_cons_zero, List.set_cons_succ])
  apply wpAnyH_take (i := 27) rfl (by kernel_rfl) (by kernel_rfl) (by kernel_rfl)
  case hQ => exact fun _ _ _ h => h
  case hS => exact hHeld
  case hy => (refine Or.inl ⟨by rfl, ?_⟩; intro w hSw; (try go_split_ands); go_simp; (try with_reducible rfl))
  (try simp only [List.getElem_toArray, List.getElem_cons_succ, List.getElem_cons_zero, Act.put, List.setIfInBounds_toArray, List.set_cons_zero, List.set_cons_succ])
  apply wpAnyH_take (i := 28) rfl (by kernel_rfl) (by kernel_rfl) (by kernel_rfl)
  case hQ => exact fun _ _ _ h => h
  case hS => exact hHeld
  case hy => (refine Or.inl ⟨by rfl, ?_⟩; intro w hSw; (try go_split_ands); go_simp; (try with_reducible rfl))
  (try simp only [List.getElem_toArray, List.getElem_cons_succ, List.getElem_cons_zero, Act.put, List.setIfInBounds_toArray, List.set_cons_zero, List.set_cons_succ])
  apply wpAnyH_take (i := 29) rfl (by kernel_rfl) (by kernel_rfl) (by kernel_rfl)
  case hQ => exact fun _ _ _ h => h
  case hS => exact hHeld
  case hy => (refine Or.inl ⟨by rfl, ?_⟩; intro w hSw; (try go_split_ands); go_simp; (try with_reducible rfl))
  (try simp only [List.getElem_toArray, List.getElem_cons_succ, List.getElem_cons_zero, Act.put, List.setIfInBounds_toArray, List.set_cons_zero, List.set_cons_succ])
  apply wpAnyH_take (i := 30) rfl (by kernel_rfl) (by kernel_rfl) (by kernel_rfl)
  case hQ => exact fun _ _ _ h => h
  case hS => exact hHeld
  case hy => (refine Or.inl ⟨by rfl, ?_⟩; intro w hSw; (try go_split_ands); go_simp; (try with_reducible rfl))
  (try simp only [List.getElem_toArray, List.getElem_cons_succ, List.getElem_cons_zero, Act.put, List.setIfInBounds_toArray, List.set_cons_zero, List.set_cons_succ])
  apply wpAnyH_take (i := 31) rfl (by kernel_rfl) (by kernel_rfl) (by kernel_rfl)
  case hQ => exact fun _ _ _ h => h
  case hS => exact hHeld
  case hy => (refine Or.inl ⟨by rfl, ?_⟩; intro w hSw; (try go_split_ands); go_simp; (try with_reducible rfl))
  (try simp only [List.getElem_toArray, List.getElem_cons_succ, List.getElem_cons_zero, Act.put, List.setIfInBounds_toArray, List.set_cons_zero, List.set_cons_succ])
  refine wpAnyH_ready (rs := [32]) (by kernel_rfl) (by simp) ?_
  refine AllReadyH.cons rfl (fun KK hKK => ?_) AllReadyH.nil
  (try simp only [List.getElem_toArray, List.getElem_cons_succ, List.getElem_cons_zero])
  go_simp
  go_at_call 22
  refine (aawk _ (Tables.below (Tables.below HT.out (Nat.le_refl _) H39.out) (Nat.le_refl _) b6t)).mono ?_
  rintro e w7 ⟨rfl, b7⟩
  have b7t := Below.trans b6t (Below.mono b7 (Below.size b6t))
  clear b7
  refine hKK.out _ _ (HCC.out _ b7t) (fun hHeld => ?_)
  clear hKK KK
  (try simp only [List.getElem_toArray, List.getElem_cons_succ, List.getElem_cons_zero, Act.put, List.setIfInBounds_toArray, List.set_cons_zero, List.set_cons_succ])
  apply wpAnyH_take (i := 33) rfl (by kernel_rfl) (by kernel_rfl) (by kernel_rfl)
  case hQ => exact fun _ _ _ h => h
  case hS => exact hHeld
  case hy => (refine Or.inl ⟨by rfl, ?_⟩; intro w hSw; (try go_split_ands); go_simp; (try with_reducible rfl))
  (try simp only [List.getElem_toArray, List.getElem_cons_succ, List.getElem_cons_zero, Act.put, List.setIfInBounds_toArray, List.set_cons_zero, List.set_cons_succ])
  apply wpAnyH_take (i := 34) rfl (by kernel_rfl) (by kernel_rfl) (by kernel_rfl)
  case hQ => exact fun _ _ _ h => h
  case hS => exact hHeld
  case hy => (refine Or.inl ⟨by rfl, ?_⟩; intro w hSw; (try go_split_ands); go_simp; (try with_reducible rfl))
  (try simp only [List.getElem_toArray, List.getElem_cons_succ, List.getElem_cons_zero, Act.put, List.setIfInBounds_toArray, List.set_cons_zero, List.set_cons_succ])
  refine wpAnyH_done (by kernel_rfl) ?_ _
  have HG := Lib.hid (Below.trans H39.out (Below.mono b7t (Below.size H39.out)))
  go_wp2
  go_ret
  exact ⟨rfl, HG.out⟩
end Go.Proofs.YteglmfimgdgchaaDoor
