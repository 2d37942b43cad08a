/-
  TkAwk
  TBckLaw
-/
import Derived.Deep.CutBlock
import Derived.Deep.DeepCutAuto
import Derived.Test.YtiikhjifjdpgdaaDoorPk41
import Derived.Test.YtiikhjifjdpgdaaDoorPk33
import Derived.Test.YtiikhjifjdpgdaaDoorPk26
import Derived.Test.YtiikhjifjdpgdaaDoorPk37
import Derived.Test.YtiikhjifjdpgdaaDoorPk28
import Derived.Deep.RegionHeld3
import Derived.Test.YtiikhjifjdpgdaaDoorPk16
namespace Go.Proofs.YtiikhjifjdpgdaaDoor
open Go Go.RowKit Sh Leaf

set_option maxRecDepth 100000 in
theorem built_con2 {T : List B8} (z : Int) (hT : T.length = 32) : Tryd.prog.built 66 [(0, .int .i64 z), (1, .agg (T.map byt).toArray)] = some (cnl z T (.slice none 0 0)).toArray := by
  unfold cnl
  rw [p32_eq hT]
  obtain ⟨a0, a1, a2, a3, a4, a5, a6, a7, a8, a9, a10, a11, a12, a13, a14, a15, a16, a17, a18, a19, a20, a21, a22, a23, a24, a25, a26, a27, a28, a29, a30, a31, rfl⟩ := ex32 T hT
  simp only [List.map_cons, List.map_nil, List.cons_append, List.nil_append]
  kernel_rfl
theorem wpList_build_con2 {w : World} {ops : Array Oper} {rest : List Oper} {o : Oper} {a : Act} {Q : Exit → Act → World → Prop} (hgd : o.guard = none) (x y : Operand) (ho : o.op = .build 66 #[(0, x), (1, y)]) {z : Int} {T : List B8} (hT : T.length = 32) (hx : a.eval x = .int .i64 z) (hy : a.eval y = .agg (T.map byt).toArray)
    (h : wpList Tryd.prog ops Q rest (a.put o.dst (.agg (cnl z T (.slice none 0 0)).toArray)) w) : wpList Tryd.prog ops Q (o :: rest) a w := by
  refine wpList_build_as hgd 66 _ ho _ ?_ h
  have e : (#[(0, x), (1, y)].map fun (i, x) => (i, a.eval x)).toList = [(0, .int .i64 z), (1, .agg (T.map byt).toArray)] := by simp [hx, hy]
  rw [e, built_con2 z hT]
theorem byt9 : Value.int .u8 9 = byt 9#8 := (byt_lit 9 (by omega)).symm
theorem byt8 : Value.int .u8 8 = byt 8#8 := (byt_lit 8 (by omega)).symm
theorem k98 : tg1 8#8 ≠ tg1 9#8 := fun e => by
  unfold tg1 at e
  injection e with e _
  exact absurd e (by decide)
set_option linter.unusedSimpArgs false in
set_option linter.unusedVariables false in
set_option maxRecDepth 100000 in
set_option maxHeartbeats 8000000 in
theorem tawk (w : World) (hT : Tables w) : Calls Tryd.prog 31 #[] w fun e w' => e = .returned (.bool true) ∧ Below w.heap.size w w' := by
  have HT := Lib.hid hT
  clear hT
  have H1 : Hid (Below w.heap.size w w) := Lib.hid (Below.refl _ _)
  go_enter Tryd.func31, Tryd.ntmps31
  have ks0 : ∀ z0 : Array Value, Whole (w.alloc (.cells z0 66)) w.heap.size 66 z0 := fun _ => (Whole.here _ _ _)
  go_upto_region 2 with (first
    | (with_reducible refine wpList_build_tag1 rfl _ rfl 9#8 byt9 rfl ?_)
    | (with_reducible refine wpList_build_con2 rfl _ _ rfl (tg1_len 9#8) rfl rfl ?_)
    | (with_reducible refine wpList_store_con rfl _ _ rfl (g := w.heap.size) rfl rfl (ks0 _) rfl (cnl_size _ _ _) (cnl_one _ _ _ _ _) ?_))
  clear ks0
  rw [zbk_lit]
  obtain ⟨q1, hq⟩ : ∃ q, q = ((w.alloc (.cells zbk 66)).setRow w.heap.size (cnl 1 (tg1 9#8) (.slice none 0 0)).toArray) := ⟨_, rfl⟩
  rw [← hq]
  have hsq1 : w.heap.size + 1 ≤ q1.heap.size := by rw [hq]; simp
  have H2 : Hid (Below w.heap.size w q1) := Lib.hid (by rw [hq]; exact (below_setRow (Below.trans H1.out (Below.mono (Below.alloc (Below.refl _ _) (Nat.le_refl _) _) (Below.size H1.out))) (by omega) _))
  clear H1
  have H3 : Hid (Whole q1 w.heap.size 66 (cnl 1 (tg1 9#8) (.slice none 0 0)).toArray) := Lib.hid (by rw [hq]; exact (Whole.setRow (Whole.here _ _ _) _))
  clear hq
  have hcl := tblank (vp := .slice none 0 0) 1 18 150 (free_av q1 (fun _ => False)) (by simp) (tg1_len 9#8) (Tables.below HT.out (Nat.le_refl _) H2.out) (fun m hm => newb_free (by rw [key_free (a := freeA) rfl (by decide)]) (tg1_len 9#8) (by omega))
  obtain ⟨R, hR⟩ : ∃ R, R = pBlank freeA 1 (tg1 9#8) 18 150 := ⟨_, rfl⟩
  rw [← hR] at hcl
  obtain ⟨b, ⟨zp, kx, tx⟩, e0⟩ := R
  obtain ⟨h1, h2, hlkx, hop, hno0, hbf⟩ := tk_back (good_new true ztag) (by decide) (by decide) (by decide) ⟨by omega, by omega, by omega⟩ ⟨by omega, by omega⟩ hR
  have hno := hno0 rfl (tg1 8#8) k98
  clear hno0
  dsimp only at h2 hlkx hop hno hbf
  replace h2 := h2.symm
  subst h1 h2
  have HOP := Lib.hid hop
  have HNO := Lib.hid hno
  have HBF := Lib.hid hbf
  clear hR hop hno hbf
  dsimp only [TbR] at hcl
  go_wp2_with (first
    | (with_reducible refine wpList_build_free rfl _ rfl true rfl ?_)
    | (with_reducible refine wpList_load_con rfl _ rfl rfl H3.out (cnl_size _ _ _) ?_))
  refine hcl.mono ?_
  rintro e u2 ⟨⟨x, y, rfl, hx, hy⟩, hbu⟩
  clear hcl
  obtain ⟨Amb, cmb, Abb, cbb, rfl, -, -, -⟩ := id hx
  obtain ⟨AX, cX, rfl, hX, -⟩ := hy
  have hsu2 : q1.heap.size ≤ u2.heap.size := hbu.size
  have H4 : Hid (Below w.heap.size w u2) := Lib.hid ((Below.trans H2.out (Below.mono hbu (Below.size H2.out))))
  have H5 : Hid (Whole u2 w.heap.size 66 (cnl 1 (tg1 9#8) (.slice none 0 0)).toArray) := Lib.hid ((Whole.below H3.out hbu (Whole.lt H3.out)))
  clear H2 H3
  have H6 : Hid (AlV u2 (Off [w.heap.size]) (.agg (alc b.free b.seed b.fresh (.slice Amb b.macs.length cmb) (.slice Abb b.boxes.length cbb))) b) := Lib.hid (hx.mono (fun q hq h y hy => by have h : q1.heap.size ≤ q := h.resolve_left id; simp at hy; omega))
  have H7 : Hid (Bytes u2 (Off [w.heap.size]) (.slice AX tx.length cX) tx) := Lib.hid (hX.mono fun q _ hq y hy => by have hq : q1.heap.size ≤ q := hq; simp at hy; omega)
  clear hx hX hbu
  have ks0 : ∀ z0 z1 : Array Value, Whole ((u2.alloc (.cells z0 32)).alloc (.cells z1 70)) u2.heap.size 32 z0 := fun _ _ => (Whole.alloc (Whole.here _ _ _) _)
  have ks1 : ∀ z0 z1 : Array Value, Whole (((u2.alloc (.cells z0 32)).alloc (.cells z1 70)).setRow u2.heap.size (alc b.free b.seed b.fresh (.slice Amb b.macs.length cmb) (.slice Abb b.boxes.length cbb))) (u2.heap.size + 1) 70 z1 := fun _ _ => (Whole.setRow_far (Whole.at_ _ _ _ _ (by simp)) (by omega) _)
  go_upto_region 3 with (first
    | (with_reducible refine wpList_store_alg rfl _ _ rfl (g := u2.heap.size) rfl rfl (ks0 _ _) rfl (alc_size _ _ _ _ _) (alc_one _ _ _ _ _ _ _ _ _) ?_)
    | (with_reducible refine wpList_store_blk rfl _ _ rfl (g := (u2.heap.size + 1)) rfl rfl (ks1 _ _) rfl (cnl_size _ _ _) (cnl_one _ _ _ _ _) ?_))
  clear ks0 ks1
  rw [zar_lit]
  rw [zbk_lit]
  obtain ⟨q3, hq⟩ : ∃ q, q = ((((u2.alloc (.cells zar 32)).alloc (.cells zbk 70)).setRow u2.heap.size (alc b.free b.seed b.fresh (.slice Amb b.macs.length cmb) (.slice Abb b.boxes.length cbb))).setRow (u2.heap.size + 1) (cnl 1 kx (.slice AX tx.length cX)).toArray) := ⟨_, rfl⟩
  rw [← hq]
  have hsq3 : u2.heap.size + 2 ≤ q3.heap.size := by rw [hq]; simp
  have H8 : Hid (Below w.heap.size w q3) := Lib.hid (by rw [hq]; exact (below_setRow (below_setRow (Below.trans H4.out (Below.mono (Below.alloc (Below.alloc (Below.refl _ _) (Nat.le_refl _) _) (by simp) _) (Below.size H4.out))) (by omega) _) (by omega) _))
  have H9 : Hid (Whole q3 w.heap.size 66 (cnl 1 (tg1 9#8) (.slice none 0 0)).toArray) := Lib.hid (by rw [hq]; exact (Whole.setRow_far (Whole.setRow_far (Whole.below H5.out (Below.alloc (Below.alloc (Below.refl _ _) (Nat.le_refl _) _) (by simp) _) (Whole.lt H5.out)) (by omega) _) (by omega) _))
  have H10 : Hid (AlV q3 (Off [(u2.heap.size + 1), u2.heap.size, w.heap.size]) (.agg (alc b.free b.seed b.fresh (.slice Amb b.macs.length cmb) (.slice Abb b.boxes.length cbb))) b) := Lib.hid (by rw [hq]; exact (AlV.store (AlV.store (AlV.below (AlV.grow (AlV.grow H6.out (by omega)) (by omega)) (Below.alloc (Below.alloc (Below.refl _ _) (Nat.le_refl _) _) (by simp) _) (Nat.le_refl _)) (by simp) _) (by simp) _))
  have H11 : Hid (Bytes q3 (Off [(u2.heap.size + 1), u2.heap.size, w.heap.size]) (.slice AX tx.length cX) tx) := Lib.hid (by rw [hq]; exact (Bytes.store (Bytes.store (Bytes.below (Bytes.grow (Bytes.grow H7.out (by omega)) (by omega)) (Below.alloc (Below.alloc (Below.refl _ _) (Nat.le_refl _) _) (by simp) _) (Nat.le_refl _)) (by simp) _) (by simp) _))
  clear H4 H5 H6 H7
  have H12 : Hid (ALRow q3 u2.heap.size b.free b.seed b.fresh (.slice Amb b.macs.length cmb) (.slice Abb b.boxes.length cbb)) := Lib.hid (by rw [hq]; exact (Whole.setRow_far (Whole.setRow (Whole.alloc (Whole.here _ _ _) _) _) (by omega) _))
  have H13 : Hid (Whole q3 (u2.heap.size + 1) 70 (cnl 1 kx (.slice AX tx.length cX)).toArray) := Lib.hid (by rw [hq]; exact (Whole.setRow (Whole.setRow_far (Whole.at_ _ _ _ _ (by simp)) (by omega) _) _))
  clear hq
  have hct := (cnl_at H13.out).2.2
  have hcl := topen (vp := .slice none 0 0) (z := 1) H10.out (tg1_len 9#8) H11.out (Tables.below HT.out (Nat.le_refl _) H8.out) (fun h => by rw [HBF.out] at h; cases h)
  rw [HOP.out] at hcl
  unfold ToR at hcl
  dsimp only at hcl
  go_wp2_with (first
    | (with_reducible refine wpList_load_alg rfl _ rfl rfl H12.out (alc_size _ _ _ _ _) ?_)
    | (with_reducible refine wpList_load_con rfl _ rfl rfl H9.out (cnl_size _ _ _) ?_))
  refine hcl.mono ?_
  rintro e u4 ⟨rfl, hbu⟩
  clear hcl hct
  have hsu4 : q3.heap.size ≤ u4.heap.size := hbu.size
  have H14 : Hid (Below w.heap.size w u4) := Lib.hid ((Below.trans H8.out (Below.mono hbu (Below.size H8.out))))
  have H15 : Hid (Whole u4 w.heap.size 66 (cnl 1 (tg1 9#8) (.slice none 0 0)).toArray) := Lib.hid ((Whole.below H9.out hbu (Whole.lt H9.out)))
  have H16 : Hid (AlV u4 (Off [(u2.heap.size + 1), u2.heap.size, w.heap.size]) (.agg (alc b.free b.seed b.fresh (.slice Amb b.macs.length cmb) (.slice Abb b.boxes.length cbb))) b) := Lib.hid ((AlV.below H10.out hbu (Nat.le_refl _)))
  have H17 : Hid (Bytes u4 (Off [(u2.heap.size + 1), u2.heap.size, w.heap.size]) (.slice AX tx.length cX) tx) := Lib.hid ((Bytes.below H11.out hbu (Nat.le_refl _)))
  have H18 : Hid (ALRow u4 u2.heap.size b.free b.seed b.fresh (.slice Amb b.macs.length cmb) (.slice Abb b.boxes.length cbb)) := Lib.hid ((Whole.below H12.out hbu (Whole.lt H12.out)))
  have H19 : Hid (Whole u4 (u2.heap.size + 1) 70 (cnl 1 kx (.slice AX tx.length cX)).toArray) := Lib.hid ((Whole.below H13.out hbu (Whole.lt H13.out)))
  clear H8 H9 H10 H11 H12 H13
  clear hbu
  have ks0 : ∀ z0 z1 : Array Value, Whole ((u4.alloc (.cells z0 28)).alloc (.cells z1 63)) u4.heap.size 28 z0 := fun _ _ => (Whole.alloc (Whole.here _ _ _) _)
  have ks1 : ∀ z0 z1 : Array Value, Whole (((u4.alloc (.cells z0 28)).alloc (.cells z1 63)).setRow u4.heap.size (kx.map byt).toArray) (u4.heap.size + 1) 63 z1 := fun _ _ => (Whole.setRow_far (Whole.at_ _ _ _ _ (by simp)) (by omega) _)
  go_upto_region 4 with (first
    | (with_reducible refine wpList_store_tag rfl _ _ rfl (g := u4.heap.size) rfl rfl (ks0 _ _) rfl (tag_size hlkx) (tag_one _) ?_)
    | (with_reducible refine wpList_store_tms rfl _ _ rfl (g := (u4.heap.size + 1)) rfl rfl (ks1 _ _) rfl ?_))
  clear ks0 ks1
  rw [ztm_lit]
  rw [ztr_lit]
  obtain ⟨q5, hq⟩ : ∃ q, q = ((((u4.alloc (.cells ztr 28)).alloc (.cells ztm 63)).setRow u4.heap.size (kx.map byt).toArray).setRow (u4.heap.size + 1) #[.int .i64 18, .int .i64 150]) := ⟨_, rfl⟩
  rw [← hq]
  have hsq5 : u4.heap.size + 2 ≤ q5.heap.size := by rw [hq]; simp
  have H20 : Hid (Below w.heap.size w q5) := Lib.hid (by rw [hq]; exact (below_setRow (below_setRow (Below.trans H14.out (Below.mono (Below.alloc (Below.alloc (Below.refl _ _) (Nat.le_refl _) _) (by simp) _) (Below.size H14.out))) (by omega) _) (by omega) _))
  have H21 : Hid (Whole q5 w.heap.size 66 (cnl 1 (tg1 9#8) (.slice none 0 0)).toArray) := Lib.hid (by rw [hq]; exact (Whole.setRow_far (Whole.setRow_far (Whole.below H15.out (Below.alloc (Below.alloc (Below.refl _ _) (Nat.le_refl _) _) (by simp) _) (Whole.lt H15.out)) (by omega) _) (by omega) _))
  have H22 : Hid (AlV q5 (Off [(u4.heap.size + 1), u4.heap.size, (u2.heap.size + 1), u2.heap.size, w.heap.size]) (.agg (alc b.free b.seed b.fresh (.slice Amb b.macs.length cmb) (.slice Abb b.boxes.length cbb))) b) := Lib.hid (by rw [hq]; exact (AlV.store (AlV.store (AlV.below (AlV.grow (AlV.grow H16.out (by omega)) (by omega)) (Below.alloc (Below.alloc (Below.refl _ _) (Nat.le_refl _) _) (by simp) _) (Nat.le_refl _)) (by simp) _) (by simp) _))
  have H23 : Hid (Bytes q5 (Off [(u4.heap.size + 1), u4.heap.size, (u2.heap.size + 1), u2.heap.size, w.heap.size]) (.slice AX tx.length cX) tx) := Lib.hid (by rw [hq]; exact (Bytes.store (Bytes.store (Bytes.below (Bytes.grow (Bytes.grow H17.out (by omega)) (by omega)) (Below.alloc (Below.alloc (Below.refl _ _) (Nat.le_refl _) _) (by simp) _) (Nat.le_refl _)) (by simp) _) (by simp) _))
  have H24 : Hid (ALRow q5 u2.heap.size b.free b.seed b.fresh (.slice Amb b.macs.length cmb) (.slice Abb b.boxes.length cbb)) := Lib.hid (by rw [hq]; exact (Whole.setRow_far (Whole.setRow_far (Whole.below H18.out (Below.alloc (Below.alloc (Below.refl _ _) (Nat.le_refl _) _) (by simp) _) (Whole.lt H18.out)) (by omega) _) (by omega) _))
  have H25 : Hid (Whole q5 (u2.heap.size + 1) 70 (cnl 1 kx (.slice AX tx.length cX)).toArray) := Lib.hid (by rw [hq]; exact (Whole.setRow_far (Whole.setRow_far (Whole.below H19.out (Below.alloc (Below.alloc (Below.refl _ _) (Nat.le_refl _) _) (by simp) _) (Whole.lt H19.out)) (by omega) _) (by omega) _))
  clear H14 H15 H16 H17 H18 H19
  have H26 : Hid (TGRow q5 u4.heap.size kx) := Lib.hid (by rw [hq]; exact (Whole.setRow_far (Whole.setRow (Whole.alloc (Whole.here _ _ _) _) _) (by omega) _))
  have H27 : Hid (Whole q5 (u4.heap.size + 1) 63 #[.int .i64 18, .int .i64 150]) := Lib.hid (by rw [hq]; exact (Whole.setRow (Whole.setRow_far (Whole.at_ _ _ _ _ (by simp)) (by omega) _) _))
  clear hq
  obtain ⟨R, hR⟩ : ∃ R, R = pOpenT b (tg1 8#8) tx := ⟨_, rfl⟩
  have hlko := pOpenT_len b (tg1 8#8) tx
  have hct := (cnl_at H25.out).2.2
  have hcl := topen (vp := .slice none 0 0) (z := 1) H22.out (tg1_len 8#8) H23.out (Tables.below HT.out (Nat.le_refl _) H20.out) (fun h => by rw [HBF.out] at h; cases h)
  rw [← hR] at hcl hlko
  obtain ⟨ko, ⟨lw, hw⟩, eo⟩ := R
  have h14 : eo = 14 := congrArg (fun r : List B8 × (Int × Int) × Int => r.2.2) (hR.trans HNO.out)
  subst h14
  clear hR HNO
  unfold ToR at hcl
  dsimp only at hcl
  go_wp2_with (first
    | (with_reducible refine wpList_load_alg rfl _ rfl rfl H24.out (alc_size _ _ _ _ _) ?_)
    | (with_reducible refine wpList_build_tag1 rfl _ rfl 8#8 byt8 rfl ?_)
    | (with_reducible refine wpList_build_con2 rfl _ _ rfl (tg1_len 8#8) rfl rfl ?_))
  refine hcl.mono ?_
  rintro e u6 ⟨rfl, hbu⟩
  clear hcl hct
  have hsu6 : q5.heap.size ≤ u6.heap.size := hbu.size
  have H28 : Hid (Below w.heap.size w u6) := Lib.hid ((Below.trans H20.out (Below.mono hbu (Below.size H20.out))))
  have H29 : Hid (Whole u6 w.heap.size 66 (cnl 1 (tg1 9#8) (.slice none 0 0)).toArray) := Lib.hid ((Whole.below H21.out hbu (Whole.lt H21.out)))
  have H30 : Hid (AlV u6 (Off [(u4.heap.size + 1), u4.heap.size, (u2.heap.size + 1), u2.heap.size, w.heap.size]) (.agg (alc b.free b.seed b.fresh (.slice Amb b.macs.length cmb) (.slice Abb b.boxes.length cbb))) b) := Lib.hid ((AlV.below H22.out hbu (Nat.le_refl _)))
  have H31 : Hid (Bytes u6 (Off [(u4.heap.size + 1), u4.heap.size, (u2.heap.size + 1), u2.heap.size, w.heap.size]) (.slice AX tx.length cX) tx) := Lib.hid ((Bytes.below H23.out hbu (Nat.le_refl _)))
  have H32 : Hid (ALRow u6 u2.heap.size b.free b.seed b.fresh (.slice Amb b.macs.length cmb) (.slice Abb b.boxes.length cbb)) := Lib.hid ((Whole.below H24.out hbu (Whole.lt H24.out)))
  have H33 : Hid (Whole u6 (u2.heap.size + 1) 70 (cnl 1 kx (.slice AX tx.length cX)).toArray) := Lib.hid ((Whole.below H25.out hbu (Whole.lt H25.out)))
  have H34 : Hid (TGRow u6 u4.heap.size kx) := Lib.hid ((Whole.below H26.out hbu (Whole.lt H26.out)))
  have H35 : Hid (Whole u6 (u4.heap.size + 1) 63 #[.int .i64 18, .int .i64 150]) := Lib.hid ((Whole.below H27.out hbu (Whole.lt H27.out)))
  clear H20 H21 H22 H23 H24 H25 H26 H27
  clear hbu
  have ks0 : ∀ z0 z1 : Array Value, Whole ((u6.alloc (.cells z0 28)).alloc (.cells z1 63)) u6.heap.size 28 z0 := fun _ _ => (Whole.alloc (Whole.here _ _ _) _)
  have ks1 : ∀ z0 z1 : Array Value, Whole (((u6.alloc (.cells z0 28)).alloc (.cells z1 63)).setRow u6.heap.size (ko.map byt).toArray) (u6.heap.size + 1) 63 z1 := fun _ _ => (Whole.setRow_far (Whole.at_ _ _ _ _ (by simp)) (by omega) _)
  go_upto_region 5 with (first
    | (with_reducible refine wpList_store_tag rfl _ _ rfl (g := u6.heap.size) rfl rfl (ks0 _ _) rfl (tag_size hlko) (tag_one _) ?_)
    | (with_reducible refine wpList_store_tms rfl _ _ rfl (g := (u6.heap.size + 1)) rfl rfl (ks1 _ _) rfl ?_))
  clear ks0 ks1
  rw [ztm_lit]
  rw [ztr_lit]
  obtain ⟨q7, hq⟩ : ∃ q, q = ((((u6.alloc (.cells ztr 28)).alloc (.cells ztm 63)).setRow u6.heap.size (ko.map byt).toArray).setRow (u6.heap.size + 1) #[.int .i64 lw, .int .i64 hw]) := ⟨_, rfl⟩
  rw [← hq]
  have hsq7 : u6.heap.size + 2 ≤ q7.heap.size := by rw [hq]; simp
  have H36 : Hid (Below w.heap.size w q7) := Lib.hid (by rw [hq]; exact (below_setRow (below_setRow (Below.trans H28.out (Below.mono (Below.alloc (Below.alloc (Below.refl _ _) (Nat.le_refl _) _) (by simp) _) (Below.size H28.out))) (by omega) _) (by omega) _))
  have H37 : Hid (Whole q7 w.heap.size 66 (cnl 1 (tg1 9#8) (.slice none 0 0)).toArray) := Lib.hid (by rw [hq]; exact (Whole.setRow_far (Whole.setRow_far (Whole.below H29.out (Below.alloc (Below.alloc (Below.refl _ _) (Nat.le_refl _) _) (by simp) _) (Whole.lt H29.out)) (by omega) _) (by omega) _))
  have H38 : Hid (AlV q7 (Off [(u6.heap.size + 1), u6.heap.size, (u4.heap.size + 1), u4.heap.size, (u2.heap.size + 1), u2.heap.size, w.heap.size]) (.agg (alc b.free b.seed b.fresh (.slice Amb b.macs.length cmb) (.slice Abb b.boxes.length cbb))) b) := Lib.hid (by rw [hq]; exact (AlV.store (AlV.store (AlV.below (AlV.grow (AlV.grow H30.out (by omega)) (by omega)) (Below.alloc (Below.alloc (Below.refl _ _) (Nat.le_refl _) _) (by simp) _) (Nat.le_refl _)) (by simp) _) (by simp) _))
  have H39 : Hid (Bytes q7 (Off [(u6.heap.size + 1), u6.heap.size, (u4.heap.size + 1), u4.heap.size, (u2.heap.size + 1), u2.heap.size, w.heap.size]) (.slice AX tx.length cX) tx) := Lib.hid (by rw [hq]; exact (Bytes.store (Bytes.store (Bytes.below (Bytes.grow (Bytes.grow H31.out (by omega)) (by omega)) (Below.alloc (Below.alloc (Below.refl _ _) (Nat.le_refl _) _) (by simp) _) (Nat.le_refl _)) (by simp) _) (by simp) _))
  have H40 : Hid (ALRow q7 u2.heap.size b.free b.seed b.fresh (.slice Amb b.macs.length cmb) (.slice Abb b.boxes.length cbb)) := Lib.hid (by rw [hq]; exact (Whole.setRow_far (Whole.setRow_far (Whole.below H32.out (Below.alloc (Below.alloc (Below.refl _ _) (Nat.le_refl _) _) (by simp) _) (Whole.lt H32.out)) (by omega) _) (by omega) _))
  have H41 : Hid (Whole q7 (u2.heap.size + 1) 70 (cnl 1 kx (.slice AX tx.length cX)).toArray) := Lib.hid (by rw [hq]; exact (Whole.setRow_far (Whole.setRow_far (Whole.below H33.out (Below.alloc (Below.alloc (Below.refl _ _) (Nat.le_refl _) _) (by simp) _) (Whole.lt H33.out)) (by omega) _) (by omega) _))
  have H42 : Hid (TGRow q7 u4.heap.size kx) := Lib.hid (by rw [hq]; exact (Whole.setRow_far (Whole.setRow_far (Whole.below H34.out (Below.alloc (Below.alloc (Below.refl _ _) (Nat.le_refl _) _) (by simp) _) (Whole.lt H34.out)) (by omega) _) (by omega) _))
  have H43 : Hid (Whole q7 (u4.heap.size + 1) 63 #[.int .i64 18, .int .i64 150]) := Lib.hid (by rw [hq]; exact (Whole.setRow_far (Whole.setRow_far (Whole.below H35.out (Below.alloc (Below.alloc (Below.refl _ _) (Nat.le_refl _) _) (by simp) _) (Whole.lt H35.out)) (by omega) _) (by omega) _))
  clear H28 H29 H30 H31 H32 H33 H34 H35
  have H44 : Hid (TGRow q7 u6.heap.size ko) := Lib.hid (by rw [hq]; exact (Whole.setRow_far (Whole.setRow (Whole.alloc (Whole.here _ _ _) _) _) (by omega) _))
  have H45 : Hid (Whole q7 (u6.heap.size + 1) 63 #[.int .i64 lw, .int .i64 hw]) := Lib.hid (by rw [hq]; exact (Whole.setRow (Whole.setRow_far (Whole.at_ _ _ _ _ (by simp)) (by omega) _) _))
  clear hq
  have hcx := cnl_at H41.out
  rw [p32_eq hlkx] at hcx
  have htT := Whole.cell H43.out
  have t0 := Whole.cell_at H43.out (j := 0) rfl
  have hsk : (Tryd.prog.info? 28).map (·.size) = some (kx.map byt).length := by rw [List.length_map, hlkx]; exact tagSize
  have kq := fun W => eql_tag hlkx hlkx (decide_eq_true rfl) W
  clear htT
  go_wp2_with (first
    | (with_reducible refine wpList_load_wanted_at (by with_unfolding_all rfl) 28 _ rfl u4.heap.size 0 rfl (kx.map byt) _ (TGRow.range H42.out) Tryd.underlying28 rfl hsk ?_)
    | (with_reducible refine wpList_load_wanted_at (by with_unfolding_all rfl) 28 _ rfl (u2.heap.size + 1) 1 rfl (kx.map byt) _ hcx.2.1 Tryd.underlying28 rfl hsk ?_))
  go_ret
  exact ⟨rfl, (H36.out)⟩
end Go.Proofs.YtiikhjifjdpgdaaDoor
namespace Go.Proofs.YtiikhjifjdpgdaaDoor
open Go Go.RowKit Sh Leaf

set_option linter.unusedSimpArgs false in
set_option linter.unusedVariables false in
set_option maxRecDepth 100000 in
set_option maxHeartbeats 8000000 in
theorem tback_law (A0 : Option Addr) (l0 : List Int) (c0 : Nat) (least : Nat) (more : Nat) (w : World) (hT : Tables w) (hI0 : Ints w (fun b => b < w.heap.size) A0 c0 l0) (hi1 : least < 256) (hi2 : more < 256) :
    Calls Tryd.prog 7 #[.slice A0 l0.length c0, .int .u8 (least : Int), .int .u8 (more : Int)] w fun e w' => e = .returned (.bool true) ∧ Below w.heap.size w w' := by
  have HT := Lib.hid hT
  clear hT
  have H1 : Hid (Below w.heap.size w w) := Lib.hid (Below.refl _ _)
  obtain ⟨n0, hn0⟩ : ∃ n, n = l0.length := ⟨_, rfl⟩
  rw [← hn0]
  have HI0 := Lib.hid hI0
  have HN0 := Lib.hid hn0
  clear hI0 hn0
  go_enter Tryd.func7, Tryd.ntmps7
  have hcl := dnew A0 _ c0 l0 w HN0.out ((HI0.out.below H1.out).mono (Below.size H1.out))
  go_wp2_with fail
  refine hcl.mono ?_
  rintro e d0 ⟨rfl, hdk, hbu⟩
  clear hcl
  have hsd0 : w.heap.size < d0.heap.size := hdk.lt
  have H2 : Hid (Below w.heap.size w d0) := Lib.hid ((Below.trans H1.out (Below.mono hbu (Below.size H1.out))))
  clear H1
  have H3 : Hid (Deck w.heap.size d0) := Lib.hid (hdk)
  clear hdk hbu HI0 HN0
  have hcl := dalg w.heap.size d0 H3.out
  go_wp2_with fail
  refine hcl.mono ?_
  rintro e u1 ⟨⟨v, a, rfl, hv, h4a, hb4a, hf4a, hgd⟩, ht⟩
  clear hcl
  have HGa := Lib.hid hgd
  obtain ⟨Ama, cma, Aba, cba, rfl, hM, hBx, hA⟩ := hv
  have hsla : a.seed.length = 32 := hA.seed
  have hfra : 0 ≤ a.fresh := hA.lo
  have hsu1 : d0.heap.size ≤ u1.heap.size := Turn.size ht
  have H4 : Hid (Below w.heap.size w u1) := Lib.hid ((base_turn H2.out ht (by omega)))
  have H5 : Hid (Deck w.heap.size u1) := Lib.hid ((ht).1)
  clear H2 H3
  have H6 : Hid (AlV u1 (Off [w.heap.size]) (.agg (alc a.free a.seed a.fresh (.slice Ama a.macs.length cma) (.slice Aba a.boxes.length cba))) a) := Lib.hid (AlV.mono (Q' := _) ⟨Ama, cma, Aba, cba, rfl, hM, hBx, hA⟩ (fun _ _ h => off_one h))
  clear hM hBx hA ht hgd
  have ks0 : ∀ z0 : Array Value, Whole (u1.alloc (.cells z0 32)) u1.heap.size 32 z0 := fun _ => (Whole.here _ _ _)
  go_upto_region 3 with (with_reducible refine wpList_store_alg rfl _ _ rfl (g := u1.heap.size) rfl rfl (ks0 _) rfl (alc_size _ _ _ _ _) (alc_one _ _ _ _ _ _ _ _ _) ?_)
  clear ks0
  rw [zar_lit]
  obtain ⟨q2, hq⟩ : ∃ q, q = ((u1.alloc (.cells zar 32)).setRow u1.heap.size (alc a.free a.seed a.fresh (.slice Ama a.macs.length cma) (.slice Aba a.boxes.length cba))) := ⟨_, rfl⟩
  rw [← hq]
  have hsq2 : u1.heap.size + 1 ≤ q2.heap.size := by rw [hq]; simp
  have H7 : Hid (Below w.heap.size w q2) := Lib.hid (by rw [hq]; exact (below_setRow (Below.trans H4.out (Below.mono (Below.alloc (Below.refl _ _) (Nat.le_refl _) _) (Below.size H4.out))) (by omega) _))
  have H8 : Hid (Deck w.heap.size q2) := Lib.hid (by rw [hq]; exact (Deck.store (Deck.below H5.out (Below.alloc (Below.refl _ _) (Nat.le_refl _) _) (Deck.lt H5.out)) (by omega) _))
  have H9 : Hid (AlV q2 (Off [u1.heap.size, w.heap.size]) (.agg (alc a.free a.seed a.fresh (.slice Ama a.macs.length cma) (.slice Aba a.boxes.length cba))) a) := Lib.hid (by rw [hq]; exact (AlV.store (AlV.below (AlV.grow H6.out (by omega)) (Below.alloc (Below.refl _ _) (Nat.le_refl _) _) (Nat.le_refl _)) (by simp) _))
  clear H4 H5 H6
  have H10 : Hid (ALRow q2 u1.heap.size a.free a.seed a.fresh (.slice Ama a.macs.length cma) (.slice Aba a.boxes.length cba)) := Lib.hid (by rw [hq]; exact (Whole.setRow (Whole.here _ _ _) _))
  clear hq
  have hcl := dtag w.heap.size q2 H8.out
  go_wp2_with fail
  refine hcl.mono ?_
  rintro e u3 ⟨⟨K, hlK, rfl⟩, ht⟩
  clear hcl
  have hsu3 : q2.heap.size ≤ u3.heap.size := Turn.size ht
  have H11 : Hid (Below w.heap.size w u3) := Lib.hid ((base_turn H7.out ht (by omega)))
  have H12 : Hid (Deck w.heap.size u3) := Lib.hid ((ht).1)
  have H13 : Hid (AlV u3 (Off [u1.heap.size, w.heap.size]) (.agg (alc a.free a.seed a.fresh (.slice Ama a.macs.length cma) (.slice Aba a.boxes.length cba))) a) := Lib.hid ((AlV.turn H9.out ht (by simp) (Turn.size ht)))
  have H14 : Hid (ALRow u3 u1.heap.size a.free a.seed a.fresh (.slice Ama a.macs.length cma) (.slice Aba a.boxes.length cba)) := Lib.hid (((ht).2.2.oth _ _ _ (by omega) H10.out))
  clear H7 H8 H9 H10
  clear ht
  have hcl := dcon hlK w.heap.size u3 H12.out
  go_wp2_with fail
  refine hcl.mono ?_
  rintro e u4 ⟨⟨z, Ap, np, cp, hz0, hz7, rfl⟩, ht⟩
  clear hcl
  have hsu4 : u3.heap.size ≤ u4.heap.size := Turn.size ht
  have H15 : Hid (Below w.heap.size w u4) := Lib.hid ((base_turn H11.out ht (by omega)))
  have H16 : Hid (Deck w.heap.size u4) := Lib.hid ((ht).1)
  have H17 : Hid (AlV u4 (Off [u1.heap.size, w.heap.size]) (.agg (alc a.free a.seed a.fresh (.slice Ama a.macs.length cma) (.slice Aba a.boxes.length cba))) a) := Lib.hid ((AlV.turn H13.out ht (by simp) (Turn.size ht)))
  have H18 : Hid (ALRow u4 u1.heap.size a.free a.seed a.fresh (.slice Ama a.macs.length cma) (.slice Aba a.boxes.length cba)) := Lib.hid (((ht).2.2.oth _ _ _ (by omega) H14.out))
  clear H11 H12 H13 H14
  clear ht
  have ks0 : ∀ z0 : Array Value, Whole (u4.alloc (.cells z0 66)) u4.heap.size 66 z0 := fun _ => (Whole.here _ _ _)
  go_upto_region 4 with (with_reducible refine wpList_store_con rfl _ _ rfl (g := u4.heap.size) rfl rfl (ks0 _) rfl (cnl_size _ _ _) (cnl_one _ _ _ _ _) ?_)
  clear ks0
  rw [zbk_lit]
  obtain ⟨q5, hq⟩ : ∃ q, q = ((u4.alloc (.cells zbk 66)).setRow u4.heap.size (cnl z K (.slice Ap np cp)).toArray) := ⟨_, rfl⟩
  rw [← hq]
  have hsq5 : u4.heap.size + 1 ≤ q5.heap.size := by rw [hq]; simp
  have H19 : Hid (Below w.heap.size w q5) := Lib.hid (by rw [hq]; exact (below_setRow (Below.trans H15.out (Below.mono (Below.alloc (Below.refl _ _) (Nat.le_refl _) _) (Below.size H15.out))) (by omega) _))
  have H20 : Hid (Deck w.heap.size q5) := Lib.hid (by rw [hq]; exact (Deck.store (Deck.below H16.out (Below.alloc (Below.refl _ _) (Nat.le_refl _) _) (Deck.lt H16.out)) (by omega) _))
  have H21 : Hid (AlV q5 (Off [u4.heap.size, u1.heap.size, w.heap.size]) (.agg (alc a.free a.seed a.fresh (.slice Ama a.macs.length cma) (.slice Aba a.boxes.length cba))) a) := Lib.hid (by rw [hq]; exact (AlV.store (AlV.below (AlV.grow H17.out (by omega)) (Below.alloc (Below.refl _ _) (Nat.le_refl _) _) (Nat.le_refl _)) (by simp) _))
  have H22 : Hid (ALRow q5 u1.heap.size a.free a.seed a.fresh (.slice Ama a.macs.length cma) (.slice Aba a.boxes.length cba)) := Lib.hid (by rw [hq]; exact (Whole.setRow_far (Whole.below H18.out (Below.alloc (Below.refl _ _) (Nat.le_refl _) _) (Whole.lt H18.out)) (by omega) _))
  clear H15 H16 H17 H18
  have H23 : Hid (Whole q5 u4.heap.size 66 (cnl z K (.slice Ap np cp)).toArray) := Lib.hid (by rw [hq]; exact (Whole.setRow (Whole.here _ _ _) _))
  clear hq
  clear H20
  have ks0 : ∀ z0 : Array Value, Whole (q5.alloc (.cells z0 63)) q5.heap.size 63 z0 := fun _ => (Whole.here _ _ _)
  go_upto_region 5 with (with_reducible refine wpList_store_tms rfl _ _ rfl (g := q5.heap.size) rfl rfl (ks0 _) rfl ?_)
  clear ks0
  rw [ztm_lit]
  obtain ⟨q6, hq⟩ : ∃ q, q = ((q5.alloc (.cells ztm 63)).setRow q5.heap.size #[.int .i64 ((least : Int) % 100), .int .i64 ((least : Int) % 100 + (more : Int) % 50)]) := ⟨_, rfl⟩
  rw [← hq]
  have hsq6 : q5.heap.size + 1 ≤ q6.heap.size := by rw [hq]; simp
  have H24 : Hid (Below w.heap.size w q6) := Lib.hid (by rw [hq]; exact (below_setRow (Below.trans H19.out (Below.mono (Below.alloc (Below.refl _ _) (Nat.le_refl _) _) (Below.size H19.out))) (by omega) _))
  have H25 : Hid (AlV q6 (Off [q5.heap.size, u4.heap.size, u1.heap.size, w.heap.size]) (.agg (alc a.free a.seed a.fresh (.slice Ama a.macs.length cma) (.slice Aba a.boxes.length cba))) a) := Lib.hid (by rw [hq]; exact (AlV.store (AlV.below (AlV.grow H21.out (by omega)) (Below.alloc (Below.refl _ _) (Nat.le_refl _) _) (Nat.le_refl _)) (by simp) _))
  have H26 : Hid (ALRow q6 u1.heap.size a.free a.seed a.fresh (.slice Ama a.macs.length cma) (.slice Aba a.boxes.length cba)) := Lib.hid (by rw [hq]; exact (Whole.setRow_far (Whole.below H22.out (Below.alloc (Below.refl _ _) (Nat.le_refl _) _) (Whole.lt H22.out)) (by omega) _))
  have H27 : Hid (Whole q6 u4.heap.size 66 (cnl z K (.slice Ap np cp)).toArray) := Lib.hid (by rw [hq]; exact (Whole.setRow_far (Whole.below H23.out (Below.alloc (Below.refl _ _) (Nat.le_refl _) _) (Whole.lt H23.out)) (by omega) _))
  clear H19 H21 H22 H23
  have H28 : Hid (Whole q6 q5.heap.size 63 #[.int .i64 ((least : Int) % 100), .int .i64 ((least : Int) % 100 + (more : Int) % 50)]) := Lib.hid (by rw [hq]; exact (Whole.setRow (Whole.here _ _ _) _))
  clear hq
  have hcl := tblank (vp := .slice Ap np cp) z ((least : Int) % 100) ((least : Int) % 100 + (more : Int) % 50) H25.out (by omega) hlK (Tables.below HT.out (Nat.le_refl _) H24.out) (fun m hm => by
    have hk := key_ok (a := a) (by omega)
    have hf := key_fresh hfra hk
    by_cases hf2 : (aKey a).1.free = true
    · exact newb_free hf2 hlK (by omega)
    · exact newb_comp combok (by simpa using hf2) hlK (by omega) hf.1 (by omega))
  obtain ⟨R, hR⟩ : ∃ R, R = pBlank a z K ((least : Int) % 100) ((least : Int) % 100 + (more : Int) % 50) := ⟨_, rfl⟩
  rw [← hR] at hcl
  obtain ⟨b, ⟨zp, kx, tx⟩, e0⟩ := R
  obtain ⟨h1, h2, hlkx, hop, hno, -⟩ := tk_back HGa.out hfra hf4a hb4a ⟨by omega, by omega, by omega⟩ ⟨hz0, hz7⟩ hR
  dsimp only at h2 hlkx hop hno
  replace h2 := h2.symm
  subst h1 h2
  have HOP := Lib.hid hop
  have HNO := Lib.hid hno
  have HEB := Lib.hid hR
  clear hR hop hno
  dsimp only [TbR] at hcl
  go_wp2_with (first
    | (with_reducible refine wpList_load_alg rfl _ rfl rfl H26.out (alc_size _ _ _ _ _) ?_)
    | (with_reducible refine wpList_load_con rfl _ rfl rfl H27.out (cnl_size _ _ _) ?_)
    | (with_reducible refine wpList_load_tms rfl _ rfl rfl H28.out ?_))
  refine hcl.mono ?_
  rintro e u7 ⟨⟨x, y, rfl, hx, hy⟩, hbu⟩
  clear hcl
  obtain ⟨Amb, cmb, Abb, cbb, rfl, -, -, -⟩ := id hx
  obtain ⟨AX, cX, rfl, hX, -⟩ := hy
  have hsu7 : q6.heap.size ≤ u7.heap.size := hbu.size
  have H29 : Hid (Below w.heap.size w u7) := Lib.hid ((Below.trans H24.out (Below.mono hbu (Below.size H24.out))))
  have H30 : Hid (AlV u7 (Off [q5.heap.size, u4.heap.size, u1.heap.size, w.heap.size]) (.agg (alc a.free a.seed a.fresh (.slice Ama a.macs.length cma) (.slice Aba a.boxes.length cba))) a) := Lib.hid ((AlV.below H25.out hbu (Nat.le_refl _)))
  have H31 : Hid (ALRow u7 u1.heap.size a.free a.seed a.fresh (.slice Ama a.macs.length cma) (.slice Aba a.boxes.length cba)) := Lib.hid ((Whole.below H26.out hbu (Whole.lt H26.out)))
  have H32 : Hid (Whole u7 u4.heap.size 66 (cnl z K (.slice Ap np cp)).toArray) := Lib.hid ((Whole.below H27.out hbu (Whole.lt H27.out)))
  have H33 : Hid (Whole u7 q5.heap.size 63 #[.int .i64 ((least : Int) % 100), .int .i64 ((least : Int) % 100 + (more : Int) % 50)]) := Lib.hid ((Whole.below H28.out hbu (Whole.lt H28.out)))
  clear H24 H25 H26 H27 H28
  have H34 : Hid (AlV u7 (Off [q5.heap.size, u4.heap.size, u1.heap.size, w.heap.size]) (.agg (alc b.free b.seed b.fresh (.slice Amb b.macs.length cmb) (.slice Abb b.boxes.length cbb))) b) := Lib.hid (AlV.fresh hx (by intro y hy; simp at hy; omega))
  have H35 : Hid (Bytes u7 (Off [q5.heap.size, u4.heap.size, u1.heap.size, w.heap.size]) (.slice AX tx.length cX) tx) := Lib.hid (hX.mono fun q _ hq y hy => by have hq : q6.heap.size ≤ q := hq; simp at hy; omega)
  clear hx hX hbu
  clear H30
  have ks0 : ∀ z0 z1 : Array Value, Whole ((u7.alloc (.cells z0 32)).alloc (.cells z1 70)) u7.heap.size 32 z0 := fun _ _ => (Whole.alloc (Whole.here _ _ _) _)
  have ks1 : ∀ z0 z1 : Array Value, Whole (((u7.alloc (.cells z0 32)).alloc (.cells z1 70)).setRow u7.heap.size (alc b.free b.seed b.fresh (.slice Amb b.macs.length cmb) (.slice Abb b.boxes.length cbb))) (u7.heap.size + 1) 70 z1 := fun _ _ => (Whole.setRow_far (Whole.at_ _ _ _ _ (by simp)) (by omega) _)
  go_upto_region 6 with (first
    | (with_reducible refine wpList_store_alg rfl _ _ rfl (g := u7.heap.size) rfl rfl (ks0 _ _) rfl (alc_size _ _ _ _ _) (alc_one _ _ _ _ _ _ _ _ _) ?_)
    | (with_reducible refine wpList_store_blk rfl _ _ rfl (g := (u7.heap.size + 1)) rfl rfl (ks1 _ _) rfl (cnl_size _ _ _) (cnl_one _ _ _ _ _) ?_))
  clear ks0 ks1
  rw [zar_lit]
  rw [zbk_lit]
  obtain ⟨q8, hq⟩ : ∃ q, q = ((((u7.alloc (.cells zar 32)).alloc (.cells zbk 70)).setRow u7.heap.size (alc b.free b.seed b.fresh (.slice Amb b.macs.length cmb) (.slice Abb b.boxes.length cbb))).setRow (u7.heap.size + 1) (cnl z kx (.slice AX tx.length cX)).toArray) := ⟨_, rfl⟩
  rw [← hq]
  have hsq8 : u7.heap.size + 2 ≤ q8.heap.size := by rw [hq]; simp
  have H36 : Hid (Below w.heap.size w q8) := Lib.hid (by rw [hq]; exact (below_setRow (below_setRow (Below.trans H29.out (Below.mono (Below.alloc (Below.alloc (Below.refl _ _) (Nat.le_refl _) _) (by simp) _) (Below.size H29.out))) (by omega) _) (by omega) _))
  have H37 : Hid (ALRow q8 u1.heap.size a.free a.seed a.fresh (.slice Ama a.macs.length cma) (.slice Aba a.boxes.length cba)) := Lib.hid (by rw [hq]; exact (Whole.setRow_far (Whole.setRow_far (Whole.below H31.out (Below.alloc (Below.alloc (Below.refl _ _) (Nat.le_refl _) _) (by simp) _) (Whole.lt H31.out)) (by omega) _) (by omega) _))
  have H38 : Hid (Whole q8 u4.heap.size 66 (cnl z K (.slice Ap np cp)).toArray) := Lib.hid (by rw [hq]; exact (Whole.setRow_far (Whole.setRow_far (Whole.below H32.out (Below.alloc (Below.alloc (Below.refl _ _) (Nat.le_refl _) _) (by simp) _) (Whole.lt H32.out)) (by omega) _) (by omega) _))
  have H39 : Hid (Whole q8 q5.heap.size 63 #[.int .i64 ((least : Int) % 100), .int .i64 ((least : Int) % 100 + (more : Int) % 50)]) := Lib.hid (by rw [hq]; exact (Whole.setRow_far (Whole.setRow_far (Whole.below H33.out (Below.alloc (Below.alloc (Below.refl _ _) (Nat.le_refl _) _) (by simp) _) (Whole.lt H33.out)) (by omega) _) (by omega) _))
  have H40 : Hid (AlV q8 (Off [(u7.heap.size + 1), u7.heap.size, q5.heap.size, u4.heap.size, u1.heap.size, w.heap.size]) (.agg (alc b.free b.seed b.fresh (.slice Amb b.macs.length cmb) (.slice Abb b.boxes.length cbb))) b) := Lib.hid (by rw [hq]; exact (AlV.store (AlV.store (AlV.below (AlV.grow (AlV.grow H34.out (by omega)) (by omega)) (Below.alloc (Below.alloc (Below.refl _ _) (Nat.le_refl _) _) (by simp) _) (Nat.le_refl _)) (by simp) _) (by simp) _))
  have H41 : Hid (Bytes q8 (Off [(u7.heap.size + 1), u7.heap.size, q5.heap.size, u4.heap.size, u1.heap.size, w.heap.size]) (.slice AX tx.length cX) tx) := Lib.hid (by rw [hq]; exact (Bytes.store (Bytes.store (Bytes.below (Bytes.grow (Bytes.grow H35.out (by omega)) (by omega)) (Below.alloc (Below.alloc (Below.refl _ _) (Nat.le_refl _) _) (by simp) _) (Nat.le_refl _)) (by simp) _) (by simp) _))
  clear H29 H31 H32 H33 H34 H35
  have H42 : Hid (ALRow q8 u7.heap.size b.free b.seed b.fresh (.slice Amb b.macs.length cmb) (.slice Abb b.boxes.length cbb)) := Lib.hid (by rw [hq]; exact (Whole.setRow_far (Whole.setRow (Whole.alloc (Whole.here _ _ _) _) _) (by omega) _))
  have H43 : Hid (Whole q8 (u7.heap.size + 1) 70 (cnl z kx (.slice AX tx.length cX)).toArray) := Lib.hid (by rw [hq]; exact (Whole.setRow (Whole.setRow_far (Whole.at_ _ _ _ _ (by simp)) (by omega) _) _))
  clear hq
  have hct := (cnl_at H43.out).2.2
  have hcl := topen (vp := .slice Ap np cp) (z := z) H40.out hlK H41.out (Tables.below HT.out (Nat.le_refl _) H36.out) (fun _ => openc combok hlK)
  rw [HOP.out] at hcl
  unfold ToR at hcl
  dsimp only at hcl
  go_wp2_with (first
    | (with_reducible refine wpList_load_alg rfl _ rfl rfl H42.out (alc_size _ _ _ _ _) ?_)
    | (with_reducible refine wpList_load_con rfl _ rfl rfl H38.out (cnl_size _ _ _) ?_))
  refine hcl.mono ?_
  rintro e u9 ⟨rfl, hbu⟩
  clear hcl hct
  have hsu9 : q8.heap.size ≤ u9.heap.size := hbu.size
  have H44 : Hid (Below w.heap.size w u9) := Lib.hid ((Below.trans H36.out (Below.mono hbu (Below.size H36.out))))
  have H45 : Hid (ALRow u9 u1.heap.size a.free a.seed a.fresh (.slice Ama a.macs.length cma) (.slice Aba a.boxes.length cba)) := Lib.hid ((Whole.below H37.out hbu (Whole.lt H37.out)))
  have H46 : Hid (Whole u9 u4.heap.size 66 (cnl z K (.slice Ap np cp)).toArray) := Lib.hid ((Whole.below H38.out hbu (Whole.lt H38.out)))
  have H47 : Hid (Whole u9 q5.heap.size 63 #[.int .i64 ((least : Int) % 100), .int .i64 ((least : Int) % 100 + (more : Int) % 50)]) := Lib.hid ((Whole.below H39.out hbu (Whole.lt H39.out)))
  have H48 : Hid (AlV u9 (Off [(u7.heap.size + 1), u7.heap.size, q5.heap.size, u4.heap.size, u1.heap.size, w.heap.size]) (.agg (alc b.free b.seed b.fresh (.slice Amb b.macs.length cmb) (.slice Abb b.boxes.length cbb))) b) := Lib.hid ((AlV.below H40.out hbu (Nat.le_refl _)))
  have H49 : Hid (Bytes u9 (Off [(u7.heap.size + 1), u7.heap.size, q5.heap.size, u4.heap.size, u1.heap.size, w.heap.size]) (.slice AX tx.length cX) tx) := Lib.hid ((Bytes.below H41.out hbu (Nat.le_refl _)))
  have H50 : Hid (ALRow u9 u7.heap.size b.free b.seed b.fresh (.slice Amb b.macs.length cmb) (.slice Abb b.boxes.length cbb)) := Lib.hid ((Whole.below H42.out hbu (Whole.lt H42.out)))
  have H51 : Hid (Whole u9 (u7.heap.size + 1) 70 (cnl z kx (.slice AX tx.length cX)).toArray) := Lib.hid ((Whole.below H43.out hbu (Whole.lt H43.out)))
  clear H36 H37 H38 H39 H40 H41 H42 H43
  clear hbu
  have ks0 : ∀ z0 z1 : Array Value, Whole ((u9.alloc (.cells z0 28)).alloc (.cells z1 63)) u9.heap.size 28 z0 := fun _ _ => (Whole.alloc (Whole.here _ _ _) _)
  have ks1 : ∀ z0 z1 : Array Value, Whole (((u9.alloc (.cells z0 28)).alloc (.cells z1 63)).setRow u9.heap.size (kx.map byt).toArray) (u9.heap.size + 1) 63 z1 := fun _ _ => (Whole.setRow_far (Whole.at_ _ _ _ _ (by simp)) (by omega) _)
  go_upto_region 7 with (first
    | (with_reducible refine wpList_store_tag rfl _ _ rfl (g := u9.heap.size) rfl rfl (ks0 _ _) rfl (tag_size hlkx) (tag_one _) ?_)
    | (with_reducible refine wpList_store_tms rfl _ _ rfl (g := (u9.heap.size + 1)) rfl rfl (ks1 _ _) rfl ?_))
  clear ks0 ks1
  rw [ztm_lit]
  rw [ztr_lit]
  obtain ⟨q10, hq⟩ : ∃ q, q = ((((u9.alloc (.cells ztr 28)).alloc (.cells ztm 63)).setRow u9.heap.size (kx.map byt).toArray).setRow (u9.heap.size + 1) #[.int .i64 ((least : Int) % 100), .int .i64 ((least : Int) % 100 + (more : Int) % 50)]) := ⟨_, rfl⟩
  rw [← hq]
  have hsq10 : u9.heap.size + 2 ≤ q10.heap.size := by rw [hq]; simp
  have H52 : Hid (Below w.heap.size w q10) := Lib.hid (by rw [hq]; exact (below_setRow (below_setRow (Below.trans H44.out (Below.mono (Below.alloc (Below.alloc (Below.refl _ _) (Nat.le_refl _) _) (by simp) _) (Below.size H44.out))) (by omega) _) (by omega) _))
  have H53 : Hid (ALRow q10 u1.heap.size a.free a.seed a.fresh (.slice Ama a.macs.length cma) (.slice Aba a.boxes.length cba)) := Lib.hid (by rw [hq]; exact (Whole.setRow_far (Whole.setRow_far (Whole.below H45.out (Below.alloc (Below.alloc (Below.refl _ _) (Nat.le_refl _) _) (by simp) _) (Whole.lt H45.out)) (by omega) _) (by omega) _))
  have H54 : Hid (Whole q10 u4.heap.size 66 (cnl z K (.slice Ap np cp)).toArray) := Lib.hid (by rw [hq]; exact (Whole.setRow_far (Whole.setRow_far (Whole.below H46.out (Below.alloc (Below.alloc (Below.refl _ _) (Nat.le_refl _) _) (by simp) _) (Whole.lt H46.out)) (by omega) _) (by omega) _))
  have H55 : Hid (Whole q10 q5.heap.size 63 #[.int .i64 ((least : Int) % 100), .int .i64 ((least : Int) % 100 + (more : Int) % 50)]) := Lib.hid (by rw [hq]; exact (Whole.setRow_far (Whole.setRow_far (Whole.below H47.out (Below.alloc (Below.alloc (Below.refl _ _) (Nat.le_refl _) _) (by simp) _) (Whole.lt H47.out)) (by omega) _) (by omega) _))
  have H56 : Hid (AlV q10 (Off [(u9.heap.size + 1), u9.heap.size, (u7.heap.size + 1), u7.heap.size, q5.heap.size, u4.heap.size, u1.heap.size, w.heap.size]) (.agg (alc b.free b.seed b.fresh (.slice Amb b.macs.length cmb) (.slice Abb b.boxes.length cbb))) b) := Lib.hid (by rw [hq]; exact (AlV.store (AlV.store (AlV.below (AlV.grow (AlV.grow H48.out (by omega)) (by omega)) (Below.alloc (Below.alloc (Below.refl _ _) (Nat.le_refl _) _) (by simp) _) (Nat.le_refl _)) (by simp) _) (by simp) _))
  have H57 : Hid (Bytes q10 (Off [(u9.heap.size + 1), u9.heap.size, (u7.heap.size + 1), u7.heap.size, q5.heap.size, u4.heap.size, u1.heap.size, w.heap.size]) (.slice AX tx.length cX) tx) := Lib.hid (by rw [hq]; exact (Bytes.store (Bytes.store (Bytes.below (Bytes.grow (Bytes.grow H49.out (by omega)) (by omega)) (Below.alloc (Below.alloc (Below.refl _ _) (Nat.le_refl _) _) (by simp) _) (Nat.le_refl _)) (by simp) _) (by simp) _))
  have H58 : Hid (ALRow q10 u7.heap.size b.free b.seed b.fresh (.slice Amb b.macs.length cmb) (.slice Abb b.boxes.length cbb)) := Lib.hid (by rw [hq]; exact (Whole.setRow_far (Whole.setRow_far (Whole.below H50.out (Below.alloc (Below.alloc (Below.refl _ _) (Nat.le_refl _) _) (by simp) _) (Whole.lt H50.out)) (by omega) _) (by omega) _))
  have H59 : Hid (Whole q10 (u7.heap.size + 1) 70 (cnl z kx (.slice AX tx.length cX)).toArray) := Lib.hid (by rw [hq]; exact (Whole.setRow_far (Whole.setRow_far (Whole.below H51.out (Below.alloc (Below.alloc (Below.refl _ _) (Nat.le_refl _) _) (by simp) _) (Whole.lt H51.out)) (by omega) _) (by omega) _))
  clear H44 H45 H46 H47 H48 H49 H50 H51
  have H60 : Hid (TGRow q10 u9.heap.size kx) := Lib.hid (by rw [hq]; exact (Whole.setRow_far (Whole.setRow (Whole.alloc (Whole.here _ _ _) _) _) (by omega) _))
  have H61 : Hid (Whole q10 (u9.heap.size + 1) 63 #[.int .i64 ((least : Int) % 100), .int .i64 ((least : Int) % 100 + (more : Int) % 50)]) := Lib.hid (by rw [hq]; exact (Whole.setRow (Whole.setRow_far (Whole.at_ _ _ _ _ (by simp)) (by omega) _) _))
  clear hq
  clear HOP
  have ks0 : ∀ z0 : Array Value, Whole (q10.alloc (.cells z0 66)) q10.heap.size 66 z0 := fun _ => (Whole.here _ _ _)
  go_upto_region 8 with (first
    | (with_reducible refine wpList_load_con rfl _ rfl rfl H54.out (cnl_size _ _ _) ?_)
    | (with_reducible refine wpList_store_con rfl _ _ rfl (g := q10.heap.size) rfl rfl (ks0 _) rfl (cnl_size _ _ _) (cnl_one _ _ _ _ _) ?_))
  clear ks0
  rw [zbk_lit]
  obtain ⟨q11, hq⟩ : ∃ q, q = ((q10.alloc (.cells zbk 66)).setRow q10.heap.size (cnl z K (.slice Ap np cp)).toArray) := ⟨_, rfl⟩
  rw [← hq]
  have hsq11 : q10.heap.size + 1 ≤ q11.heap.size := by rw [hq]; simp
  have H62 : Hid (Below w.heap.size w q11) := Lib.hid (by rw [hq]; exact (below_setRow (Below.trans H52.out (Below.mono (Below.alloc (Below.refl _ _) (Nat.le_refl _) _) (Below.size H52.out))) (by omega) _))
  have H63 : Hid (ALRow q11 u1.heap.size a.free a.seed a.fresh (.slice Ama a.macs.length cma) (.slice Aba a.boxes.length cba)) := Lib.hid (by rw [hq]; exact (Whole.setRow_far (Whole.below H53.out (Below.alloc (Below.refl _ _) (Nat.le_refl _) _) (Whole.lt H53.out)) (by omega) _))
  have H64 : Hid (Whole q11 u4.heap.size 66 (cnl z K (.slice Ap np cp)).toArray) := Lib.hid (by rw [hq]; exact (Whole.setRow_far (Whole.below H54.out (Below.alloc (Below.refl _ _) (Nat.le_refl _) _) (Whole.lt H54.out)) (by omega) _))
  have H65 : Hid (Whole q11 q5.heap.size 63 #[.int .i64 ((least : Int) % 100), .int .i64 ((least : Int) % 100 + (more : Int) % 50)]) := Lib.hid (by rw [hq]; exact (Whole.setRow_far (Whole.below H55.out (Below.alloc (Below.refl _ _) (Nat.le_refl _) _) (Whole.lt H55.out)) (by omega) _))
  have H66 : Hid (AlV q11 (Off [q10.heap.size, (u9.heap.size + 1), u9.heap.size, (u7.heap.size + 1), u7.heap.size, q5.heap.size, u4.heap.size, u1.heap.size, w.heap.size]) (.agg (alc b.free b.seed b.fresh (.slice Amb b.macs.length cmb) (.slice Abb b.boxes.length cbb))) b) := Lib.hid (by rw [hq]; exact (AlV.store (AlV.below (AlV.grow H56.out (by omega)) (Below.alloc (Below.refl _ _) (Nat.le_refl _) _) (Nat.le_refl _)) (by simp) _))
  have H67 : Hid (Bytes q11 (Off [q10.heap.size, (u9.heap.size + 1), u9.heap.size, (u7.heap.size + 1), u7.heap.size, q5.heap.size, u4.heap.size, u1.heap.size, w.heap.size]) (.slice AX tx.length cX) tx) := Lib.hid (by rw [hq]; exact (Bytes.store (Bytes.below (Bytes.grow H57.out (by omega)) (Below.alloc (Below.refl _ _) (Nat.le_refl _) _) (Nat.le_refl _)) (by simp) _))
  have H68 : Hid (ALRow q11 u7.heap.size b.free b.seed b.fresh (.slice Amb b.macs.length cmb) (.slice Abb b.boxes.length cbb)) := Lib.hid (by rw [hq]; exact (Whole.setRow_far (Whole.below H58.out (Below.alloc (Below.refl _ _) (Nat.le_refl _) _) (Whole.lt H58.out)) (by omega) _))
  have H69 : Hid (Whole q11 (u7.heap.size + 1) 70 (cnl z kx (.slice AX tx.length cX)).toArray) := Lib.hid (by rw [hq]; exact (Whole.setRow_far (Whole.below H59.out (Below.alloc (Below.refl _ _) (Nat.le_refl _) _) (Whole.lt H59.out)) (by omega) _))
  have H70 : Hid (TGRow q11 u9.heap.size kx) := Lib.hid (by rw [hq]; exact (Whole.setRow_far (Whole.below H60.out (Below.alloc (Below.refl _ _) (Nat.le_refl _) _) (Whole.lt H60.out)) (by omega) _))
  have H71 : Hid (Whole q11 (u9.heap.size + 1) 63 #[.int .i64 ((least : Int) % 100), .int .i64 ((least : Int) % 100 + (more : Int) % 50)]) := Lib.hid (by rw [hq]; exact (Whole.setRow_far (Whole.below H61.out (Below.alloc (Below.refl _ _) (Nat.le_refl _) _) (Whole.lt H61.out)) (by omega) _))
  clear H52 H53 H54 H55 H56 H57 H58 H59 H60 H61
  have H72 : Hid (Whole q11 q10.heap.size 66 (cnl z K (.slice Ap np cp)).toArray) := Lib.hid (by rw [hq]; exact (Whole.setRow (Whole.here _ _ _) _))
  clear hq
  obtain ⟨k3, hk3⟩ : ∃ k, K[3]? = some k := ⟨K[3]'(by omega), List.getElem?_eq_getElem _⟩
  have hc4 := (cnl_at H72.out).2.1 3 (byt k3) (by rw [p32_eq hlK, List.getElem?_map, hk3]; rfl)
  have hf4 := Whole.frozen H72.out 4
  unfold byt at hc4
  go_upto_region 9 with fail
  obtain ⟨x3, hx3⟩ : ∃ x, x = k3 ^^^ 1#8 := ⟨_, rfl⟩
  have hne : K.set 3 x3 ≠ K := fun e => by
    have h1 : (K.set 3 x3)[3]? = K[3]? := by rw [e]
    rw [List.getElem?_set_self (by omega), hk3, hx3] at h1
    injection h1 with h1
    exact xor1_ne k3 h1
  rw [show bits .xor .u8 (bv k3) 1 = bv x3 by rw [hx3, ← bits_xor_bv, show bv 1#8 = 1 from bv_lit 1 (by omega)]]
  obtain ⟨q, hq⟩ : ∃ q, q = q11.setCell ⟨q10.heap.size, 4, none⟩ (.int .u8 (bv x3)) := ⟨_, rfl⟩
  rw [← hq]
  have HK : ∀ g, g ≠ q10.heap.size → q.heap[g]? = q11.heap[g]? := fun g hg => by rw [hq, heap_setCell_other _ _ _ _ hg]
  have HS : q.heap.size = q11.heap.size := by rw [hq]; simp
  have HXO : Whole q q10.heap.size 66 (cnl z (K.set 3 x3) (.slice Ap np cp)).toArray := by rw [hq]; exact cnl_set hlK H72.out 3 (by omega) x3
  have HBA : Below w.heap.size w q := by rw [hq]; exact Below.setCell (p := ⟨q10.heap.size, 4, none⟩) H62.out (by show w.heap.size ≤ q10.heap.size; omega) _
  obtain ⟨K2, hK2⟩ : ∃ K2, K2 = K.set 3 x3 := ⟨_, rfl⟩
  have hlK2 : K2.length = 32 := by rw [hK2, List.length_set]; exact hlK
  rw [← hK2] at HXO hne
  have H73 : Hid (ALRow q u1.heap.size a.free a.seed a.fresh (.slice Ama a.macs.length cma) (.slice Aba a.boxes.length cba)) := Lib.hid ((HK _ (by omega)).trans H63.out)
  have H74 : Hid (Whole q u4.heap.size 66 (cnl z K (.slice Ap np cp)).toArray) := Lib.hid ((HK _ (by omega)).trans H64.out)
  have H75 : Hid (Whole q q5.heap.size 63 #[.int .i64 ((least : Int) % 100), .int .i64 ((least : Int) % 100 + (more : Int) % 50)]) := Lib.hid ((HK _ (by omega)).trans H65.out)
  have H76 : Hid (AlV q (Off [q10.heap.size, (u9.heap.size + 1), u9.heap.size, (u7.heap.size + 1), u7.heap.size, q5.heap.size, u4.heap.size, u1.heap.size, w.heap.size]) (.agg (alc b.free b.seed b.fresh (.slice Amb b.macs.length cmb) (.slice Abb b.boxes.length cbb))) b) := Lib.hid (AlV.keep H66.out (by rw [HS]; exact Nat.le_refl _) fun g _ hq => HK g (hq _ (by simp)))
  have H77 : Hid (Bytes q (Off [q10.heap.size, (u9.heap.size + 1), u9.heap.size, (u7.heap.size + 1), u7.heap.size, q5.heap.size, u4.heap.size, u1.heap.size, w.heap.size]) (.slice AX tx.length cX) tx) := Lib.hid (Bytes.keep H67.out fun g _ hq => HK g (hq _ (by simp)))
  have H78 : Hid (ALRow q u7.heap.size b.free b.seed b.fresh (.slice Amb b.macs.length cmb) (.slice Abb b.boxes.length cbb)) := Lib.hid ((HK _ (by omega)).trans H68.out)
  have H79 : Hid (Whole q (u7.heap.size + 1) 70 (cnl z kx (.slice AX tx.length cX)).toArray) := Lib.hid ((HK _ (by omega)).trans H69.out)
  have H80 : Hid (TGRow q u9.heap.size kx) := Lib.hid ((HK _ (by omega)).trans H70.out)
  have H81 : Hid (Whole q (u9.heap.size + 1) 63 #[.int .i64 ((least : Int) % 100), .int .i64 ((least : Int) % 100 + (more : Int) % 50)]) := Lib.hid ((HK _ (by omega)).trans H71.out)
  clear H63 H64 H65 H66 H67 H68 H69 H70 H71
  clear H62 H72
  have H82 : Hid (Below w.heap.size w q) := Lib.hid (HBA)
  have H83 : Hid (Whole q q10.heap.size 66 (cnl z K2 (.slice Ap np cp)).toArray) := Lib.hid (HXO)
  have hsq : q11.heap.size ≤ q.heap.size := by rw [HS]; exact Nat.le_refl _
  clear hq HK HS HXO HBA hc4 hf4 hx3 hk3 hK2
  obtain ⟨R, hR⟩ : ∃ R, R = pOpenT b K2 tx := ⟨_, rfl⟩
  have hlko := pOpenT_len b K2 tx
  have hct := (cnl_at H79.out).2.2
  have hcl := topen (vp := .slice Ap np cp) (z := z) H76.out hlK2 H77.out (Tables.below HT.out (Nat.le_refl _) H82.out) (fun _ => openc combok hlK2)
  rw [← hR] at hcl hlko
  obtain ⟨ko, ⟨lw, hw⟩, eo⟩ := R
  have HEO := Lib.hid (HNO.out · K2 hne)
  rw [← hR] at HEO
  clear hR HNO
  unfold ToR at hcl
  dsimp only at hcl
  go_wp2_with (first
    | (with_reducible refine wpList_load_alg rfl _ rfl rfl H78.out (alc_size _ _ _ _ _) ?_)
    | (with_reducible refine wpList_load_con rfl _ rfl rfl H83.out (cnl_size _ _ _) ?_))
  refine hcl.mono ?_
  rintro e u12 ⟨rfl, hbu⟩
  clear hcl hct
  have hsu12 : q.heap.size ≤ u12.heap.size := hbu.size
  have H84 : Hid (ALRow u12 u1.heap.size a.free a.seed a.fresh (.slice Ama a.macs.length cma) (.slice Aba a.boxes.length cba)) := Lib.hid ((Whole.below H73.out hbu (Whole.lt H73.out)))
  have H85 : Hid (Whole u12 u4.heap.size 66 (cnl z K (.slice Ap np cp)).toArray) := Lib.hid ((Whole.below H74.out hbu (Whole.lt H74.out)))
  have H86 : Hid (Whole u12 q5.heap.size 63 #[.int .i64 ((least : Int) % 100), .int .i64 ((least : Int) % 100 + (more : Int) % 50)]) := Lib.hid ((Whole.below H75.out hbu (Whole.lt H75.out)))
  have H87 : Hid (AlV u12 (Off [q10.heap.size, (u9.heap.size + 1), u9.heap.size, (u7.heap.size + 1), u7.heap.size, q5.heap.size, u4.heap.size, u1.heap.size, w.heap.size]) (.agg (alc b.free b.seed b.fresh (.slice Amb b.macs.length cmb) (.slice Abb b.boxes.length cbb))) b) := Lib.hid ((AlV.below H76.out hbu (Nat.le_refl _)))
  have H88 : Hid (Bytes u12 (Off [q10.heap.size, (u9.heap.size + 1), u9.heap.size, (u7.heap.size + 1), u7.heap.size, q5.heap.size, u4.heap.size, u1.heap.size, w.heap.size]) (.slice AX tx.length cX) tx) := Lib.hid ((Bytes.below H77.out hbu (Nat.le_refl _)))
  have H89 : Hid (ALRow u12 u7.heap.size b.free b.seed b.fresh (.slice Amb b.macs.length cmb) (.slice Abb b.boxes.length cbb)) := Lib.hid ((Whole.below H78.out hbu (Whole.lt H78.out)))
  have H90 : Hid (Whole u12 (u7.heap.size + 1) 70 (cnl z kx (.slice AX tx.length cX)).toArray) := Lib.hid ((Whole.below H79.out hbu (Whole.lt H79.out)))
  have H91 : Hid (TGRow u12 u9.heap.size kx) := Lib.hid ((Whole.below H80.out hbu (Whole.lt H80.out)))
  have H92 : Hid (Whole u12 (u9.heap.size + 1) 63 #[.int .i64 ((least : Int) % 100), .int .i64 ((least : Int) % 100 + (more : Int) % 50)]) := Lib.hid ((Whole.below H81.out hbu (Whole.lt H81.out)))
  have H93 : Hid (Below w.heap.size w u12) := Lib.hid ((Below.trans H82.out (Below.mono hbu (Below.size H82.out))))
  have H94 : Hid (Whole u12 q10.heap.size 66 (cnl z K2 (.slice Ap np cp)).toArray) := Lib.hid ((Whole.below H83.out hbu (Whole.lt H83.out)))
  clear H73 H74 H75 H76 H77 H78 H79 H80 H81 H82 H83
  clear hbu
  have ks0 : ∀ z0 z1 : Array Value, Whole ((u12.alloc (.cells z0 28)).alloc (.cells z1 63)) u12.heap.size 28 z0 := fun _ _ => (Whole.alloc (Whole.here _ _ _) _)
  have ks1 : ∀ z0 z1 : Array Value, Whole (((u12.alloc (.cells z0 28)).alloc (.cells z1 63)).setRow u12.heap.size (ko.map byt).toArray) (u12.heap.size + 1) 63 z1 := fun _ _ => (Whole.setRow_far (Whole.at_ _ _ _ _ (by simp)) (by omega) _)
  go_upto_region 10 with (first
    | (with_reducible refine wpList_store_tag rfl _ _ rfl (g := u12.heap.size) rfl rfl (ks0 _ _) rfl (tag_size hlko) (tag_one _) ?_)
    | (with_reducible refine wpList_store_tms rfl _ _ rfl (g := (u12.heap.size + 1)) rfl rfl (ks1 _ _) rfl ?_))
  clear ks0 ks1
  rw [ztm_lit]
  rw [ztr_lit]
  obtain ⟨q13, hq⟩ : ∃ q, q = ((((u12.alloc (.cells ztr 28)).alloc (.cells ztm 63)).setRow u12.heap.size (ko.map byt).toArray).setRow (u12.heap.size + 1) #[.int .i64 lw, .int .i64 hw]) := ⟨_, rfl⟩
  rw [← hq]
  have hsq13 : u12.heap.size + 2 ≤ q13.heap.size := by rw [hq]; simp
  have H95 : Hid (ALRow q13 u1.heap.size a.free a.seed a.fresh (.slice Ama a.macs.length cma) (.slice Aba a.boxes.length cba)) := Lib.hid (by rw [hq]; exact (Whole.setRow_far (Whole.setRow_far (Whole.below H84.out (Below.alloc (Below.alloc (Below.refl _ _) (Nat.le_refl _) _) (by simp) _) (Whole.lt H84.out)) (by omega) _) (by omega) _))
  have H96 : Hid (Whole q13 u4.heap.size 66 (cnl z K (.slice Ap np cp)).toArray) := Lib.hid (by rw [hq]; exact (Whole.setRow_far (Whole.setRow_far (Whole.below H85.out (Below.alloc (Below.alloc (Below.refl _ _) (Nat.le_refl _) _) (by simp) _) (Whole.lt H85.out)) (by omega) _) (by omega) _))
  have H97 : Hid (Whole q13 q5.heap.size 63 #[.int .i64 ((least : Int) % 100), .int .i64 ((least : Int) % 100 + (more : Int) % 50)]) := Lib.hid (by rw [hq]; exact (Whole.setRow_far (Whole.setRow_far (Whole.below H86.out (Below.alloc (Below.alloc (Below.refl _ _) (Nat.le_refl _) _) (by simp) _) (Whole.lt H86.out)) (by omega) _) (by omega) _))
  have H98 : Hid (AlV q13 (Off [(u12.heap.size + 1), u12.heap.size, q10.heap.size, (u9.heap.size + 1), u9.heap.size, (u7.heap.size + 1), u7.heap.size, q5.heap.size, u4.heap.size, u1.heap.size, w.heap.size]) (.agg (alc b.free b.seed b.fresh (.slice Amb b.macs.length cmb) (.slice Abb b.boxes.length cbb))) b) := Lib.hid (by rw [hq]; exact (AlV.store (AlV.store (AlV.below (AlV.grow (AlV.grow H87.out (by omega)) (by omega)) (Below.alloc (Below.alloc (Below.refl _ _) (Nat.le_refl _) _) (by simp) _) (Nat.le_refl _)) (by simp) _) (by simp) _))
  have H99 : Hid (Bytes q13 (Off [(u12.heap.size + 1), u12.heap.size, q10.heap.size, (u9.heap.size + 1), u9.heap.size, (u7.heap.size + 1), u7.heap.size, q5.heap.size, u4.heap.size, u1.heap.size, w.heap.size]) (.slice AX tx.length cX) tx) := Lib.hid (by rw [hq]; exact (Bytes.store (Bytes.store (Bytes.below (Bytes.grow (Bytes.grow H88.out (by omega)) (by omega)) (Below.alloc (Below.alloc (Below.refl _ _) (Nat.le_refl _) _) (by simp) _) (Nat.le_refl _)) (by simp) _) (by simp) _))
  have H100 : Hid (ALRow q13 u7.heap.size b.free b.seed b.fresh (.slice Amb b.macs.length cmb) (.slice Abb b.boxes.length cbb)) := Lib.hid (by rw [hq]; exact (Whole.setRow_far (Whole.setRow_far (Whole.below H89.out (Below.alloc (Below.alloc (Below.refl _ _) (Nat.le_refl _) _) (by simp) _) (Whole.lt H89.out)) (by omega) _) (by omega) _))
  have H101 : Hid (Whole q13 (u7.heap.size + 1) 70 (cnl z kx (.slice AX tx.length cX)).toArray) := Lib.hid (by rw [hq]; exact (Whole.setRow_far (Whole.setRow_far (Whole.below H90.out (Below.alloc (Below.alloc (Below.refl _ _) (Nat.le_refl _) _) (by simp) _) (Whole.lt H90.out)) (by omega) _) (by omega) _))
  have H102 : Hid (TGRow q13 u9.heap.size kx) := Lib.hid (by rw [hq]; exact (Whole.setRow_far (Whole.setRow_far (Whole.below H91.out (Below.alloc (Below.alloc (Below.refl _ _) (Nat.le_refl _) _) (by simp) _) (Whole.lt H91.out)) (by omega) _) (by omega) _))
  have H103 : Hid (Whole q13 (u9.heap.size + 1) 63 #[.int .i64 ((least : Int) % 100), .int .i64 ((least : Int) % 100 + (more : Int) % 50)]) := Lib.hid (by rw [hq]; exact (Whole.setRow_far (Whole.setRow_far (Whole.below H92.out (Below.alloc (Below.alloc (Below.refl _ _) (Nat.le_refl _) _) (by simp) _) (Whole.lt H92.out)) (by omega) _) (by omega) _))
  have H104 : Hid (Below w.heap.size w q13) := Lib.hid (by rw [hq]; exact (below_setRow (below_setRow (Below.trans H93.out (Below.mono (Below.alloc (Below.alloc (Below.refl _ _) (Nat.le_refl _) _) (by simp) _) (Below.size H93.out))) (by omega) _) (by omega) _))
  have H105 : Hid (Whole q13 q10.heap.size 66 (cnl z K2 (.slice Ap np cp)).toArray) := Lib.hid (by rw [hq]; exact (Whole.setRow_far (Whole.setRow_far (Whole.below H94.out (Below.alloc (Below.alloc (Below.refl _ _) (Nat.le_refl _) _) (by simp) _) (Whole.lt H94.out)) (by omega) _) (by omega) _))
  clear H84 H85 H86 H87 H88 H89 H90 H91 H92 H93 H94
  have H106 : Hid (TGRow q13 u12.heap.size ko) := Lib.hid (by rw [hq]; exact (Whole.setRow_far (Whole.setRow (Whole.alloc (Whole.here _ _ _) _) _) (by omega) _))
  have H107 : Hid (Whole q13 (u12.heap.size + 1) 63 #[.int .i64 lw, .int .i64 hw]) := Lib.hid (by rw [hq]; exact (Whole.setRow (Whole.setRow_far (Whole.at_ _ _ _ _ (by simp)) (by omega) _) _))
  clear hq
  have h0 := (ALRow.cells H95.out).1
  have hcx := cnl_at H101.out
  have hcc := cnl_at H96.out
  rw [p32_eq hlkx] at hcx
  have hsk : (Tryd.prog.info? 28).map (·.size) = some (kx.map byt).length := by rw [List.length_map, hlkx]; exact tagSize
  have hst : (Tryd.prog.info? 63).map (·.size) = some ([.int .i64 ((least : Int) % 100), .int .i64 ((least : Int) % 100 + (more : Int) % 50)] : List Value).length := by rw [tmsSize]; rfl
  have kq := fun W => eql_tag hlkx hlkx (decide_eq_true rfl) W
  by_cases hfr : a.free = true
  · skip
    have h14 : eo = 14 := congrArg (fun r : List B8 × (Int × Int) × Int => r.2.2) (HEO.out hfr)
    subst h14
    rw [hfr] at h0
    clear HEO hfr
    go_wp2_with (first
      | (with_reducible refine wpList_load_wanted_at (by with_unfolding_all rfl) 28 _ rfl u9.heap.size 0 rfl (kx.map byt) _ (TGRow.range H102.out) Tryd.underlying28 rfl hsk ?_)
      | (with_reducible refine wpList_load_wanted_at (by with_unfolding_all rfl) 28 _ rfl (u7.heap.size + 1) 1 rfl (kx.map byt) _ hcx.2.1 Tryd.underlying28 rfl hsk ?_)
      | (with_reducible refine wpList_load_wanted_at (by with_unfolding_all rfl) 63 _ rfl (u9.heap.size + 1) 0 rfl [.int .i64 ((least : Int) % 100), .int .i64 ((least : Int) % 100 + (more : Int) % 50)] _ (Whole.range H103.out) Tryd.underlying63 rfl hst ?_)
      | (with_reducible refine wpList_load_wanted_at (by with_unfolding_all rfl) 63 _ rfl q5.heap.size 0 rfl [.int .i64 ((least : Int) % 100), .int .i64 ((least : Int) % 100 + (more : Int) % 50)] _ (Whole.range H97.out) Tryd.underlying63 rfl hst ?_))
    refine (tawk q13 (Tables.below HT.out (Nat.le_refl _) H104.out)).mono ?_
    rintro e w9 ⟨rfl, hb9⟩
    have HG := Lib.hid (Below.trans H104.out (Below.mono hb9 (Below.size H104.out)))
    go_wp2
    go_ret
    exact ⟨rfl, HG.out⟩
  have hfr : a.free = false := by simpa using hfr
  rw [hfr] at h0
  clear HEO hfr
  go_wp2_with (first
    | (with_reducible refine wpList_load_wanted_at (by with_unfolding_all rfl) 28 _ rfl u9.heap.size 0 rfl (kx.map byt) _ (TGRow.range H102.out) Tryd.underlying28 rfl hsk ?_)
    | (with_reducible refine wpList_load_wanted_at (by with_unfolding_all rfl) 28 _ rfl (u7.heap.size + 1) 1 rfl (kx.map byt) _ hcx.2.1 Tryd.underlying28 rfl hsk ?_)
    | (with_reducible refine wpList_load_wanted_at (by with_unfolding_all rfl) 63 _ rfl (u9.heap.size + 1) 0 rfl [.int .i64 ((least : Int) % 100), .int .i64 ((least : Int) % 100 + (more : Int) % 50)] _ (Whole.range H103.out) Tryd.underlying63 rfl hst ?_)
    | (with_reducible refine wpList_load_wanted_at (by with_unfolding_all rfl) 63 _ rfl q5.heap.size 0 rfl [.int .i64 ((least : Int) % 100), .int .i64 ((least : Int) % 100 + (more : Int) % 50)] _ (Whole.range H97.out) Tryd.underlying63 rfl hst ?_))
  refine (tawk q13 (Tables.below HT.out (Nat.le_refl _) H104.out)).mono ?_
  rintro e w9 ⟨rfl, hb9⟩
  have HG := Lib.hid (Below.trans H104.out (Below.mono hb9 (Below.size H104.out)))
  go_wp2
  go_ret
  exact ⟨rfl, HG.out⟩
end Go.Proofs.YtiikhjifjdpgdaaDoor
