/-
  TkAwk
  TBlkLaw
-/
import Derived.Deep.CutBlock
import Derived.Deep.DeepCutAuto
import Derived.Test.YteekdhcffiaaaaaDoorPk32
import Derived.Test.YteekdhcffiaaaaaDoorPk41
import Derived.Test.YteekdhcffiaaaaaDoorPk42
import Derived.Test.YteekdhcffiaaaaaDoorPk23
import Derived.Test.YteekdhcffiaaaaaDoorPk34
import Derived.Test.YteekdhcffiaaaaaDoorPk27
import Derived.Deep.RegionHeld3
import Derived.Test.YteekdhcffiaaaaaDoorPk30
import Derived.Test.YteekdhcffiaaaaaDoorPk25
import Derived.Test.YteekdhcffiaaaaaDoorPk24
namespace Go.Proofs.YteekdhcffiaaaaaDoor
open Go Go.RowKit Sh Leaf

set_option maxRecDepth 100000 in
theorem built_con2 {T : List B8} (z : Int) (hT : T.length = 32) : Tryd.prog.built 36 [(0, .int .i64 z), (1, .agg (T.map byt).toArray)] = some (cnl z T (.slice none 0 0)).toArray := by
  unfold cnl
  rw [p32_eq hT]
  obtain ⟨a0, a1, a2, a3, a4, a5, a6, a7, a8, a9, a10, a11, a12, a13, a14, a15, a16, a17, a18, a19, a20, a21, a22, a23, a24, a25, a26, a27, a28, a29, a30, a31, rfl⟩ := ex32 T hT
  simp only [List.map_cons, List.map_nil, List.cons_append, List.nil_append]
  kernel_rfl
theorem wpList_build_con2 {w : World} {ops : Array Oper} {rest : List Oper} {o : Oper} {a : Act} {Q : Exit → Act → World → Prop} (hgd : o.guard = none) (x y : Operand) (ho : o.op = .build 36 #[(0, x), (1, y)]) {z : Int} {T : List B8} (hT : T.length = 32) (hx : a.eval x = .int .i64 z) (hy : a.eval y = .agg (T.map byt).toArray)
    (h : wpList Tryd.prog ops Q rest (a.put o.dst (.agg (cnl z T (.slice none 0 0)).toArray)) w) : wpList Tryd.prog ops Q (o :: rest) a w := by
  refine wpList_build_as hgd 36 _ ho _ ?_ h
  have e : (#[(0, x), (1, y)].map fun (i, x) => (i, a.eval x)).toList = [(0, .int .i64 z), (1, .agg (T.map byt).toArray)] := by simp [hx, hy]
  rw [e, built_con2 z hT]
theorem byt9 : Value.int .u8 9 = byt 9#8 := (byt_lit 9 (by omega)).symm
theorem byt8 : Value.int .u8 8 = byt 8#8 := (byt_lit 8 (by omega)).symm
theorem k98 : tg1 8#8 ≠ tg1 9#8 := fun e => by
  unfold tg1 at e
  injection e with e _
  exact absurd e (by decide)
set_option linter.unusedSimpArgs false in
set_option linter.unusedVariables false in
set_option maxRecDepth 100000 in
set_option maxHeartbeats 8000000 in
theorem tawk (w : World) (hT : Tables w) : Calls Tryd.prog 16 #[] w fun e w' => e = .returned (.bool true) ∧ Below w.heap.size w w' := by
  have HT := Lib.hid hT
  clear hT
  have H1 : Hid (Below w.heap.size w w) := Lib.hid (Below.refl _ _)
  go_enter Tryd.func16, Tryd.ntmps16
  have ks0 : ∀ z0 : Array Value, Whole (w.alloc (.cells z0 36)) w.heap.size 36 z0 := fun _ => (Whole.here _ _ _)
  go_upto_region 2 with (first
    | (with_reducible refine wpList_build_tag1 rfl _ rfl 9#8 byt9 rfl ?_)
    | (with_reducible refine wpList_build_con2 rfl _ _ rfl (tg1_len 9#8) rfl rfl ?_)
    | (with_reducible refine wpList_store_con rfl _ _ rfl (g := w.heap.size) rfl rfl (ks0 _) rfl (cnl_size _ _ _) (cnl_one _ _ _ _ _) ?_))
  clear ks0
  rw [zbk_lit]
  obtain ⟨q1, hq⟩ : ∃ q, q = ((w.alloc (.cells zbk 36)).setRow w.heap.size (cnl 1 (tg1 9#8) (.slice none 0 0)).toArray) := ⟨_, rfl⟩
  rw [← hq]
  have hsq1 : w.heap.size + 1 ≤ q1.heap.size := by rw [hq]; simp
  have H2 : Hid (Below w.heap.size w q1) := Lib.hid (by rw [hq]; exact (below_setRow (Below.trans H1.out (Below.mono (Below.alloc (Below.refl _ _) (Nat.le_refl _) _) (Below.size H1.out))) (by omega) _))
  clear H1
  have H3 : Hid (Whole q1 w.heap.size 36 (cnl 1 (tg1 9#8) (.slice none 0 0)).toArray) := Lib.hid (by rw [hq]; exact (Whole.setRow (Whole.here _ _ _) _))
  clear hq
  have hcl := tblank (vp := .slice none 0 0) 1 18 150 (free_av q1 (fun _ => False)) (by simp) (tg1_len 9#8) (Tables.below HT.out (Nat.le_refl _) H2.out) (fun m hm => newb_free (by rw [key_free (a := freeA) rfl (by decide)]) (tg1_len 9#8) (by omega))
  obtain ⟨R, hR⟩ : ∃ R, R = pBlank freeA 1 (tg1 9#8) 18 150 := ⟨_, rfl⟩
  rw [← hR] at hcl
  obtain ⟨b, ⟨zp, kx, tx⟩, e0⟩ := R
  obtain ⟨h1, h2, hlkx, hop, hno0, hbf⟩ := tk_back (good_new true ztag) (by decide) (by decide) (by decide) ⟨by omega, by omega, by omega⟩ ⟨by omega, by omega⟩ hR
  have hno := hno0 rfl (tg1 8#8) k98
  clear hno0
  dsimp only at h2 hlkx hop hno hbf
  replace h2 := h2.symm
  subst h1 h2
  have HOP := Lib.hid hop
  have HNO := Lib.hid hno
  have HBF := Lib.hid hbf
  clear hR hop hno hbf
  dsimp only [TbR] at hcl
  go_wp2_with (first
    | (with_reducible refine wpList_build_free rfl _ rfl true rfl ?_)
    | (with_reducible refine wpList_load_con rfl _ rfl rfl H3.out (cnl_size _ _ _) ?_))
  refine hcl.mono ?_
  rintro e u2 ⟨⟨x, y, rfl, hx, hy⟩, hbu⟩
  clear hcl
  obtain ⟨Amb, cmb, Abb, cbb, rfl, -, -, -⟩ := id hx
  obtain ⟨AX, cX, rfl, hX, -⟩ := hy
  have hsu2 : q1.heap.size ≤ u2.heap.size := hbu.size
  have H4 : Hid (Below w.heap.size w u2) := Lib.hid ((Below.trans H2.out (Below.mono hbu (Below.size H2.out))))
  have H5 : Hid (Whole u2 w.heap.size 36 (cnl 1 (tg1 9#8) (.slice none 0 0)).toArray) := Lib.hid ((Whole.below H3.out hbu (Whole.lt H3.out)))
  clear H2 H3
  have H6 : Hid (AlV u2 (Off [w.heap.size]) (.agg (alc b.free b.seed b.fresh (.slice Amb b.macs.length cmb) (.slice Abb b.boxes.length cbb))) b) := Lib.hid (hx.mono (fun q hq h y hy => by have h : q1.heap.size ≤ q := h.resolve_left id; simp at hy; omega))
  have H7 : Hid (Bytes u2 (Off [w.heap.size]) (.slice AX tx.length cX) tx) := Lib.hid (hX.mono fun q _ hq y hy => by have hq : q1.heap.size ≤ q := hq; simp at hy; omega)
  clear hx hX hbu
  have ks0 : ∀ z0 z1 : Array Value, Whole ((u2.alloc (.cells z0 32)).alloc (.cells z1 41)) u2.heap.size 32 z0 := fun _ _ => (Whole.alloc (Whole.here _ _ _) _)
  have ks1 : ∀ z0 z1 : Array Value, Whole (((u2.alloc (.cells z0 32)).alloc (.cells z1 41)).setRow u2.heap.size (alc b.free b.seed b.fresh (.slice Amb b.macs.length cmb) (.slice Abb b.boxes.length cbb))) (u2.heap.size + 1) 41 z1 := fun _ _ => (Whole.setRow_far (Whole.at_ _ _ _ _ (by simp)) (by omega) _)
  go_upto_region 3 with (first
    | (with_reducible refine wpList_store_alg rfl _ _ rfl (g := u2.heap.size) rfl rfl (ks0 _ _) rfl (alc_size _ _ _ _ _) (alc_one _ _ _ _ _ _ _ _ _) ?_)
    | (with_reducible refine wpList_store_blk rfl _ _ rfl (g := (u2.heap.size + 1)) rfl rfl (ks1 _ _) rfl (cnl_size _ _ _) (cnl_one _ _ _ _ _) ?_))
  clear ks0 ks1
  rw [zar_lit]
  rw [zbk_lit]
  obtain ⟨q3, hq⟩ : ∃ q, q = ((((u2.alloc (.cells zar 32)).alloc (.cells zbk 41)).setRow u2.heap.size (alc b.free b.seed b.fresh (.slice Amb b.macs.length cmb) (.slice Abb b.boxes.length cbb))).setRow (u2.heap.size + 1) (cnl 1 kx (.slice AX tx.length cX)).toArray) := ⟨_, rfl⟩
  rw [← hq]
  have hsq3 : u2.heap.size + 2 ≤ q3.heap.size := by rw [hq]; simp
  have H8 : Hid (Below w.heap.size w q3) := Lib.hid (by rw [hq]; exact (below_setRow (below_setRow (Below.trans H4.out (Below.mono (Below.alloc (Below.alloc (Below.refl _ _) (Nat.le_refl _) _) (by simp) _) (Below.size H4.out))) (by omega) _) (by omega) _))
  have H9 : Hid (Whole q3 w.heap.size 36 (cnl 1 (tg1 9#8) (.slice none 0 0)).toArray) := Lib.hid (by rw [hq]; exact (Whole.setRow_far (Whole.setRow_far (Whole.below H5.out (Below.alloc (Below.alloc (Below.refl _ _) (Nat.le_refl _) _) (by simp) _) (Whole.lt H5.out)) (by omega) _) (by omega) _))
  have H10 : Hid (AlV q3 (Off [(u2.heap.size + 1), u2.heap.size, w.heap.size]) (.agg (alc b.free b.seed b.fresh (.slice Amb b.macs.length cmb) (.slice Abb b.boxes.length cbb))) b) := Lib.hid (by rw [hq]; exact (AlV.store (AlV.store (AlV.below (AlV.grow (AlV.grow H6.out (by omega)) (by omega)) (Below.alloc (Below.alloc (Below.refl _ _) (Nat.le_refl _) _) (by simp) _) (Nat.le_refl _)) (by simp) _) (by simp) _))
  have H11 : Hid (Bytes q3 (Off [(u2.heap.size + 1), u2.heap.size, w.heap.size]) (.slice AX tx.length cX) tx) := Lib.hid (by rw [hq]; exact (Bytes.store (Bytes.store (Bytes.below (Bytes.grow (Bytes.grow H7.out (by omega)) (by omega)) (Below.alloc (Below.alloc (Below.refl _ _) (Nat.le_refl _) _) (by simp) _) (Nat.le_refl _)) (by simp) _) (by simp) _))
  clear H4 H5 H6 H7
  have H12 : Hid (ALRow q3 u2.heap.size b.free b.seed b.fresh (.slice Amb b.macs.length cmb) (.slice Abb b.boxes.length cbb)) := Lib.hid (by rw [hq]; exact (Whole.setRow_far (Whole.setRow (Whole.alloc (Whole.here _ _ _) _) _) (by omega) _))
  have H13 : Hid (Whole q3 (u2.heap.size + 1) 41 (cnl 1 kx (.slice AX tx.length cX)).toArray) := Lib.hid (by rw [hq]; exact (Whole.setRow (Whole.setRow_far (Whole.at_ _ _ _ _ (by simp)) (by omega) _) _))
  clear hq
  have hct := (cnl_at H13.out).2.2
  have hcl := topen (vp := .slice none 0 0) (z := 1) H10.out (tg1_len 9#8) H11.out (Tables.below HT.out (Nat.le_refl _) H8.out) (fun h => by rw [HBF.out] at h; cases h)
  rw [HOP.out] at hcl
  unfold ToR at hcl
  dsimp only at hcl
  go_wp2_with (first
    | (with_reducible refine wpList_load_alg rfl _ rfl rfl H12.out (alc_size _ _ _ _ _) ?_)
    | (with_reducible refine wpList_load_con rfl _ rfl rfl H9.out (cnl_size _ _ _) ?_))
  refine hcl.mono ?_
  rintro e u4 ⟨rfl, hbu⟩
  clear hcl hct
  have hsu4 : q3.heap.size ≤ u4.heap.size := hbu.size
  have H14 : Hid (Below w.heap.size w u4) := Lib.hid ((Below.trans H8.out (Below.mono hbu (Below.size H8.out))))
  have H15 : Hid (Whole u4 w.heap.size 36 (cnl 1 (tg1 9#8) (.slice none 0 0)).toArray) := Lib.hid ((Whole.below H9.out hbu (Whole.lt H9.out)))
  have H16 : Hid (AlV u4 (Off [(u2.heap.size + 1), u2.heap.size, w.heap.size]) (.agg (alc b.free b.seed b.fresh (.slice Amb b.macs.length cmb) (.slice Abb b.boxes.length cbb))) b) := Lib.hid ((AlV.below H10.out hbu (Nat.le_refl _)))
  have H17 : Hid (Bytes u4 (Off [(u2.heap.size + 1), u2.heap.size, w.heap.size]) (.slice AX tx.length cX) tx) := Lib.hid ((Bytes.below H11.out hbu (Nat.le_refl _)))
  have H18 : Hid (ALRow u4 u2.heap.size b.free b.seed b.fresh (.slice Amb b.macs.length cmb) (.slice Abb b.boxes.length cbb)) := Lib.hid ((Whole.below H12.out hbu (Whole.lt H12.out)))
  have H19 : Hid (Whole u4 (u2.heap.size + 1) 41 (cnl 1 kx (.slice AX tx.length cX)).toArray) := Lib.hid ((Whole.below H13.out hbu (Whole.lt H13.out)))
  clear H8 H9 H10 H11 H12 H13
  clear hbu
  have ks0 : ∀ z0 z1 : Array Value, Whole ((u4.alloc (.cells z0 28)).alloc (.cells z1 24)) u4.heap.size 28 z0 := fun _ _ => (Whole.alloc (Whole.here _ _ _) _)
  have ks1 : ∀ z0 z1 : Array Value, Whole (((u4.alloc (.cells z0 28)).alloc (.cells z1 24)).setRow u4.heap.size (kx.map byt).toArray) (u4.heap.size + 1) 24 z1 := fun _ _ => (Whole.setRow_far (Whole.at_ _ _ _ _ (by simp)) (by omega) _)
  go_upto_region 4 with (first
    | (with_reducible refine wpList_store_tag rfl _ _ rfl (g := u4.heap.size) rfl rfl (ks0 _ _) rfl (tag_size hlkx) (tag_one _) ?_)
    | (with_reducible refine wpList_store_tms rfl _ _ rfl (g := (u4.heap.size + 1)) rfl rfl (ks1 _ _) rfl ?_))
  clear ks0 ks1
  rw [ztm_lit]
  rw [ztr_lit]
  obtain ⟨q5, hq⟩ : ∃ q, q = ((((u4.alloc (.cells ztr 28)).alloc (.cells ztm 24)).setRow u4.heap.size (kx.map byt).toArray).setRow (u4.heap.size + 1) #[.int .i64 18, .int .i64 150]) := ⟨_, rfl⟩
  rw [← hq]
  have hsq5 : u4.heap.size + 2 ≤ q5.heap.size := by rw [hq]; simp
  have H20 : Hid (Below w.heap.size w q5) := Lib.hid (by rw [hq]; exact (below_setRow (below_setRow (Below.trans H14.out (Below.mono (Below.alloc (Below.alloc (Below.refl _ _) (Nat.le_refl _) _) (by simp) _) (Below.size H14.out))) (by omega) _) (by omega) _))
  have H21 : Hid (Whole q5 w.heap.size 36 (cnl 1 (tg1 9#8) (.slice none 0 0)).toArray) := Lib.hid (by rw [hq]; exact (Whole.setRow_far (Whole.setRow_far (Whole.below H15.out (Below.alloc (Below.alloc (Below.refl _ _) (Nat.le_refl _) _) (by simp) _) (Whole.lt H15.out)) (by omega) _) (by omega) _))
  have H22 : Hid (AlV q5 (Off [(u4.heap.size + 1), u4.heap.size, (u2.heap.size + 1), u2.heap.size, w.heap.size]) (.agg (alc b.free b.seed b.fresh (.slice Amb b.macs.length cmb) (.slice Abb b.boxes.length cbb))) b) := Lib.hid (by rw [hq]; exact (AlV.store (AlV.store (AlV.below (AlV.grow (AlV.grow H16.out (by omega)) (by omega)) (Below.alloc (Below.alloc (Below.refl _ _) (Nat.le_refl _) _) (by simp) _) (Nat.le_refl _)) (by simp) _) (by simp) _))
  have H23 : Hid (Bytes q5 (Off [(u4.heap.size + 1), u4.heap.size, (u2.heap.size + 1), u2.heap.size, w.heap.size]) (.slice AX tx.length cX) tx) := Lib.hid (by rw [hq]; exact (Bytes.store (Bytes.store (Bytes.below (Bytes.grow (Bytes.grow H17.out (by omega)) (by omega)) (Below.alloc (Below.alloc (Below.refl _ _) (Nat.le_refl _) _) (by simp) _) (Nat.le_refl _)) (by simp) _) (by simp) _))
  have H24 : Hid (ALRow q5 u2.heap.size b.free b.seed b.fresh (.slice Amb b.macs.length cmb) (.slice Abb b.boxes.length cbb)) := Lib.hid (by rw [hq]; exact (Whole.setRow_far (Whole.setRow_far (Whole.below H18.out (Below.alloc (Below.alloc (Below.refl _ _) (Nat.le_refl _) _) (by simp) _) (Whole.lt H18.out)) (by omega) _) (by omega) _))
  have H25 : Hid (Whole q5 (u2.heap.size + 1) 41 (cnl 1 kx (.slice AX tx.length cX)).toArray) := Lib.hid (by rw [hq]; exact (Whole.setRow_far (Whole.setRow_far (Whole.below H19.out (Below.alloc (Below.alloc (Below.refl _ _) (Nat.le_refl _) _) (by simp) _) (Whole.lt H19.out)) (by omega) _) (by omega) _))
  clear H14 H15 H16 H17 H18 H19
  have H26 : Hid (TGRow q5 u4.heap.size kx) := Lib.hid (by rw [hq]; exact (Whole.setRow_far (Whole.setRow (Whole.alloc (Whole.here _ _ _) _) _) (by omega) _))
  have H27 : Hid (Whole q5 (u4.heap.size + 1) 24 #[.int .i64 18, .int .i64 150]) := Lib.hid (by rw [hq]; exact (Whole.setRow (Whole.setRow_far (Whole.at_ _ _ _ _ (by simp)) (by omega) _) _))
  clear hq
  obtain ⟨R, hR⟩ : ∃ R, R = pOpenT b (tg1 8#8) tx := ⟨_, rfl⟩
  have hlko := pOpenT_len b (tg1 8#8) tx
  have hct := (cnl_at H25.out).2.2
  have hcl := topen (vp := .slice none 0 0) (z := 1) H22.out (tg1_len 8#8) H23.out (Tables.below HT.out (Nat.le_refl _) H20.out) (fun h => by rw [HBF.out] at h; cases h)
  rw [← hR] at hcl hlko
  obtain ⟨ko, ⟨lw, hw⟩, eo⟩ := R
  have h14 : eo = 14 := congrArg (fun r : List B8 × (Int × Int) × Int => r.2.2) (hR.trans HNO.out)
  subst h14
  clear hR HNO
  unfold ToR at hcl
  dsimp only at hcl
  go_wp2_with (first
    | (with_reducible refine wpList_load_alg rfl _ rfl rfl H24.out (alc_size _ _ _ _ _) ?_)
    | (with_reducible refine wpList_build_tag1 rfl _ rfl 8#8 byt8 rfl ?_)
    | (with_reducible refine wpList_build_con2 rfl _ _ rfl (tg1_len 8#8) rfl rfl ?_))
  refine hcl.mono ?_
  rintro e u6 ⟨rfl, hbu⟩
  clear hcl hct
  have hsu6 : q5.heap.size ≤ u6.heap.size := hbu.size
  have H28 : Hid (Below w.heap.size w u6) := Lib.hid ((Below.trans H20.out (Below.mono hbu (Below.size H20.out))))
  have H29 : Hid (Whole u6 w.heap.size 36 (cnl 1 (tg1 9#8) (.slice none 0 0)).toArray) := Lib.hid ((Whole.below H21.out hbu (Whole.lt H21.out)))
  have H30 : Hid (AlV u6 (Off [(u4.heap.size + 1), u4.heap.size, (u2.heap.size + 1), u2.heap.size, w.heap.size]) (.agg (alc b.free b.seed b.fresh (.slice Amb b.macs.length cmb) (.slice Abb b.boxes.length cbb))) b) := Lib.hid ((AlV.below H22.out hbu (Nat.le_refl _)))
  have H31 : Hid (Bytes u6 (Off [(u4.heap.size + 1), u4.heap.size, (u2.heap.size + 1), u2.heap.size, w.heap.size]) (.slice AX tx.length cX) tx) := Lib.hid ((Bytes.below H23.out hbu (Nat.le_refl _)))
  have H32 : Hid (ALRow u6 u2.heap.size b.free b.seed b.fresh (.slice Amb b.macs.length cmb) (.slice Abb b.boxes.length cbb)) := Lib.hid ((Whole.below H24.out hbu (Whole.lt H24.out)))
  have H33 : Hid (Whole u6 (u2.heap.size + 1) 41 (cnl 1 kx (.slice AX tx.length cX)).toArray) := Lib.hid ((Whole.below H25.out hbu (Whole.lt H25.out)))
  have H34 : Hid (TGRow u6 u4.heap.size kx) := Lib.hid ((Whole.below H26.out hbu (Whole.lt H26.out)))
  have H35 : Hid (Whole u6 (u4.heap.size + 1) 24 #[.int .i64 18, .int .i64 150]) := Lib.hid ((Whole.below H27.out hbu (Whole.lt H27.out)))
  clear H20 H21 H22 H23 H24 H25 H26 H27
  clear hbu
  have ks0 : ∀ z0 z1 : Array Value, Whole ((u6.alloc (.cells z0 28)).alloc (.cells z1 24)) u6.heap.size 28 z0 := fun _ _ => (Whole.alloc (Whole.here _ _ _) _)
  have ks1 : ∀ z0 z1 : Array Value, Whole (((u6.alloc (.cells z0 28)).alloc (.cells z1 24)).setRow u6.heap.size (ko.map byt).toArray) (u6.heap.size + 1) 24 z1 := fun _ _ => (Whole.setRow_far (Whole.at_ _ _ _ _ (by simp)) (by omega) _)
  go_upto_region 5 with (first
    | (with_reducible refine wpList_store_tag rfl _ _ rfl (g := u6.heap.size) rfl rfl (ks0 _ _) rfl (tag_size hlko) (tag_one _) ?_)
    | (with_reducible refine wpList_store_tms rfl _ _ rfl (g := (u6.heap.size + 1)) rfl rfl (ks1 _ _) rfl ?_))
  clear ks0 ks1
  rw [ztm_lit]
  rw [ztr_lit]
  obtain ⟨q7, hq⟩ : ∃ q, q = ((((u6.alloc (.cells ztr 28)).alloc (.cells ztm 24)).setRow u6.heap.size (ko.map byt).toArray).setRow (u6.heap.size + 1) #[.int .i64 lw, .int .i64 hw]) := ⟨_, rfl⟩
  rw [← hq]
  have hsq7 : u6.heap.size + 2 ≤ q7.heap.size := by rw [hq]; simp
  have H36 : Hid (Below w.heap.size w q7) := Lib.hid (by rw [hq]; exact (below_setRow (below_setRow (Below.trans H28.out (Below.mono (Below.alloc (Below.alloc (Below.refl _ _) (Nat.le_refl _) _) (by simp) _) (Below.size H28.out))) (by omega) _) (by omega) _))
  have H37 : Hid (Whole q7 w.heap.size 36 (cnl 1 (tg1 9#8) (.slice none 0 0)).toArray) := Lib.hid (by rw [hq]; exact (Whole.setRow_far (Whole.setRow_far (Whole.below H29.out (Below.alloc (Below.alloc (Below.refl _ _) (Nat.le_refl _) _) (by simp) _) (Whole.lt H29.out)) (by omega) _) (by omega) _))
  have H38 : Hid (AlV q7 (Off [(u6.heap.size + 1), u6.heap.size, (u4.heap.size + 1), u4.heap.size, (u2.heap.size + 1), u2.heap.size, w.heap.size]) (.agg (alc b.free b.seed b.fresh (.slice Amb b.macs.length cmb) (.slice Abb b.boxes.length cbb))) b) := Lib.hid (by rw [hq]; exact (AlV.store (AlV.store (AlV.below (AlV.grow (AlV.grow H30.out (by omega)) (by omega)) (Below.alloc (Below.alloc (Below.refl _ _) (Nat.le_refl _) _) (by simp) _) (Nat.le_refl _)) (by simp) _) (by simp) _))
  have H39 : Hid (Bytes q7 (Off [(u6.heap.size + 1), u6.heap.size, (u4.heap.size + 1), u4.heap.size, (u2.heap.size + 1), u2.heap.size, w.heap.size]) (.slice AX tx.length cX) tx) := Lib.hid (by rw [hq]; exact (Bytes.store (Bytes.store (Bytes.below (Bytes.grow (Bytes.grow H31.out (by omega)) (by omega)) (Below.alloc (Below.alloc (Below.refl _ _) (Nat.le_refl _) _) (by simp) _) (Nat.le_refl _)) (by simp) _) (by simp) _))
  have H40 : Hid (ALRow q7 u2.heap.size b.free b.seed b.fresh (.slice Amb b.macs.length cmb) (.slice Abb b.boxes.length cbb)) := Lib.hid (by rw [hq]; exact (Whole.setRow_far (Whole.setRow_far (Whole.below H32.out (Below.alloc (Below.alloc (Below.refl _ _) (Nat.le_refl _) _) (by simp) _) (Whole.lt H32.out)) (by omega) _) (by omega) _))
  have H41 : Hid (Whole q7 (u2.heap.size + 1) 41 (cnl 1 kx (.slice AX tx.length cX)).toArray) := Lib.hid (by rw [hq]; exact (Whole.setRow_far (Whole.setRow_far (Whole.below H33.out (Below.alloc (Below.alloc (Below.refl _ _) (Nat.le_refl _) _) (by simp) _) (Whole.lt H33.out)) (by omega) _) (by omega) _))
  have H42 : Hid (TGRow q7 u4.heap.size kx) := Lib.hid (by rw [hq]; exact (Whole.setRow_far (Whole.setRow_far (Whole.below H34.out (Below.alloc (Below.alloc (Below.refl _ _) (Nat.le_refl _) _) (by simp) _) (Whole.lt H34.out)) (by omega) _) (by omega) _))
  have H43 : Hid (Whole q7 (u4.heap.size + 1) 24 #[.int .i64 18, .int .i64 150]) := Lib.hid (by rw [hq]; exact (Whole.setRow_far (Whole.setRow_far (Whole.below H35.out (Below.alloc (Below.alloc (Below.refl _ _) (Nat.le_refl _) _) (by simp) _) (Whole.lt H35.out)) (by omega) _) (by omega) _))
  clear H28 H29 H30 H31 H32 H33 H34 H35
  have H44 : Hid (TGRow q7 u6.heap.size ko) := Lib.hid (by rw [hq]; exact (Whole.setRow_far (Whole.setRow (Whole.alloc (Whole.here _ _ _) _) _) (by omega) _))
  have H45 : Hid (Whole q7 (u6.heap.size + 1) 24 #[.int .i64 lw, .int .i64 hw]) := Lib.hid (by rw [hq]; exact (Whole.setRow (Whole.setRow_far (Whole.at_ _ _ _ _ (by simp)) (by omega) _) _))
  clear hq
  have hcx := cnl_at H41.out
  rw [p32_eq hlkx] at hcx
  have htT := Whole.cell H43.out
  have t0 := Whole.cell_at H43.out (j := 0) rfl
  have hsk : (Tryd.prog.info? 28).map (·.size) = some (kx.map byt).length := by rw [List.length_map, hlkx]; exact tagSize
  have kq := fun W => eql_tag hlkx hlkx (decide_eq_true rfl) W
  clear htT
  go_wp2_with (first
    | (with_reducible refine wpList_load_wanted_at (by with_unfolding_all rfl) 28 _ rfl u4.heap.size 0 rfl (kx.map byt) _ (TGRow.range H42.out) Tryd.underlying28 rfl hsk ?_)
    | (with_reducible refine wpList_load_wanted_at (by with_unfolding_all rfl) 28 _ rfl (u2.heap.size + 1) 1 rfl (kx.map byt) _ hcx.2.1 Tryd.underlying28 rfl hsk ?_))
  go_ret
  exact ⟨rfl, (H36.out)⟩
end Go.Proofs.YteekdhcffiaaaaaDoor
namespace Go.Proofs.YteekdhcffiaaaaaDoor
open Go Go.RowKit Sh Leaf

theorem cnl_party {w : World} {g : Nat} {z x : Int} {K : List B8} {vp : Value} (h : Whole w g 36 (cnl z K vp).toArray) : Whole (w.setCell ⟨g, 0, none⟩ (.int .i64 x)) g 36 (cnl x K vp).toArray := by
  have h1 := Whole.set h 0 (.int .i64 x)
  rw [List.setIfInBounds_toArray] at h1
  exact h1
theorem DeckIn.keepy {Q : Nat → Prop} {g : Nat} {w w' : World} (h : DeckIn Q g w) (hg : w'.heap[g]? = w.heap[g]?) : DeckIn Q g w' := by
  obtain ⟨A, n, c, h1, h2⟩ := h
  exact ⟨A, n, c, (World.cell_of_block hg).trans h1, h2⟩
theorem Deck.keepy {g : Nat} {w w' : World} (h : Deck g w) (hg : w'.heap[g]? = w.heap[g]?) (hb : ∀ b, b < g → w'.heap[b]? = w.heap[b]?) : Deck g w' := by
  obtain ⟨A, c, k, l, ⟨i1, i2, i3, i4, i5⟩, hD, hk⟩ := h
  refine ⟨A, c, k, l, ⟨i1, i2, i3, i4, fun hl => ?_⟩, hg.trans hD, hk⟩
  obtain ⟨x, o, hA, hx, hs, hc⟩ := i5 hl
  exact ⟨x, o, hA, hx, by have h1 := hb x hx; obtain ⟨y, hy⟩ : ∃ y, w.heap[x]? = some y := ⟨_, Array.getElem?_eq_getElem hs⟩; rw [hy] at h1; exact (Array.getElem?_eq_some_iff.1 h1).1, fun j z hj => (World.cell_of_block (hb x hx)).trans (hc j z hj)⟩
theorem tvd_ {D : Bool} {lo hi : Int} (h : D = decide (tmok lo hi)) (w : World) : Calls Tryd.prog 13 #[.agg #[.int .i64 lo, .int .i64 hi]] w fun e w' => e = .returned (.bool D) ∧ Below w.heap.size w w' := by rw [h]; exact tvalid w lo hi
theorem rvd_ {D : Bool} {lo hi : Int} (h : D = decide (tmok lo hi)) (w : World) : Calls Tryd.prog 14 #[.agg #[.int .i64 lo, .int .i64 hi]] w fun e w' => e = .returned (.bool D) ∧ Below w.heap.size w w' := by rw [h]; exact rvalid_ w lo hi
theorem bxs_small {w : World} {Q : Nat → Prop} {v : Value} {a : Alg} (h : AlV w Q v a) : ∀ b ∈ a.boxes, b.box.length ≤ 5000 := by
  obtain ⟨Am, cm, Ab, cb, -, -, hB, -⟩ := h
  intro b hb
  obtain ⟨j, hj, hje⟩ := List.getElem_of_mem hb
  obtain ⟨_, _, _, _, _, _, -, -, -, -, -, -, -, -, -, -, h9⟩ := hB.get j b (by rw [List.getElem?_eq_getElem hj, hje])
  exact h9
theorem blank_len {a : Alg} {z lo hi : Int} {K : List B8} (hB : ∀ b ∈ a.boxes, b.box.length ≤ 5000) : (pBlank a z K lo hi).2.1.ticket.length ≤ 1000000 := by
  unfold pBlank
  split
  · split
    · simp
    · split
      · simp
      · show (aSeal (aKey a).1 K (aKey a).1.fresh (tjoin (aKey a).2.1 lo hi)).2.1.length ≤ 1000000
        have hkb : ∀ b ∈ (aKey a).1.boxes, b.box.length ≤ 5000 := by
          unfold aKey
          split
          · intro b hb; cases hb
          · exact hB
        unfold aSeal
        split
        · simp
        · split
          · simp
          · rename_i hm
            split
            · rename_i t ht
              obtain ⟨e, he, -, -, -, h4⟩ := fndb_mem ht
              dsimp only
              rw [← h4]
              have := hkb e he
              omega
            · split
              · simp
              · dsimp only
                rw [boxb_length]
                omega
  · simp
set_option linter.unusedSimpArgs false in
set_option linter.unusedVariables false in
set_option maxRecDepth 100000 in
set_option maxHeartbeats 8000000 in
theorem tblank_law (A0 : Option Addr) (l0 : List Int) (c0 : Nat) (lo0 hi0 : Int) (party : Int) (w : World) (hT : Tables w) (hI0 : Ints w (fun b => b < w.heap.size) A0 c0 l0) (hi1 : i64q lo0 ∧ i64q hi0) (hi2 : i64q party) :
    Calls Tryd.prog 3 #[.slice A0 l0.length c0, .agg #[.int .i64 lo0, .int .i64 hi0], .int .i64 party] w fun e w' => e = .returned (.bool true) ∧ Below w.heap.size w w' := by
  have HT := Lib.hid hT
  clear hT
  have H1 : Hid (Below w.heap.size w w) := Lib.hid (Below.refl _ _)
  obtain ⟨n0, hn0⟩ : ∃ n, n = l0.length := ⟨_, rfl⟩
  rw [← hn0]
  have HI0 := Lib.hid hI0
  have HN0 := Lib.hid hn0
  clear hI0 hn0
  go_enter Tryd.func3, Tryd.ntmps3
  obtain ⟨p, hp⟩ : ∃ p, p = w.alloc (.cells #[.int .i64 lo0, .int .i64 hi0] 24) := ⟨_, rfl⟩
  have hr : Whole p w.heap.size 24 #[.int .i64 lo0, .int .i64 hi0] := by rw [hp]; exact Whole.here _ _ _
  have hbp : Below w.heap.size w p := by rw [hp]; exact (Below.refl _ _).alloc (Nat.le_refl _) _
  have hsp : w.heap.size < p.heap.size := hr.lt
  have HP := Lib.hid hp
  clear hp
  go_upto_region 1 with fail
  rw [← HP.out]
  clear HP
  have H2 : Hid (Below w.heap.size w p) := Lib.hid ((Below.trans H1.out (Below.mono hbp (Below.size H1.out))))
  clear H1
  have H3 : Hid (Whole p w.heap.size 24 #[.int .i64 lo0, .int .i64 hi0]) := Lib.hid (hr)
  clear hr hbp
  have hcl := dnew_in A0 _ c0 l0 p HN0.out ((HI0.out.below H2.out).mono (Below.size H2.out)) (fun b => b < w.heap.size) (fun h => by obtain ⟨b, o, e, hb, -⟩ := HI0.out.2.2.2.2 (by have := HN0.out; omega); exact ⟨b, o, e, hb⟩)
  go_wp2_with fail
  refine hcl.mono ?_
  rintro e d0 ⟨rfl, hdk, hdi, hbu⟩
  clear hcl
  have hsd0 : p.heap.size < d0.heap.size := hdk.lt
  have H4 : Hid (Below w.heap.size w d0) := Lib.hid ((Below.trans H2.out (Below.mono hbu (Below.size H2.out))))
  have H5 : Hid (Whole d0 w.heap.size 24 #[.int .i64 lo0, .int .i64 hi0]) := Lib.hid ((Whole.below H3.out hbu (Whole.lt H3.out)))
  clear H2 H3
  have H6 : Hid (Deck p.heap.size d0) := Lib.hid (hdk)
  have H7 : Hid (DeckIn (fun b => b < w.heap.size) p.heap.size d0) := Lib.hid (hdi)
  clear hdk hdi hbu HI0 HN0
  have hcl := dalgs p.heap.size d0 H6.out
  go_wp2_with fail
  refine hcl.mono ?_
  rintro e u1 ⟨⟨v, a, rfl, hv, h4a, hb4a, hf4a, hgd⟩, ht⟩
  clear hcl
  have HGa := Lib.hid hgd
  obtain ⟨Ama, cma, Aba, cba, rfl, hM, hBx, hA⟩ := hv
  have hsla : a.seed.length = 32 := hA.seed
  have hfra : 0 ≤ a.fresh := hA.lo
  have hsu1 : d0.heap.size ≤ u1.heap.size := Turn.size ht
  have H8 : Hid (Below w.heap.size w u1) := Lib.hid ((base_turn H4.out ht (by omega)))
  have H9 : Hid (Whole u1 w.heap.size 24 #[.int .i64 lo0, .int .i64 hi0]) := Lib.hid (((ht).2.2.oth _ _ _ (by omega) H5.out))
  have H10 : Hid (Deck p.heap.size u1) := Lib.hid ((ht).1)
  have H11 : Hid (DeckIn (fun b => b < w.heap.size) p.heap.size u1) := Lib.hid ((DeckIn.oth H7.out ht.2.2))
  clear H4 H5 H6 H7
  have H12 : Hid (AlV u1 (Off [p.heap.size, w.heap.size]) (.agg (alc a.free a.seed a.fresh (.slice Ama a.macs.length cma) (.slice Aba a.boxes.length cba))) a) := Lib.hid (AlV.mono (Q' := (Off [p.heap.size, w.heap.size])) ⟨Ama, cma, Aba, cba, rfl, hM, hBx, hA⟩ (fun b _ h => by have h1 := h.1; have h2 := h.2; intro y hy; simp at hy; omega))
  clear hM hBx hA ht hgd
  have ks0 : ∀ z0 : Array Value, Whole (u1.alloc (.cells z0 32)) u1.heap.size 32 z0 := fun _ => (Whole.here _ _ _)
  go_upto_region 3 with (with_reducible refine wpList_store_alg rfl _ _ rfl (g := u1.heap.size) rfl rfl (ks0 _) rfl (alc_size _ _ _ _ _) (alc_one _ _ _ _ _ _ _ _ _) ?_)
  clear ks0
  rw [zar_lit]
  obtain ⟨q2, hq⟩ : ∃ q, q = ((u1.alloc (.cells zar 32)).setRow u1.heap.size (alc a.free a.seed a.fresh (.slice Ama a.macs.length cma) (.slice Aba a.boxes.length cba))) := ⟨_, rfl⟩
  rw [← hq]
  have hsq2 : u1.heap.size + 1 ≤ q2.heap.size := by rw [hq]; simp
  have H13 : Hid (Below w.heap.size w q2) := Lib.hid (by rw [hq]; exact (below_setRow (Below.trans H8.out (Below.mono (Below.alloc (Below.refl _ _) (Nat.le_refl _) _) (Below.size H8.out))) (by omega) _))
  have H14 : Hid (Whole q2 w.heap.size 24 #[.int .i64 lo0, .int .i64 hi0]) := Lib.hid (by rw [hq]; exact (Whole.setRow_far (Whole.below H9.out (Below.alloc (Below.refl _ _) (Nat.le_refl _) _) (Whole.lt H9.out)) (by omega) _))
  have H15 : Hid (Deck p.heap.size q2) := Lib.hid (by rw [hq]; exact (Deck.store (Deck.below H10.out (Below.alloc (Below.refl _ _) (Nat.le_refl _) _) (Deck.lt H10.out)) (by omega) _))
  have H16 : Hid (DeckIn (fun b => b < w.heap.size) p.heap.size q2) := Lib.hid (by rw [hq]; exact (DeckIn.setRow (DeckIn.below H11.out (Below.alloc (Below.refl _ _) (Nat.le_refl _) _) (by omega)) (by omega) _))
  have H17 : Hid (AlV q2 (Off [u1.heap.size, p.heap.size, w.heap.size]) (.agg (alc a.free a.seed a.fresh (.slice Ama a.macs.length cma) (.slice Aba a.boxes.length cba))) a) := Lib.hid (by rw [hq]; exact (AlV.store (AlV.below (AlV.grow H12.out (by omega)) (Below.alloc (Below.refl _ _) (Nat.le_refl _) _) (Nat.le_refl _)) (by simp) _))
  clear H8 H9 H10 H11 H12
  have H18 : Hid (ALRow q2 u1.heap.size a.free a.seed a.fresh (.slice Ama a.macs.length cma) (.slice Aba a.boxes.length cba)) := Lib.hid (by rw [hq]; exact (Whole.setRow (Whole.here _ _ _) _))
  clear hq
  have hcl := dtag p.heap.size q2 H15.out
  go_wp2_with fail
  refine hcl.mono ?_
  rintro e u3 ⟨⟨K, hlK, rfl⟩, ht⟩
  clear hcl
  have hsu3 : q2.heap.size ≤ u3.heap.size := Turn.size ht
  have H19 : Hid (Below w.heap.size w u3) := Lib.hid ((base_turn H13.out ht (by omega)))
  have H20 : Hid (Whole u3 w.heap.size 24 #[.int .i64 lo0, .int .i64 hi0]) := Lib.hid (((ht).2.2.oth _ _ _ (by omega) H14.out))
  have H21 : Hid (Deck p.heap.size u3) := Lib.hid ((ht).1)
  have H22 : Hid (DeckIn (fun b => b < w.heap.size) p.heap.size u3) := Lib.hid ((DeckIn.oth H16.out ht.2.2))
  have H23 : Hid (AlV u3 (Off [u1.heap.size, p.heap.size, w.heap.size]) (.agg (alc a.free a.seed a.fresh (.slice Ama a.macs.length cma) (.slice Aba a.boxes.length cba))) a) := Lib.hid ((AlV.turn H17.out ht (by simp) (Turn.size ht)))
  have H24 : Hid (ALRow u3 u1.heap.size a.free a.seed a.fresh (.slice Ama a.macs.length cma) (.slice Aba a.boxes.length cba)) := Lib.hid (((ht).2.2.oth _ _ _ (by omega) H18.out))
  clear H13 H14 H15 H16 H17 H18
  clear ht
  have hcl := dcon hlK p.heap.size u3 H21.out
  go_wp2_with fail
  refine hcl.mono ?_
  rintro e u4 ⟨⟨z1, Ap, np, cp, hz0, hz7, rfl⟩, ht⟩
  clear hcl
  have hsu4 : u3.heap.size ≤ u4.heap.size := Turn.size ht
  have H25 : Hid (Below w.heap.size w u4) := Lib.hid ((base_turn H19.out ht (by omega)))
  have H26 : Hid (Whole u4 w.heap.size 24 #[.int .i64 lo0, .int .i64 hi0]) := Lib.hid (((ht).2.2.oth _ _ _ (by omega) H20.out))
  have H27 : Hid (Deck p.heap.size u4) := Lib.hid ((ht).1)
  have H28 : Hid (DeckIn (fun b => b < w.heap.size) p.heap.size u4) := Lib.hid ((DeckIn.oth H22.out ht.2.2))
  have H29 : Hid (AlV u4 (Off [u1.heap.size, p.heap.size, w.heap.size]) (.agg (alc a.free a.seed a.fresh (.slice Ama a.macs.length cma) (.slice Aba a.boxes.length cba))) a) := Lib.hid ((AlV.turn H23.out ht (by simp) (Turn.size ht)))
  have H30 : Hid (ALRow u4 u1.heap.size a.free a.seed a.fresh (.slice Ama a.macs.length cma) (.slice Aba a.boxes.length cba)) := Lib.hid (((ht).2.2.oth _ _ _ (by omega) H24.out))
  clear H19 H20 H21 H22 H23 H24
  clear ht hz0 hz7
  have ks0 : ∀ z0 : Array Value, Whole (u4.alloc (.cells z0 36)) u4.heap.size 36 z0 := fun _ => (Whole.here _ _ _)
  go_upto_region 4 with (with_reducible refine wpList_store_con rfl _ _ rfl (g := u4.heap.size) rfl rfl (ks0 _) rfl (cnl_size _ _ _) (cnl_one _ _ _ _ _) ?_)
  clear ks0
  rw [zbk_lit]
  obtain ⟨q5, hq⟩ : ∃ q, q = ((u4.alloc (.cells zbk 36)).setRow u4.heap.size (cnl z1 K (.slice Ap np cp)).toArray) := ⟨_, rfl⟩
  rw [← hq]
  have hsq5 : u4.heap.size + 1 ≤ q5.heap.size := by rw [hq]; simp
  have H31 : Hid (Below w.heap.size w q5) := Lib.hid (by rw [hq]; exact (below_setRow (Below.trans H25.out (Below.mono (Below.alloc (Below.refl _ _) (Nat.le_refl _) _) (Below.size H25.out))) (by omega) _))
  have H32 : Hid (Whole q5 w.heap.size 24 #[.int .i64 lo0, .int .i64 hi0]) := Lib.hid (by rw [hq]; exact (Whole.setRow_far (Whole.below H26.out (Below.alloc (Below.refl _ _) (Nat.le_refl _) _) (Whole.lt H26.out)) (by omega) _))
  have H33 : Hid (Deck p.heap.size q5) := Lib.hid (by rw [hq]; exact (Deck.store (Deck.below H27.out (Below.alloc (Below.refl _ _) (Nat.le_refl _) _) (Deck.lt H27.out)) (by omega) _))
  have H34 : Hid (DeckIn (fun b => b < w.heap.size) p.heap.size q5) := Lib.hid (by rw [hq]; exact (DeckIn.setRow (DeckIn.below H28.out (Below.alloc (Below.refl _ _) (Nat.le_refl _) _) (by omega)) (by omega) _))
  have H35 : Hid (AlV q5 (Off [u4.heap.size, u1.heap.size, p.heap.size, w.heap.size]) (.agg (alc a.free a.seed a.fresh (.slice Ama a.macs.length cma) (.slice Aba a.boxes.length cba))) a) := Lib.hid (by rw [hq]; exact (AlV.store (AlV.below (AlV.grow H29.out (by omega)) (Below.alloc (Below.refl _ _) (Nat.le_refl _) _) (Nat.le_refl _)) (by simp) _))
  have H36 : Hid (ALRow q5 u1.heap.size a.free a.seed a.fresh (.slice Ama a.macs.length cma) (.slice Aba a.boxes.length cba)) := Lib.hid (by rw [hq]; exact (Whole.setRow_far (Whole.below H30.out (Below.alloc (Below.refl _ _) (Nat.le_refl _) _) (Whole.lt H30.out)) (by omega) _))
  clear H25 H26 H27 H28 H29 H30
  have H37 : Hid (Whole q5 u4.heap.size 36 (cnl z1 K (.slice Ap np cp)).toArray) := Lib.hid (by rw [hq]; exact (Whole.setRow (Whole.here _ _ _) _))
  clear hq
  go_wp2_with fail
  obtain ⟨gd, hgd⟩ : ∃ x, x = p.heap.size := ⟨_, rfl⟩
  obtain ⟨gA, hgA⟩ : ∃ x, x = u1.heap.size := ⟨_, rfl⟩
  obtain ⟨gC, hgC⟩ : ∃ x, x = u4.heap.size := ⟨_, rfl⟩
  have hgo : w.heap.size < gd ∧ gd < gA ∧ gA < gC := by omega
  rw [← hgd, ← hgA, ← hgC] at H35
  rw [← hgd] at H33
  rw [← hgd] at H34
  rw [← hgA] at H36
  rw [← hgC] at H37
  rw [← hgd, ← hgA, ← hgC]
  clear hgd hgA hgC
  have hA4 : a.boxes.length ≤ 4 := hb4a
  have hA5 : a.fresh ≤ 4 := hf4a
  have HBX : Hid (∀ b ∈ a.boxes, b.box.length ≤ 5000) := Lib.hid (bxs_small H35.out)
  go_loopw [10] (fun v10 wr => ∃ (z lo hi : Int) (i : Nat), v10 = .int .i64 i ∧ i ≤ 2 ∧ Whole wr w.heap.size 24 #[.int .i64 lo, .int .i64 hi] ∧ ALRow wr gA a.free a.seed a.fresh (.slice Ama a.macs.length cma) (.slice Aba a.boxes.length cba) ∧ Whole wr gC 36 (cnl z K (.slice Ap np cp)).toArray ∧ AlV wr (Off [gC, gA, gd, w.heap.size]) (.agg (alc a.free a.seed a.fresh (.slice Ama a.macs.length cma) (.slice Aba a.boxes.length cba))) a ∧ Deck gd wr ∧ DeckIn (fun b => b < w.heap.size) gd wr ∧ Below w.heap.size w wr) (fun v _ => 2 - (intOf v).toNat)
  case atStart => exact ⟨z1, lo0, hi0, 0, rfl, by omega, H32.out, H36.out, H37.out, H35.out, H33.out, H34.out, H31.out⟩
  case round =>
    obtain ⟨z, lo, hi, i, rfl, hi2, htm, har, hcn, hav, hdk, hdi, hbw⟩ := hrel
    clear H31 H32 H33 H34 H36 H35 H37
    have H38 : Hid (Below w.heap.size w wr) := Lib.hid (hbw)
    have H39 : Hid (Whole wr w.heap.size 24 #[.int .i64 lo, .int .i64 hi]) := Lib.hid (htm)
    have H40 : Hid (ALRow wr gA a.free a.seed a.fresh (.slice Ama a.macs.length cma) (.slice Aba a.boxes.length cba)) := Lib.hid (har)
    have H41 : Hid (Whole wr gC 36 (cnl z K (.slice Ap np cp)).toArray) := Lib.hid (hcn)
    have H42 : Hid (AlV wr (Off [gC, gA, gd, w.heap.size]) (.agg (alc a.free a.seed a.fresh (.slice Ama a.macs.length cma) (.slice Aba a.boxes.length cba))) a) := Lib.hid (hav)
    have H43 : Hid (Deck gd wr) := Lib.hid (hdk)
    have H44 : Hid (DeckIn (fun b => b < w.heap.size) gd wr) := Lib.hid (hdi)
    have hsA : gC < wr.heap.size := hcn.lt
    clear hbw htm har hcn hav hdk hdi
    by_cases hlt : i < 2
    case neg =>
      obtain rfl : i = 2 := by omega
      clear hlt hi2
      have hcl := tawk wr (Tables.below HT.out (Nat.le_refl _) H38.out)
      go_wp2_with fail
      refine hcl.mono ?_
      rintro e w9 ⟨rfl, hb9⟩
      clear hcl
      have HG := Lib.hid (Below.trans H38.out (Below.mono hb9 (Below.size H38.out)))
      clear hb9
      go_wp2
      go_ret
      exact ⟨rfl, HG.out⟩
    have i0 : (0 : Int) ≤ (i : Int) := by omega
    have i2 : (i : Int) < 2 := by omega
    obtain ⟨R, hR⟩ : ∃ R, R = pBlank a z K lo hi := ⟨_, rfl⟩
    have htl : R.2.1.ticket.length ≤ 1000000 := by rw [hR]; exact blank_len HBX.out
    have HTL := Lib.hid htl
    have HRE := Lib.hid hR
    have hcl := tblank (vp := (.slice Ap np cp)) z lo hi H42.out (by omega) hlK (Tables.below HT.out (Nat.le_refl _) H38.out) (fun m hm => by
      have hk := key_ok (a := a) (by omega)
      have hf := key_fresh hfra hk
      by_cases hf2 : (aKey a).1.free = true
      · exact newb_free hf2 hlK (by omega)
      · exact newb_comp combok (by simpa using hf2) hlK (by omega) hf.1 (by omega))
    rw [← hR] at hcl
    clear hR htl
    obtain ⟨b, ⟨zp, kx, tx⟩, eb⟩ := R
    dsimp only [TbR] at hcl
    go_wp2_with (first
      | (with_reducible refine wpList_load_alg rfl _ rfl rfl H40.out (alc_size _ _ _ _ _) ?_)
      | (with_reducible refine wpList_load_con rfl _ rfl rfl H41.out (cnl_size _ _ _) ?_)
      | (with_reducible refine wpList_load_tms rfl _ rfl rfl H39.out ?_))
    refine hcl.mono ?_
    rintro e u1 ⟨⟨x, y, rfl, hx, hy⟩, hbu⟩
    clear hcl
    obtain ⟨Amb, cmb, Abb, cbb, rfl, hM, hBx, hA⟩ := hx
    obtain ⟨AX, cX, rfl, hX, hlkx⟩ := hy
    dsimp only at hX hlkx ⊢
    have hsu1 : wr.heap.size ≤ u1.heap.size := hbu.size
    have hlast : ∀ y ∈ ([gC, gA, gd, w.heap.size] : List Nat), y < wr.heap.size := by intro y hy; simp at hy; omega
    have H45 : Hid (Below w.heap.size w u1) := Lib.hid ((Below.trans H38.out (Below.mono hbu (Below.size H38.out))))
    have H46 : Hid (Whole u1 w.heap.size 24 #[.int .i64 lo, .int .i64 hi]) := Lib.hid ((Whole.below H39.out hbu (Whole.lt H39.out)))
    have H47 : Hid (ALRow u1 gA a.free a.seed a.fresh (.slice Ama a.macs.length cma) (.slice Aba a.boxes.length cba)) := Lib.hid ((Whole.below H40.out hbu (Whole.lt H40.out)))
    have H48 : Hid (Whole u1 gC 36 (cnl z K (.slice Ap np cp)).toArray) := Lib.hid ((Whole.below H41.out hbu (Whole.lt H41.out)))
    have H49 : Hid (AlV u1 (Off [gC, gA, gd, w.heap.size]) (.agg (alc a.free a.seed a.fresh (.slice Ama a.macs.length cma) (.slice Aba a.boxes.length cba))) a) := Lib.hid ((AlV.below H42.out hbu (Nat.le_refl _)))
    have H50 : Hid (Deck gd u1) := Lib.hid ((Deck.below H43.out hbu (Deck.lt H43.out)))
    have H51 : Hid (DeckIn (fun b => b < w.heap.size) gd u1) := Lib.hid ((DeckIn.below H44.out hbu (by omega)))
    clear H38 H39 H40 H41 H42 H43 H44
    have H52 : Hid (AlV u1 (Off [gC, gA, gd, w.heap.size]) (.agg (alc b.free b.seed b.fresh (.slice Amb b.macs.length cmb) (.slice Abb b.boxes.length cbb))) b) := Lib.hid (AlV.fresh ⟨Amb, cmb, Abb, cbb, rfl, hM, hBx, hA⟩ hlast)
    have H53 : Hid (Bytes u1 (Off [gC, gA, gd, w.heap.size]) (.slice AX tx.length cX) tx) := Lib.hid (Bytes.fresh hX hlast)
    clear hM hBx hA hbu hX hlast
    have ks0 : ∀ z0 z1 : Array Value, Whole ((u1.alloc (.cells z0 32)).alloc (.cells z1 41)) u1.heap.size 32 z0 := fun _ _ => (Whole.alloc (Whole.here _ _ _) _)
    have ks1 : ∀ z0 z1 : Array Value, Whole (((u1.alloc (.cells z0 32)).alloc (.cells z1 41)).setRow u1.heap.size (alc b.free b.seed b.fresh (.slice Amb b.macs.length cmb) (.slice Abb b.boxes.length cbb))) (u1.heap.size + 1) 41 z1 := fun _ _ => (Whole.setRow_far (Whole.at_ _ _ _ _ (by simp)) (by omega) _)
    go_upto_region 8 with (first
      | (with_reducible refine wpList_store_alg rfl _ _ rfl (g := u1.heap.size) rfl rfl (ks0 _ _) rfl (alc_size _ _ _ _ _) (alc_one _ _ _ _ _ _ _ _ _) ?_)
      | (with_reducible refine wpList_store_blk rfl _ _ rfl (g := (u1.heap.size + 1)) rfl rfl (ks1 _ _) rfl (cnl_size _ _ _) (cnl_one _ _ _ _ _) ?_))
    clear ks0 ks1
    rw [zar_lit]
    rw [zbk_lit]
    obtain ⟨q6, hq⟩ : ∃ q, q = ((((u1.alloc (.cells zar 32)).alloc (.cells zbk 41)).setRow u1.heap.size (alc b.free b.seed b.fresh (.slice Amb b.macs.length cmb) (.slice Abb b.boxes.length cbb))).setRow (u1.heap.size + 1) (cnl zp kx (.slice AX tx.length cX)).toArray) := ⟨_, rfl⟩
    rw [← hq]
    have hsq6 : u1.heap.size + 2 ≤ q6.heap.size := by rw [hq]; simp
    have H54 : Hid (Below w.heap.size w q6) := Lib.hid (by rw [hq]; exact (below_setRow (below_setRow (Below.trans H45.out (Below.mono (Below.alloc (Below.alloc (Below.refl _ _) (Nat.le_refl _) _) (by simp) _) (Below.size H45.out))) (by omega) _) (by omega) _))
    have H55 : Hid (Whole q6 w.heap.size 24 #[.int .i64 lo, .int .i64 hi]) := Lib.hid (by rw [hq]; exact (Whole.setRow_far (Whole.setRow_far (Whole.below H46.out (Below.alloc (Below.alloc (Below.refl _ _) (Nat.le_refl _) _) (by simp) _) (Whole.lt H46.out)) (by omega) _) (by omega) _))
    have H56 : Hid (ALRow q6 gA a.free a.seed a.fresh (.slice Ama a.macs.length cma) (.slice Aba a.boxes.length cba)) := Lib.hid (by rw [hq]; exact (Whole.setRow_far (Whole.setRow_far (Whole.below H47.out (Below.alloc (Below.alloc (Below.refl _ _) (Nat.le_refl _) _) (by simp) _) (Whole.lt H47.out)) (by omega) _) (by omega) _))
    have H57 : Hid (Whole q6 gC 36 (cnl z K (.slice Ap np cp)).toArray) := Lib.hid (by rw [hq]; exact (Whole.setRow_far (Whole.setRow_far (Whole.below H48.out (Below.alloc (Below.alloc (Below.refl _ _) (Nat.le_refl _) _) (by simp) _) (Whole.lt H48.out)) (by omega) _) (by omega) _))
    have H58 : Hid (AlV q6 (Off [(u1.heap.size + 1), u1.heap.size, gC, gA, gd, w.heap.size]) (.agg (alc a.free a.seed a.fresh (.slice Ama a.macs.length cma) (.slice Aba a.boxes.length cba))) a) := Lib.hid (by rw [hq]; exact (AlV.store (AlV.store (AlV.below (AlV.grow (AlV.grow H49.out (by omega)) (by omega)) (Below.alloc (Below.alloc (Below.refl _ _) (Nat.le_refl _) _) (by simp) _) (Nat.le_refl _)) (by simp) _) (by simp) _))
    have H59 : Hid (Deck gd q6) := Lib.hid (by rw [hq]; exact (Deck.store (Deck.store (Deck.below H50.out (Below.alloc (Below.alloc (Below.refl _ _) (Nat.le_refl _) _) (by simp) _) (Deck.lt H50.out)) (by omega) _) (by omega) _))
    have H60 : Hid (DeckIn (fun b => b < w.heap.size) gd q6) := Lib.hid (by rw [hq]; exact (DeckIn.setRow (DeckIn.setRow (DeckIn.below H51.out (Below.alloc (Below.alloc (Below.refl _ _) (Nat.le_refl _) _) (by simp) _) (by omega)) (by omega) _) (by omega) _))
    have H61 : Hid (AlV q6 (Off [(u1.heap.size + 1), u1.heap.size, gC, gA, gd, w.heap.size]) (.agg (alc b.free b.seed b.fresh (.slice Amb b.macs.length cmb) (.slice Abb b.boxes.length cbb))) b) := Lib.hid (by rw [hq]; exact (AlV.store (AlV.store (AlV.below (AlV.grow (AlV.grow H52.out (by omega)) (by omega)) (Below.alloc (Below.alloc (Below.refl _ _) (Nat.le_refl _) _) (by simp) _) (Nat.le_refl _)) (by simp) _) (by simp) _))
    have H62 : Hid (Bytes q6 (Off [(u1.heap.size + 1), u1.heap.size, gC, gA, gd, w.heap.size]) (.slice AX tx.length cX) tx) := Lib.hid (by rw [hq]; exact (Bytes.store (Bytes.store (Bytes.below (Bytes.grow (Bytes.grow H53.out (by omega)) (by omega)) (Below.alloc (Below.alloc (Below.refl _ _) (Nat.le_refl _) _) (by simp) _) (Nat.le_refl _)) (by simp) _) (by simp) _))
    clear H45 H46 H47 H48 H49 H50 H51 H52 H53
    have H63 : Hid (ALRow q6 u1.heap.size b.free b.seed b.fresh (.slice Amb b.macs.length cmb) (.slice Abb b.boxes.length cbb)) := Lib.hid (by rw [hq]; exact (Whole.setRow_far (Whole.setRow (Whole.alloc (Whole.here _ _ _) _) _) (by omega) _))
    have H64 : Hid (Whole q6 (u1.heap.size + 1) 41 (cnl zp kx (.slice AX tx.length cX)).toArray) := Lib.hid (by rw [hq]; exact (Whole.setRow (Whole.setRow_far (Whole.at_ _ _ _ _ (by simp)) (by omega) _) _))
    clear hq
    have hcl := rblank (vp := (.slice Ap np cp)) z lo hi H58.out (by omega) hlK
    rw [← HRE.out] at hcl
    dsimp only [TbR] at hcl
    go_wp2_with (first
      | (with_reducible refine wpList_load_alg rfl _ rfl rfl H56.out (alc_size _ _ _ _ _) ?_)
      | (with_reducible refine wpList_load_con rfl _ rfl rfl H57.out (cnl_size _ _ _) ?_)
      | (with_reducible refine wpList_load_tms rfl _ rfl rfl H55.out ?_))
    refine hcl.mono ?_
    rintro e u2 ⟨⟨x, y, rfl, hx, hy⟩, hbu⟩
    clear hcl
    obtain ⟨Amb2, cmb2, Abb2, cbb2, rfl, hM, hBx, hA⟩ := hx
    obtain ⟨AX2, cX2, rfl, hX, hlkx2⟩ := hy
    dsimp only at hX hlkx2 ⊢
    have hsu2 : q6.heap.size ≤ u2.heap.size := hbu.size
    have hlast : ∀ y ∈ ([(u1.heap.size + 1), u1.heap.size, gC, gA, gd, w.heap.size] : List Nat), y < q6.heap.size := by intro y hy; simp at hy; omega
    have H65 : Hid (Below w.heap.size w u2) := Lib.hid ((Below.trans H54.out (Below.mono hbu (Below.size H54.out))))
    have H66 : Hid (Whole u2 w.heap.size 24 #[.int .i64 lo, .int .i64 hi]) := Lib.hid ((Whole.below H55.out hbu (Whole.lt H55.out)))
    have H67 : Hid (ALRow u2 gA a.free a.seed a.fresh (.slice Ama a.macs.length cma) (.slice Aba a.boxes.length cba)) := Lib.hid ((Whole.below H56.out hbu (Whole.lt H56.out)))
    have H68 : Hid (Whole u2 gC 36 (cnl z K (.slice Ap np cp)).toArray) := Lib.hid ((Whole.below H57.out hbu (Whole.lt H57.out)))
    have H69 : Hid (AlV u2 (Off [(u1.heap.size + 1), u1.heap.size, gC, gA, gd, w.heap.size]) (.agg (alc a.free a.seed a.fresh (.slice Ama a.macs.length cma) (.slice Aba a.boxes.length cba))) a) := Lib.hid ((AlV.below H58.out hbu (Nat.le_refl _)))
    have H70 : Hid (Deck gd u2) := Lib.hid ((Deck.below H59.out hbu (Deck.lt H59.out)))
    have H71 : Hid (DeckIn (fun b => b < w.heap.size) gd u2) := Lib.hid ((DeckIn.below H60.out hbu (by omega)))
    have H72 : Hid (AlV u2 (Off [(u1.heap.size + 1), u1.heap.size, gC, gA, gd, w.heap.size]) (.agg (alc b.free b.seed b.fresh (.slice Amb b.macs.length cmb) (.slice Abb b.boxes.length cbb))) b) := Lib.hid ((AlV.below H61.out hbu (Nat.le_refl _)))
    have H73 : Hid (Bytes u2 (Off [(u1.heap.size + 1), u1.heap.size, gC, gA, gd, w.heap.size]) (.slice AX tx.length cX) tx) := Lib.hid ((Bytes.below H62.out hbu (Nat.le_refl _)))
    have H74 : Hid (ALRow u2 u1.heap.size b.free b.seed b.fresh (.slice Amb b.macs.length cmb) (.slice Abb b.boxes.length cbb)) := Lib.hid ((Whole.below H63.out hbu (Whole.lt H63.out)))
    have H75 : Hid (Whole u2 (u1.heap.size + 1) 41 (cnl zp kx (.slice AX tx.length cX)).toArray) := Lib.hid ((Whole.below H64.out hbu (Whole.lt H64.out)))
    clear H54 H55 H56 H57 H58 H59 H60 H61 H62 H63 H64
    have H76 : Hid (AlV u2 (Off [(u1.heap.size + 1), u1.heap.size, gC, gA, gd, w.heap.size]) (.agg (alc b.free b.seed b.fresh (.slice Amb2 b.macs.length cmb2) (.slice Abb2 b.boxes.length cbb2))) b) := Lib.hid (AlV.fresh ⟨Amb2, cmb2, Abb2, cbb2, rfl, hM, hBx, hA⟩ hlast)
    have H77 : Hid (Bytes u2 (Off [(u1.heap.size + 1), u1.heap.size, gC, gA, gd, w.heap.size]) (.slice AX2 tx.length cX2) tx) := Lib.hid (Bytes.fresh hX hlast)
    clear hM hBx hA hbu hX hlast
    have ks0 : ∀ z0 z1 : Array Value, Whole ((u2.alloc (.cells z0 32)).alloc (.cells z1 41)) u2.heap.size 32 z0 := fun _ _ => (Whole.alloc (Whole.here _ _ _) _)
    have ks1 : ∀ z0 z1 : Array Value, Whole (((u2.alloc (.cells z0 32)).alloc (.cells z1 41)).setRow u2.heap.size (alc b.free b.seed b.fresh (.slice Amb2 b.macs.length cmb2) (.slice Abb2 b.boxes.length cbb2))) (u2.heap.size + 1) 41 z1 := fun _ _ => (Whole.setRow_far (Whole.at_ _ _ _ _ (by simp)) (by omega) _)
    go_upto_region 9 with (first
      | (with_reducible refine wpList_store_alg rfl _ _ rfl (g := u2.heap.size) rfl rfl (ks0 _ _) rfl (alc_size _ _ _ _ _) (alc_one _ _ _ _ _ _ _ _ _) ?_)
      | (with_reducible refine wpList_store_blk rfl _ _ rfl (g := (u2.heap.size + 1)) rfl rfl (ks1 _ _) rfl (cnl_size _ _ _) (cnl_one _ _ _ _ _) ?_))
    clear ks0 ks1
    rw [zar_lit]
    rw [zbk_lit]
    obtain ⟨q7, hq⟩ : ∃ q, q = ((((u2.alloc (.cells zar 32)).alloc (.cells zbk 41)).setRow u2.heap.size (alc b.free b.seed b.fresh (.slice Amb2 b.macs.length cmb2) (.slice Abb2 b.boxes.length cbb2))).setRow (u2.heap.size + 1) (cnl zp kx (.slice AX2 tx.length cX2)).toArray) := ⟨_, rfl⟩
    rw [← hq]
    have hsq7 : u2.heap.size + 2 ≤ q7.heap.size := by rw [hq]; simp
    have H78 : Hid (Below w.heap.size w q7) := Lib.hid (by rw [hq]; exact (below_setRow (below_setRow (Below.trans H65.out (Below.mono (Below.alloc (Below.alloc (Below.refl _ _) (Nat.le_refl _) _) (by simp) _) (Below.size H65.out))) (by omega) _) (by omega) _))
    have H79 : Hid (Whole q7 w.heap.size 24 #[.int .i64 lo, .int .i64 hi]) := Lib.hid (by rw [hq]; exact (Whole.setRow_far (Whole.setRow_far (Whole.below H66.out (Below.alloc (Below.alloc (Below.refl _ _) (Nat.le_refl _) _) (by simp) _) (Whole.lt H66.out)) (by omega) _) (by omega) _))
    have H80 : Hid (ALRow q7 gA a.free a.seed a.fresh (.slice Ama a.macs.length cma) (.slice Aba a.boxes.length cba)) := Lib.hid (by rw [hq]; exact (Whole.setRow_far (Whole.setRow_far (Whole.below H67.out (Below.alloc (Below.alloc (Below.refl _ _) (Nat.le_refl _) _) (by simp) _) (Whole.lt H67.out)) (by omega) _) (by omega) _))
    have H81 : Hid (Whole q7 gC 36 (cnl z K (.slice Ap np cp)).toArray) := Lib.hid (by rw [hq]; exact (Whole.setRow_far (Whole.setRow_far (Whole.below H68.out (Below.alloc (Below.alloc (Below.refl _ _) (Nat.le_refl _) _) (by simp) _) (Whole.lt H68.out)) (by omega) _) (by omega) _))
    have H82 : Hid (AlV q7 (Off [(u2.heap.size + 1), u2.heap.size, (u1.heap.size + 1), u1.heap.size, gC, gA, gd, w.heap.size]) (.agg (alc a.free a.seed a.fresh (.slice Ama a.macs.length cma) (.slice Aba a.boxes.length cba))) a) := Lib.hid (by rw [hq]; exact (AlV.store (AlV.store (AlV.below (AlV.grow (AlV.grow H69.out (by omega)) (by omega)) (Below.alloc (Below.alloc (Below.refl _ _) (Nat.le_refl _) _) (by simp) _) (Nat.le_refl _)) (by simp) _) (by simp) _))
    have H83 : Hid (Deck gd q7) := Lib.hid (by rw [hq]; exact (Deck.store (Deck.store (Deck.below H70.out (Below.alloc (Below.alloc (Below.refl _ _) (Nat.le_refl _) _) (by simp) _) (Deck.lt H70.out)) (by omega) _) (by omega) _))
    have H84 : Hid (DeckIn (fun b => b < w.heap.size) gd q7) := Lib.hid (by rw [hq]; exact (DeckIn.setRow (DeckIn.setRow (DeckIn.below H71.out (Below.alloc (Below.alloc (Below.refl _ _) (Nat.le_refl _) _) (by simp) _) (by omega)) (by omega) _) (by omega) _))
    have H85 : Hid (AlV q7 (Off [(u2.heap.size + 1), u2.heap.size, (u1.heap.size + 1), u1.heap.size, gC, gA, gd, w.heap.size]) (.agg (alc b.free b.seed b.fresh (.slice Amb b.macs.length cmb) (.slice Abb b.boxes.length cbb))) b) := Lib.hid (by rw [hq]; exact (AlV.store (AlV.store (AlV.below (AlV.grow (AlV.grow H72.out (by omega)) (by omega)) (Below.alloc (Below.alloc (Below.refl _ _) (Nat.le_refl _) _) (by simp) _) (Nat.le_refl _)) (by simp) _) (by simp) _))
    have H86 : Hid (Bytes q7 (Off [(u2.heap.size + 1), u2.heap.size, (u1.heap.size + 1), u1.heap.size, gC, gA, gd, w.heap.size]) (.slice AX tx.length cX) tx) := Lib.hid (by rw [hq]; exact (Bytes.store (Bytes.store (Bytes.below (Bytes.grow (Bytes.grow H73.out (by omega)) (by omega)) (Below.alloc (Below.alloc (Below.refl _ _) (Nat.le_refl _) _) (by simp) _) (Nat.le_refl _)) (by simp) _) (by simp) _))
    have H87 : Hid (ALRow q7 u1.heap.size b.free b.seed b.fresh (.slice Amb b.macs.length cmb) (.slice Abb b.boxes.length cbb)) := Lib.hid (by rw [hq]; exact (Whole.setRow_far (Whole.setRow_far (Whole.below H74.out (Below.alloc (Below.alloc (Below.refl _ _) (Nat.le_refl _) _) (by simp) _) (Whole.lt H74.out)) (by omega) _) (by omega) _))
    have H88 : Hid (Whole q7 (u1.heap.size + 1) 41 (cnl zp kx (.slice AX tx.length cX)).toArray) := Lib.hid (by rw [hq]; exact (Whole.setRow_far (Whole.setRow_far (Whole.below H75.out (Below.alloc (Below.alloc (Below.refl _ _) (Nat.le_refl _) _) (by simp) _) (Whole.lt H75.out)) (by omega) _) (by omega) _))
    have H89 : Hid (AlV q7 (Off [(u2.heap.size + 1), u2.heap.size, (u1.heap.size + 1), u1.heap.size, gC, gA, gd, w.heap.size]) (.agg (alc b.free b.seed b.fresh (.slice Amb2 b.macs.length cmb2) (.slice Abb2 b.boxes.length cbb2))) b) := Lib.hid (by rw [hq]; exact (AlV.store (AlV.store (AlV.below (AlV.grow (AlV.grow H76.out (by omega)) (by omega)) (Below.alloc (Below.alloc (Below.refl _ _) (Nat.le_refl _) _) (by simp) _) (Nat.le_refl _)) (by simp) _) (by simp) _))
    have H90 : Hid (Bytes q7 (Off [(u2.heap.size + 1), u2.heap.size, (u1.heap.size + 1), u1.heap.size, gC, gA, gd, w.heap.size]) (.slice AX2 tx.length cX2) tx) := Lib.hid (by rw [hq]; exact (Bytes.store (Bytes.store (Bytes.below (Bytes.grow (Bytes.grow H77.out (by omega)) (by omega)) (Below.alloc (Below.alloc (Below.refl _ _) (Nat.le_refl _) _) (by simp) _) (Nat.le_refl _)) (by simp) _) (by simp) _))
    clear H65 H66 H67 H68 H69 H70 H71 H72 H73 H74 H75 H76 H77
    have H91 : Hid (ALRow q7 u2.heap.size b.free b.seed b.fresh (.slice Amb2 b.macs.length cmb2) (.slice Abb2 b.boxes.length cbb2)) := Lib.hid (by rw [hq]; exact (Whole.setRow_far (Whole.setRow (Whole.alloc (Whole.here _ _ _) _) _) (by omega) _))
    have H92 : Hid (Whole q7 (u2.heap.size + 1) 41 (cnl zp kx (.slice AX2 tx.length cX2)).toArray) := Lib.hid (by rw [hq]; exact (Whole.setRow (Whole.setRow_far (Whole.at_ _ _ _ _ (by simp)) (by omega) _) _))
    clear hq
    clear HRE
    obtain ⟨D, hD⟩ : ∃ D, D = decide (tmok lo hi) := ⟨_, rfl⟩
    have HD := Lib.hid hD
    clear hD
    have HCC : Hid (∀ W, Below q7.heap.size q7 W → (fun W : World => Whole W u1.heap.size 32 (alcl b.free b.seed b.fresh (.slice Amb b.macs.length cmb) (.slice Abb b.boxes.length cbb)).toArray ∧ Whole W u2.heap.size 32 (alcl b.free b.seed b.fresh (.slice Amb2 b.macs.length cmb2) (.slice Abb2 b.boxes.length cbb2)).toArray ∧ Whole W (u1.heap.size + 1) 41 (cnl zp kx (.slice AX tx.length cX)).toArray ∧ Whole W (u2.heap.size + 1) 41 (cnl zp kx (.slice AX2 tx.length cX2)).toArray ∧ Whole W w.heap.size 24 #[.int .i64 lo, .int .i64 hi]) W) := Lib.hid fun W hb => ⟨Whole.below H87.out hb (Whole.lt H87.out), Whole.below H91.out hb (Whole.lt H91.out), Whole.below H88.out hb (Whole.lt H88.out), Whole.below H92.out hb (Whole.lt H92.out), Whole.below H79.out hb (Whole.lt H79.out)⟩
    have hb0 : Below q7.heap.size q7 q7.drew := Below.drew (Below.refl _ _)
    have hs0 : q7.heap.size ≤ q7.drew.heap.size := hb0.size
    have fvb_0 : AlV q7.drew (Off [(u2.heap.size + 1), u2.heap.size, (u1.heap.size + 1), u1.heap.size, gC, gA, gd, w.heap.size]) (.agg (alc b.free b.seed b.fresh (.slice Amb b.macs.length cmb) (.slice Abb b.boxes.length cbb))) b := (AlV.below H85.out (Below.drew (Below.refl _ _)) (Nat.le_refl _))
    have fX_0 : Bytes q7.drew (Off [(u2.heap.size + 1), u2.heap.size, (u1.heap.size + 1), u1.heap.size, gC, gA, gd, w.heap.size]) (.slice AX tx.length cX) tx := (Bytes.below H86.out (Below.drew (Below.refl _ _)) (Nat.le_refl _))
    have fvb2_0 : AlV q7.drew (Off [(u2.heap.size + 1), u2.heap.size, (u1.heap.size + 1), u1.heap.size, gC, gA, gd, w.heap.size]) (.agg (alc b.free b.seed b.fresh (.slice Amb2 b.macs.length cmb2) (.slice Abb2 b.boxes.length cbb2))) b := (AlV.below H89.out (Below.drew (Below.refl _ _)) (Nat.le_refl _))
    have fX2_0 : Bytes q7.drew (Off [(u2.heap.size + 1), u2.heap.size, (u1.heap.size + 1), u1.heap.size, gC, gA, gd, w.heap.size]) (.slice AX2 tx.length cX2) tx := (Bytes.below H90.out (Below.drew (Below.refl _ _)) (Nat.le_refl _))
    refine wp_region_held_drew (S := fun W : World => Whole W u1.heap.size 32 (alcl b.free b.seed b.fresh (.slice Amb b.macs.length cmb) (.slice Abb b.boxes.length cbb)).toArray ∧ Whole W u2.heap.size 32 (alcl b.free b.seed b.fresh (.slice Amb2 b.macs.length cmb2) (.slice Abb2 b.boxes.length cbb2)).toArray ∧ Whole W (u1.heap.size + 1) 41 (cnl zp kx (.slice AX tx.length cX)).toArray ∧ Whole W (u2.heap.size + 1) 41 (cnl zp kx (.slice AX2 tx.length cX2)).toArray ∧ Whole W w.heap.size 24 #[.int .i64 lo, .int .i64 hi]) (by kernel_rfl) (HCC.out _ hb0) (fun hHeld => ?_)
    apply wpAnyH_take (i := 0) rfl (by kernel_rfl) (by kernel_rfl) (by kernel_rfl)
    case hQ => exact fun _ _ _ h => h
    case hS => exact hHeld
    case hy => exact yieldsIf_load_mid (by rfl) 32 _ rfl u1.heap.size (0) rfl ((alcl b.free b.seed b.fresh (.slice Amb b.macs.length cmb) (.slice Abb b.boxes.length cbb))) _ (fun w hS => Whole.range (hS.1)) Tryd.underlying32 rfl (by rw [algSize, alcl_length])
    (try simp only [List.getElem_toArray, List.getElem_cons_zero, Act.put, List.setIfInBounds_toArray, List.set_cons_zero, List.set_cons_succ])
    apply wpAnyH_take (i := 1) rfl (by kernel_rfl) (by kernel_rfl) (by kernel_rfl)
    case hQ => exact fun _ _ _ h => h
    case hS => exact hHeld
    case hy => exact yieldsIf_load_mid (by rfl) 32 _ rfl u2.heap.size (0) rfl ((alcl b.free b.seed b.fresh (.slice Amb2 b.macs.length cmb2) (.slice Abb2 b.boxes.length cbb2))) _ (fun w hS => Whole.range (hS.2.1)) Tryd.underlying32 rfl (by rw [algSize, alcl_length])
    (try simp only [List.getElem_toArray, List.getElem_cons_succ, List.getElem_cons_zero, Act.put, List.setIfInBounds_toArray, List.set_cons_zero, List.set_cons_succ])
    refine wpAnyH_ready (rs := [2]) (by kernel_rfl) (by simp) ?_
    refine AllReadyH.cons rfl (fun KK hKK => ?_) AllReadyH.nil
    (try simp only [List.getElem_toArray, List.getElem_cons_succ, List.getElem_cons_zero])
    go_simp
    go_at_call 11
    refine (rsamea fvb_0 fvb2_0).mono ?_
    rintro e V1 ⟨rfl, hv1⟩
    have hs1 : q7.drew.heap.size ≤ V1.heap.size := hv1.size
    have hb1 := Below.trans hb0 (Below.mono hv1 (Below.size hb0))
    have fvb_1 := (AlV.below fvb_0 hv1 (Nat.le_refl _))
    have fX_1 := (Bytes.below fX_0 hv1 (Nat.le_refl _))
    have fvb2_1 := (AlV.below fvb2_0 hv1 (Nat.le_refl _))
    have fX2_1 := (Bytes.below fX2_0 hv1 (Nat.le_refl _))
    refine hKK.out _ _ (HCC.out _ hb1) (fun hHeld => ?_)
    clear hKK KK
    (try simp only [List.getElem_toArray, List.getElem_cons_succ, List.getElem_cons_zero, Act.put, List.setIfInBounds_toArray, List.set_cons_zero, List.set_cons_succ])
    apply wpAnyH_take (i := 3) rfl (by kernel_rfl) (by kernel_rfl) (by kernel_rfl)
    case hQ => exact fun _ _ _ h => h
    case hS => exact hHeld
    case hy => (refine Or.inl ⟨by rfl, ?_⟩; intro w hSw; (try go_split_ands); go_simp; (try with_reducible rfl))
    (try simp only [List.getElem_toArray, List.getElem_cons_succ, List.getElem_cons_zero, Act.put, List.setIfInBounds_toArray, List.set_cons_zero, List.set_cons_succ])
    apply wpAnyH_take (i := 4) rfl (by kernel_rfl) (by kernel_rfl) (by kernel_rfl)
    case hQ => exact fun _ _ _ h => h
    case hS => exact hHeld
    case hy => (refine Or.inl ⟨by rfl, ?_⟩; intro w hSw; (try go_split_ands); go_simp; (try with_reducible rfl))
    (try simp only [List.getElem_toArray, List.getElem_cons_succ, List.getElem_cons_zero, Act.put, List.setIfInBounds_toArray, List.set_cons_zero, List.set_cons_succ])
    apply wpAnyH_take (i := 5) rfl (by kernel_rfl) (by kernel_rfl) (by kernel_rfl)
    case hQ => exact fun _ _ _ h => h
    case hS => exact hHeld
    case hy => exact yieldsIf_load_mid (by rfl) 41 _ rfl (u1.heap.size + 1) (0) rfl ((cnl zp kx (.slice AX tx.length cX))) _ (fun w hS => Whole.range (hS.2.2.1)) Tryd.underlying41 rfl (by rw [blankSize, cnl_len])
    (try simp only [List.getElem_toArray, List.getElem_cons_succ, List.getElem_cons_zero, Act.put, List.setIfInBounds_toArray, List.set_cons_zero, List.set_cons_succ])
    apply wpAnyH_take (i := 6) rfl (by kernel_rfl) (by kernel_rfl) (by kernel_rfl)
    case hQ => exact fun _ _ _ h => h
    case hS => exact hHeld
    case hy => exact yieldsIf_load_mid (by rfl) 41 _ rfl (u2.heap.size + 1) (0) rfl ((cnl zp kx (.slice AX2 tx.length cX2))) _ (fun w hS => Whole.range (hS.2.2.2.1)) Tryd.underlying41 rfl (by rw [blankSize, cnl_len])
    (try simp only [List.getElem_toArray, List.getElem_cons_succ, List.getElem_cons_zero, Act.put, List.setIfInBounds_toArray, List.set_cons_zero, List.set_cons_succ])
    refine wpAnyH_ready (rs := [7]) (by kernel_rfl) (by simp) ?_
    refine AllReadyH.cons rfl (fun KK hKK => ?_) AllReadyH.nil
    (try simp only [List.getElem_toArray, List.getElem_cons_succ, List.getElem_cons_zero])
    go_simp
    go_at_call 12
    refine (rsameblk (w := V1) (b := ⟨zp, kx, tx⟩) ⟨AX, cX, rfl, fX_1, hlkx⟩ ⟨AX2, cX2, rfl, fX2_1, hlkx⟩ HTL.out).mono ?_
    rintro e V2 ⟨rfl, hv2⟩
    have hs2 : V1.heap.size ≤ V2.heap.size := hv2.size
    have hb2 := Below.trans hb1 (Below.mono hv2 (Below.size hb1))
    have fvb_2 := (AlV.below fvb_1 hv2 (Nat.le_refl _))
    have fX_2 := (Bytes.below fX_1 hv2 (Nat.le_refl _))
    have fvb2_2 := (AlV.below fvb2_1 hv2 (Nat.le_refl _))
    have fX2_2 := (Bytes.below fX2_1 hv2 (Nat.le_refl _))
    refine hKK.out _ _ (HCC.out _ hb2) (fun hHeld => ?_)
    clear hKK KK
    (try simp only [List.getElem_toArray, List.getElem_cons_succ, List.getElem_cons_zero, Act.put, List.setIfInBounds_toArray, List.set_cons_zero, List.set_cons_succ])
    apply wpAnyH_take (i := 8) rfl (by kernel_rfl) (by kernel_rfl) (by kernel_rfl)
    case hQ => exact fun _ _ _ h => h
    case hS => exact hHeld
    case hy => (refine Or.inl ⟨by rfl, ?_⟩; intro w hSw; (try go_split_ands); go_simp; (try with_reducible rfl))
    (try simp only [List.getElem_toArray, List.getElem_cons_succ, List.getElem_cons_zero, Act.put, List.setIfInBounds_toArray, List.set_cons_zero, List.set_cons_succ])
    apply wpAnyH_take (i := 9) rfl (by kernel_rfl) (by kernel_rfl) (by kernel_rfl)
    case hQ => exact fun _ _ _ h => h
    case hS => exact hHeld
    case hy => (refine Or.inl ⟨by rfl, ?_⟩; intro w hSw; (try go_split_ands); go_simp; (try with_reducible rfl))
    (try simp only [List.getElem_toArray, List.getElem_cons_succ, List.getElem_cons_zero, Act.put, List.setIfInBounds_toArray, List.set_cons_zero, List.set_cons_succ])
    apply wpAnyH_take (i := 10) rfl (by kernel_rfl) (by kernel_rfl) (by kernel_rfl)
    case hQ => exact fun _ _ _ h => h
    case hS => exact hHeld
    case hy => (refine Or.inl ⟨by rfl, ?_⟩; intro w hSw; (try go_split_ands); go_simp; (try with_reducible rfl))
    (try simp only [List.getElem_toArray, List.getElem_cons_succ, List.getElem_cons_zero, Act.put, List.setIfInBounds_toArray, List.set_cons_zero, List.set_cons_succ])
    apply wpAnyH_take (i := 11) rfl (by kernel_rfl) (by kernel_rfl) (by kernel_rfl)
    case hQ => exact fun _ _ _ h => h
    case hS => exact hHeld
    case hy => (refine Or.inl ⟨by rfl, ?_⟩; intro w hSw; (try go_split_ands); go_simp; (try with_reducible rfl))
    (try simp only [List.getElem_toArray, List.getElem_cons_succ, List.getElem_cons_zero, Act.put, List.setIfInBounds_toArray, List.set_cons_zero, List.set_cons_succ])
    apply wpAnyH_take (i := 12) rfl (by kernel_rfl) (by kernel_rfl) (by kernel_rfl)
    case hQ => exact fun _ _ _ h => h
    case hS => exact hHeld
    case hy => (refine Or.inl ⟨by rfl, ?_⟩; intro w hSw; (try go_split_ands); go_simp; (try with_reducible rfl))
    (try simp only [List.getElem_toArray, List.getElem_cons_succ, List.getElem_cons_zero, Act.put, List.setIfInBounds_toArray, List.set_cons_zero, List.set_cons_succ])
    apply wpAnyH_take (i := 13) rfl (by kernel_rfl) (by kernel_rfl) (by kernel_rfl)
    case hQ => exact fun _ _ _ h => h
    case hS => exact hHeld
    case hy => (refine Or.inl ⟨by rfl, ?_⟩; intro w hSw; (try go_split_ands); go_simp; (try with_reducible rfl))
    (try simp only [List.getElem_toArray, List.getElem_cons_succ, List.getElem_cons_zero, Act.put, List.setIfInBounds_toArray, List.set_cons_zero, List.set_cons_succ])
    apply wpAnyH_take (i := 14) rfl (by kernel_rfl) (by kernel_rfl) (by kernel_rfl)
    case hQ => exact fun _ _ _ h => h
    case hS => exact hHeld
    case hy => (refine Or.inl ⟨by rfl, ?_⟩; intro w hSw; (try go_split_ands); go_simp; (try with_reducible rfl))
    (try simp only [List.getElem_toArray, List.getElem_cons_succ, List.getElem_cons_zero, Act.put, List.setIfInBounds_toArray, List.set_cons_zero, List.set_cons_succ])
    apply wpAnyH_take (i := 15) rfl (by kernel_rfl) (by kernel_rfl) (by kernel_rfl)
    case hQ => exact fun _ _ _ h => h
    case hS => exact hHeld
    case hy => (refine Or.inl ⟨by rfl, ?_⟩; intro w hSw; (try go_split_ands); go_simp; (try with_reducible rfl))
    (try simp only [List.getElem_toArray, List.getElem_cons_succ, List.getElem_cons_zero, Act.put, List.setIfInBounds_toArray, List.set_cons_zero, List.set_cons_succ])
    apply wpAnyH_take (i := 16) rfl (by kernel_rfl) (by kernel_rfl) (by kernel_rfl)
    case hQ => exact fun _ _ _ h => h
    case hS => exact hHeld
    case hy => exact yieldsIf_load_mid (by rfl) 24 _ rfl w.heap.size (0) rfl ([.int .i64 lo, .int .i64 hi]) _ (fun w hS => Whole.range (hS.2.2.2.2)) Tryd.underlying24 rfl (by rw [tmsSize]; rfl)
    (try simp only [List.getElem_toArray, List.getElem_cons_succ, List.getElem_cons_zero, Act.put, List.setIfInBounds_toArray, List.set_cons_zero, List.set_cons_succ])
    apply wpAnyH_take (i := 18) rfl (by kernel_rfl) (by kernel_rfl) (by kernel_rfl)
    case hQ => exact fun _ _ _ h => h
    case hS => exact hHeld
    case hy => exact yieldsIf_load_mid (by rfl) 24 _ rfl w.heap.size (0) rfl ([.int .i64 lo, .int .i64 hi]) _ (fun w hS => Whole.range (hS.2.2.2.2)) Tryd.underlying24 rfl (by rw [tmsSize]; rfl)
    (try simp only [List.getElem_toArray, List.getElem_cons_succ, List.getElem_cons_zero, Act.put, List.setIfInBounds_toArray, List.set_cons_zero, List.set_cons_succ])
    refine wpAnyH_ready (rs := [17]) (by kernel_rfl) (by simp) ?_
    refine AllReadyH.cons rfl (fun KK hKK => ?_) AllReadyH.nil
    (try simp only [List.getElem_toArray, List.getElem_cons_succ, List.getElem_cons_zero])
    go_simp
    go_at_call 13
    refine (tvd_ HD.out V2).mono ?_
    rintro e V3 ⟨rfl, hv3⟩
    have hs3 : V2.heap.size ≤ V3.heap.size := hv3.size
    have hb3 := Below.trans hb2 (Below.mono hv3 (Below.size hb2))
    have fvb_3 := (AlV.below fvb_2 hv3 (Nat.le_refl _))
    have fX_3 := (Bytes.below fX_2 hv3 (Nat.le_refl _))
    have fvb2_3 := (AlV.below fvb2_2 hv3 (Nat.le_refl _))
    have fX2_3 := (Bytes.below fX2_2 hv3 (Nat.le_refl _))
    refine hKK.out _ _ (HCC.out _ hb3) (fun hHeld => ?_)
    clear hKK KK
    (try simp only [List.getElem_toArray, List.getElem_cons_succ, List.getElem_cons_zero, Act.put, List.setIfInBounds_toArray, List.set_cons_zero, List.set_cons_succ])
    refine wpAnyH_ready (rs := [19]) (by kernel_rfl) (by simp) ?_
    refine AllReadyH.cons rfl (fun KK hKK => ?_) AllReadyH.nil
    (try simp only [List.getElem_toArray, List.getElem_cons_succ, List.getElem_cons_zero])
    go_simp
    go_at_call 14
    refine (rvd_ HD.out V3).mono ?_
    rintro e V4 ⟨rfl, hv4⟩
    have hs4 : V3.heap.size ≤ V4.heap.size := hv4.size
    have hb4 := Below.trans hb3 (Below.mono hv4 (Below.size hb3))
    have fvb_4 := (AlV.below fvb_3 hv4 (Nat.le_refl _))
    have fX_4 := (Bytes.below fX_3 hv4 (Nat.le_refl _))
    have fvb2_4 := (AlV.below fvb2_3 hv4 (Nat.le_refl _))
    have fX2_4 := (Bytes.below fX2_3 hv4 (Nat.le_refl _))
    refine hKK.out _ _ (HCC.out _ hb4) (fun hHeld => ?_)
    clear hKK KK
    (try simp only [List.getElem_toArray, List.getElem_cons_succ, List.getElem_cons_zero, Act.put, List.setIfInBounds_toArray, List.set_cons_zero, List.set_cons_succ])
    apply wpAnyH_take (i := 20) rfl (by kernel_rfl) (by kernel_rfl) (by kernel_rfl)
    case hQ => exact fun _ _ _ h => h
    case hS => exact hHeld
    case hy => (refine Or.inl ⟨by rfl, ?_⟩; intro w hSw; (try go_split_ands); go_simp; (try with_reducible rfl))
    (try simp only [List.getElem_toArray, List.getElem_cons_succ, List.getElem_cons_zero, Act.put, List.setIfInBounds_toArray, List.set_cons_zero, List.set_cons_succ])
    apply wpAnyH_take (i := 21) rfl (by kernel_rfl) (by kernel_rfl) (by kernel_rfl)
    case hQ => exact fun _ _ _ h => h
    case hS => exact hHeld
    case hy => (refine Or.inl ⟨by rfl, ?_⟩; intro w hSw; (try go_split_ands); go_simp; (try with_reducible rfl))
    (try simp only [List.getElem_toArray, List.getElem_cons_succ, List.getElem_cons_zero, Act.put, List.setIfInBounds_toArray, List.set_cons_zero, List.set_cons_succ])
    refine wpAnyH_done (by kernel_rfl) ?_ _
    have HB9 := Lib.hid hb4
    obtain ⟨X9, hX9⟩ : ∃ X, X = V4 := ⟨_, rfl⟩
    rw [← hX9] at HB9 ⊢
    clear hHeld hX9
    clear HTL HD
    have hsX9 : q7.heap.size ≤ X9.heap.size := HB9.out.size
    have H93 : Hid (Below w.heap.size w X9) := Lib.hid ((Below.trans H78.out (Below.mono HB9.out (Below.size H78.out))))
    have H94 : Hid (Whole X9 w.heap.size 24 #[.int .i64 lo, .int .i64 hi]) := Lib.hid ((Whole.below H79.out HB9.out (Whole.lt H79.out)))
    have H95 : Hid (ALRow X9 gA a.free a.seed a.fresh (.slice Ama a.macs.length cma) (.slice Aba a.boxes.length cba)) := Lib.hid ((Whole.below H80.out HB9.out (Whole.lt H80.out)))
    have H96 : Hid (Whole X9 gC 36 (cnl z K (.slice Ap np cp)).toArray) := Lib.hid ((Whole.below H81.out HB9.out (Whole.lt H81.out)))
    have H97 : Hid (AlV X9 (Off [(u2.heap.size + 1), u2.heap.size, (u1.heap.size + 1), u1.heap.size, gC, gA, gd, w.heap.size]) (.agg (alc a.free a.seed a.fresh (.slice Ama a.macs.length cma) (.slice Aba a.boxes.length cba))) a) := Lib.hid ((AlV.below H82.out HB9.out (Nat.le_refl _)))
    have H98 : Hid (Deck gd X9) := Lib.hid ((Deck.below H83.out HB9.out (Deck.lt H83.out)))
    have H99 : Hid (DeckIn (fun b => b < w.heap.size) gd X9) := Lib.hid ((DeckIn.below H84.out HB9.out (by omega)))
    clear H78 H79 H80 H81 H82 H83 H84
    clear HB9
    have hcl := dnext 152 (by omega) (by omega) gd X9 H98.out
    go_wp2_with fail
    refine hcl.mono ?_
    rintro e t8 ⟨y1, hyy1, rfl, ht⟩
    clear hcl
    have hst8 : X9.heap.size ≤ t8.heap.size := Turn.size ht
    have H100 : Hid (Below w.heap.size w t8) := Lib.hid ((base_turn H93.out ht (by omega)))
    have H101 : Hid (Whole t8 w.heap.size 24 #[.int .i64 lo, .int .i64 hi]) := Lib.hid (((ht).2.2.oth _ _ _ (by omega) H94.out))
    have H102 : Hid (ALRow t8 gA a.free a.seed a.fresh (.slice Ama a.macs.length cma) (.slice Aba a.boxes.length cba)) := Lib.hid (((ht).2.2.oth _ _ _ (by omega) H95.out))
    have H103 : Hid (Whole t8 gC 36 (cnl z K (.slice Ap np cp)).toArray) := Lib.hid (((ht).2.2.oth _ _ _ (by omega) H96.out))
    have H104 : Hid (AlV t8 (Off [(u2.heap.size + 1), u2.heap.size, (u1.heap.size + 1), u1.heap.size, gC, gA, gd, w.heap.size]) (.agg (alc a.free a.seed a.fresh (.slice Ama a.macs.length cma) (.slice Aba a.boxes.length cba))) a) := Lib.hid ((AlV.turn H97.out ht (by simp) (Turn.size ht)))
    have H105 : Hid (Deck gd t8) := Lib.hid ((ht).1)
    have H106 : Hid (DeckIn (fun b => b < w.heap.size) gd t8) := Lib.hid ((DeckIn.oth H99.out ht.2.2))
    clear H93 H94 H95 H96 H97 H98 H99
    clear ht
    have hwy1 : IntKind.i64.wrap ((y1 : Int) - 1) = (y1 : Int) - 1 := by rw [IntKind.wrap_i64]; omega
    have hcl := dnext 153 (by omega) (by omega) gd t8 H105.out
    go_wp2_with fail
    refine hcl.mono ?_
    rintro e t9 ⟨y2, hyy2, rfl, ht⟩
    clear hcl
    have hst9 : t8.heap.size ≤ t9.heap.size := Turn.size ht
    have H107 : Hid (Below w.heap.size w t9) := Lib.hid ((base_turn H100.out ht (by omega)))
    have H108 : Hid (Whole t9 w.heap.size 24 #[.int .i64 lo, .int .i64 hi]) := Lib.hid (((ht).2.2.oth _ _ _ (by omega) H101.out))
    have H109 : Hid (ALRow t9 gA a.free a.seed a.fresh (.slice Ama a.macs.length cma) (.slice Aba a.boxes.length cba)) := Lib.hid (((ht).2.2.oth _ _ _ (by omega) H102.out))
    have H110 : Hid (Whole t9 gC 36 (cnl z K (.slice Ap np cp)).toArray) := Lib.hid (((ht).2.2.oth _ _ _ (by omega) H103.out))
    have H111 : Hid (AlV t9 (Off [(u2.heap.size + 1), u2.heap.size, (u1.heap.size + 1), u1.heap.size, gC, gA, gd, w.heap.size]) (.agg (alc a.free a.seed a.fresh (.slice Ama a.macs.length cma) (.slice Aba a.boxes.length cba))) a) := Lib.hid ((AlV.turn H104.out ht (by simp) (Turn.size ht)))
    have H112 : Hid (Deck gd t9) := Lib.hid ((ht).1)
    have H113 : Hid (DeckIn (fun b => b < w.heap.size) gd t9) := Lib.hid ((DeckIn.oth H106.out ht.2.2))
    clear H100 H101 H102 H103 H104 H105 H106
    clear ht
    have hwy2 : IntKind.i64.wrap ((y2 : Int) - 1) = (y2 : Int) - 1 := by rw [IntKind.wrap_i64]; omega
    have ks0 : Whole t9 w.heap.size 24 #[.int .i64 lo, .int .i64 hi] := H108.out
    go_upto_region 12 with (with_reducible refine wpList_store_tms rfl _ _ rfl (g := w.heap.size) rfl rfl (ks0) rfl ?_)
    clear ks0
    obtain ⟨q10, hq⟩ : ∃ q, q = (t9.setRow w.heap.size #[.int .i64 ((y1 : Int) - 1), .int .i64 ((y2 : Int) - 1)]) := ⟨_, rfl⟩
    rw [← hq]
    have hsq10 : t9.heap.size ≤ q10.heap.size := by rw [hq]; simp
    have H114 : Hid (Below w.heap.size w q10) := Lib.hid (by rw [hq]; exact (below_setRow H107.out (by omega) _))
    have H115 : Hid (Whole q10 w.heap.size 24 #[.int .i64 ((y1 : Int) - 1), .int .i64 ((y2 : Int) - 1)]) := Lib.hid (by rw [hq]; exact (Whole.setRow H108.out _))
    have H116 : Hid (ALRow q10 gA a.free a.seed a.fresh (.slice Ama a.macs.length cma) (.slice Aba a.boxes.length cba)) := Lib.hid (by rw [hq]; exact (Whole.setRow_far H109.out (by omega) _))
    have H117 : Hid (Whole q10 gC 36 (cnl z K (.slice Ap np cp)).toArray) := Lib.hid (by rw [hq]; exact (Whole.setRow_far H110.out (by omega) _))
    have H118 : Hid (AlV q10 (Off [(u2.heap.size + 1), u2.heap.size, (u1.heap.size + 1), u1.heap.size, gC, gA, gd, w.heap.size]) (.agg (alc a.free a.seed a.fresh (.slice Ama a.macs.length cma) (.slice Aba a.boxes.length cba))) a) := Lib.hid (by rw [hq]; exact (AlV.store H111.out (by simp) _))
    have H119 : Hid (Deck gd q10) := Lib.hid (by rw [hq]; exact (Deck.setRow H112.out H113.out (by omega) (fun k hk => by have hk : k < w.heap.size := hk; omega) _))
    have H120 : Hid (DeckIn (fun b => b < w.heap.size) gd q10) := Lib.hid (by rw [hq]; exact (DeckIn.setRow H113.out (by omega) _))
    clear H107 H108 H109 H110 H111 H112 H113
    clear hq
    clear hwy1 hwy2 hyy1 hyy2
    have hcl := dnext 4 (by omega) (by omega) gd q10 H119.out
    go_wp2_with fail
    refine hcl.mono ?_
    rintro e t11 ⟨y3, hy3, rfl, ht⟩
    clear hcl
    have hst11 : q10.heap.size ≤ t11.heap.size := Turn.size ht
    have H121 : Hid (Below w.heap.size w t11) := Lib.hid ((base_turn H114.out ht (by omega)))
    have H122 : Hid (Whole t11 w.heap.size 24 #[.int .i64 ((y1 : Int) - 1), .int .i64 ((y2 : Int) - 1)]) := Lib.hid (((ht).2.2.oth _ _ _ (by omega) H115.out))
    have H123 : Hid (ALRow t11 gA a.free a.seed a.fresh (.slice Ama a.macs.length cma) (.slice Aba a.boxes.length cba)) := Lib.hid (((ht).2.2.oth _ _ _ (by omega) H116.out))
    have H124 : Hid (Whole t11 gC 36 (cnl z K (.slice Ap np cp)).toArray) := Lib.hid (((ht).2.2.oth _ _ _ (by omega) H117.out))
    have H125 : Hid (AlV t11 (Off [(u2.heap.size + 1), u2.heap.size, (u1.heap.size + 1), u1.heap.size, gC, gA, gd, w.heap.size]) (.agg (alc a.free a.seed a.fresh (.slice Ama a.macs.length cma) (.slice Aba a.boxes.length cba))) a) := Lib.hid ((AlV.turn H118.out ht (by simp) (Turn.size ht)))
    have H126 : Hid (Deck gd t11) := Lib.hid ((ht).1)
    have H127 : Hid (DeckIn (fun b => b < w.heap.size) gd t11) := Lib.hid ((DeckIn.oth H120.out ht.2.2))
    clear H114 H115 H116 H117 H118 H119 H120
    clear ht
    by_cases h30 : y3 = 0
    case neg =>
      have h3n : ((y3 : Int) == 0) = false := by simpa using h30
      clear h30
      go_wp2_with fail
      go_roundw
      case rel => exact ⟨z, _, _, i + 1, by go_num, by omega, H122.out, H123.out, H124.out, AlV.mono H125.out fun b _ q y hy => q y (by simp at hy ⊢; omega), H126.out, H127.out, H121.out⟩
      case measure => simp [intOf]; omega
    subst h30
    have pc := (cnl_at H124.out).1
    have pf := Whole.frozen H124.out 0
    go_upto_region 13 with fail
    go_wp2_with fail
    obtain ⟨q, hq⟩ : ∃ q, q = t11.setCell ⟨gC, 0, none⟩ (.int .i64 party) := ⟨_, rfl⟩
    rw [← hq]
    have HK : ∀ g, g ≠ gC → q.heap[g]? = t11.heap[g]? := fun g hg => by rw [hq, heap_setCell_other _ _ _ _ hg]
    have HS : q.heap.size = t11.heap.size := by rw [hq]; simp
    have HXO : Whole q gC 36 (cnl party K (.slice Ap np cp)).toArray := by rw [hq]; exact cnl_party H124.out
    have HBA : Below w.heap.size w q := by rw [hq]; exact Below.setCell (p := ⟨gC, 0, none⟩) H121.out (by show w.heap.size ≤ gC; omega) _
    have H128 : Hid (Whole q w.heap.size 24 #[.int .i64 ((y1 : Int) - 1), .int .i64 ((y2 : Int) - 1)]) := Lib.hid ((HK _ (by omega)).trans H122.out)
    have H129 : Hid (ALRow q gA a.free a.seed a.fresh (.slice Ama a.macs.length cma) (.slice Aba a.boxes.length cba)) := Lib.hid ((HK _ (by omega)).trans H123.out)
    have H130 : Hid (AlV q (Off [(u2.heap.size + 1), u2.heap.size, (u1.heap.size + 1), u1.heap.size, gC, gA, gd, w.heap.size]) (.agg (alc a.free a.seed a.fresh (.slice Ama a.macs.length cma) (.slice Aba a.boxes.length cba))) a) := Lib.hid (AlV.keep H125.out (by rw [HS]; exact Nat.le_refl _) fun g _ hq => HK g (hq _ (by simp)))
    have H131 : Hid (Deck gd q) := Lib.hid (Deck.keepy H126.out (HK _ (by omega)) (fun b hb => HK b (by omega)))
    have H132 : Hid (DeckIn (fun b => b < w.heap.size) gd q) := Lib.hid (DeckIn.keepy H127.out (HK _ (by omega)))
    clear H122 H123 H125 H126 H127
    clear H121 H124
    have H133 : Hid (Below w.heap.size w q) := Lib.hid (HBA)
    have H134 : Hid (Whole q gC 36 (cnl party K (.slice Ap np cp)).toArray) := Lib.hid (HXO)
    clear hq HK HS HXO HBA pc pf
    go_wp2_with fail
    go_roundw
    case rel => exact ⟨party, _, _, i + 1, by go_num, by omega, H128.out, H129.out, H134.out, AlV.mono H130.out fun b _ q y hy => q y (by simp at hy ⊢; omega), H131.out, H132.out, H133.out⟩
    case measure => simp [intOf]; omega
end Go.Proofs.YteekdhcffiaaaaaDoor
