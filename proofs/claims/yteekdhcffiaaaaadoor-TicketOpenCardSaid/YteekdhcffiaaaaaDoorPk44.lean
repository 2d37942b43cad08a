/-
  TkAwk
-/
import Derived.Deep.CutBlock
import Derived.Deep.DeepCutAuto
import Derived.Test.YteekdhcffiaaaaaDoorPk32
import Derived.Test.YteekdhcffiaaaaaDoorPk41
import Derived.Test.YteekdhcffiaaaaaDoorPk42
import Derived.Test.YteekdhcffiaaaaaDoorPk23
import Derived.Test.YteekdhcffiaaaaaDoorPk34
import Derived.Test.YteekdhcffiaaaaaDoorPk27
namespace Go.Proofs.YteekdhcffiaaaaaDoor
open Go Go.RowKit Sh Leaf

set_option maxRecDepth 100000 in
theorem built_con2 {T : List B8} (z : Int) (hT : T.length = 32) : Tryd.prog.built 36 [(0, .int .i64 z), (1, .agg (T.map byt).toArray)] = some (cnl z T (.slice none 0 0)).toArray := by
  unfold cnl
  rw [p32_eq hT]
  obtain ⟨a0, a1, a2, a3, a4, a5, a6, a7, a8, a9, a10, a11, a12, a13, a14, a15, a16, a17, a18, a19, a20, a21, a22, a23, a24, a25, a26, a27, a28, a29, a30, a31, rfl⟩ := ex32 T hT
  simp only [List.map_cons, List.map_nil, List.cons_append, List.nil_append]
  kernel_rfl
theorem wpList_build_con2 {w : World} {ops : Array Oper} {rest : List Oper} {o : Oper} {a : Act} {Q : Exit → Act → World → Prop} (hgd : o.guard = none) (x y : Operand) (ho : o.op = .build 36 #[(0, x), (1, y)]) {z : Int} {T : List B8} (hT : T.length = 32) (hx : a.eval x = .int .i64 z) (hy : a.eval y = .agg (T.map byt).toArray)
    (h : wpList Tryd.prog ops Q rest (a.put o.dst (.agg (cnl z T (.slice none 0 0)).toArray)) w) : wpList Tryd.prog ops Q (o :: rest) a w := by
  refine wpList_build_as hgd 36 _ ho _ ?_ h
  have e : (#[(0, x), (1, y)].map fun (i, x) => (i, a.eval x)).toList = [(0, .int .i64 z), (1, .agg (T.map byt).toArray)] := by simp [hx, hy]
  rw [e, built_con2 z hT]
theorem byt9 : Value.int .u8 9 = byt 9#8 := (byt_lit 9 (by omega)).symm
theorem byt8 : Value.int .u8 8 = byt 8#8 := (byt_lit 8 (by omega)).symm
theorem k98 : tg1 8#8 ≠ tg1 9#8 := fun e => by
  unfold tg1 at e
  injection e with e _
  exact absurd e (by decide)
set_option linter.unusedSimpArgs false in
set_option linter.unusedVariables false in
set_option maxRecDepth 100000 in
set_option maxHeartbeats 8000000 in
theorem tawk (w : World) (hT : Tables w) : Calls Tryd.prog 16 #[] w fun e w' => e = .returned (.bool true) ∧ Below w.heap.size w w' := by
  have HT := Lib.hid hT
  clear hT
  have H1 : Hid (Below w.heap.size w w) := Lib.hid (Below.refl _ _)
  go_enter Tryd.func16, Tryd.ntmps16
  have ks0 : ∀ z0 : Array Value, Whole (w.alloc (.cells z0 36)) w.heap.size 36 z0 := fun _ => (Whole.here _ _ _)
  go_upto_region 2 with (first
    | (with_reducible refine wpList_build_tag1 rfl _ rfl 9#8 byt9 rfl ?_)
    | (with_reducible refine wpList_build_con2 rfl _ _ rfl (tg1_len 9#8) rfl rfl ?_)
    | (with_reducible refine wpList_store_con rfl _ _ rfl (g := w.heap.size) rfl rfl (ks0 _) rfl (cnl_size _ _ _) (cnl_one _ _ _ _ _) ?_))
  clear ks0
  rw [zbk_lit]
  obtain ⟨q1, hq⟩ : ∃ q, q = ((w.alloc (.cells zbk 36)).setRow w.heap.size (cnl 1 (tg1 9#8) (.slice none 0 0)).toArray) := ⟨_, rfl⟩
  rw [← hq]
  have hsq1 : w.heap.size + 1 ≤ q1.heap.size := by rw [hq]; simp
  have H2 : Hid (Below w.heap.size w q1) := Lib.hid (by rw [hq]; exact (below_setRow (Below.trans H1.out (Below.mono (Below.alloc (Below.refl _ _) (Nat.le_refl _) _) (Below.size H1.out))) (by omega) _))
  clear H1
  have H3 : Hid (Whole q1 w.heap.size 36 (cnl 1 (tg1 9#8) (.slice none 0 0)).toArray) := Lib.hid (by rw [hq]; exact (Whole.setRow (Whole.here _ _ _) _))
  clear hq
  have hcl := tblank (vp := .slice none 0 0) 1 18 150 (free_av q1 (fun _ => False)) (by simp) (tg1_len 9#8) (Tables.below HT.out (Nat.le_refl _) H2.out) (fun m hm => newb_free (by rw [key_free (a := freeA) rfl (by decide)]) (tg1_len 9#8) (by omega))
  obtain ⟨R, hR⟩ : ∃ R, R = pBlank freeA 1 (tg1 9#8) 18 150 := ⟨_, rfl⟩
  rw [← hR] at hcl
  obtain ⟨b, ⟨zp, kx, tx⟩, e0⟩ := R
  obtain ⟨h1, h2, hlkx, hop, hno0, hbf⟩ := tk_back (good_new true ztag) (by decide) (by decide) (by decide) ⟨by omega, by omega, by omega⟩ ⟨by omega, by omega⟩ hR
  have hno := hno0 rfl (tg1 8#8) k98
  clear hno0
  dsimp only at h2 hlkx hop hno hbf
  replace h2 := h2.symm
  subst h1 h2
  have HOP := Lib.hid hop
  have HNO := Lib.hid hno
  have HBF := Lib.hid hbf
  clear hR hop hno hbf
  dsimp only [TbR] at hcl
  go_wp2_with (first
    | (with_reducible refine wpList_build_free rfl _ rfl true rfl ?_)
    | (with_reducible refine wpList_load_con rfl _ rfl rfl H3.out (cnl_size _ _ _) ?_))
  refine hcl.mono ?_
  rintro e u2 ⟨⟨x, y, rfl, hx, hy⟩, hbu⟩
  clear hcl
  obtain ⟨Amb, cmb, Abb, cbb, rfl, -, -, -⟩ := id hx
  obtain ⟨AX, cX, rfl, hX, -⟩ := hy
  have hsu2 : q1.heap.size ≤ u2.heap.size := hbu.size
  have H4 : Hid (Below w.heap.size w u2) := Lib.hid ((Below.trans H2.out (Below.mono hbu (Below.size H2.out))))
  have H5 : Hid (Whole u2 w.heap.size 36 (cnl 1 (tg1 9#8) (.slice none 0 0)).toArray) := Lib.hid ((Whole.below H3.out hbu (Whole.lt H3.out)))
  clear H2 H3
  have H6 : Hid (AlV u2 (Off [w.heap.size]) (.agg (alc b.free b.seed b.fresh (.slice Amb b.macs.length cmb) (.slice Abb b.boxes.length cbb))) b) := Lib.hid (hx.mono (fun q hq h y hy => by have h : q1.heap.size ≤ q := h.resolve_left id; simp at hy; omega))
  have H7 : Hid (Bytes u2 (Off [w.heap.size]) (.slice AX tx.length cX) tx) := Lib.hid (hX.mono fun q _ hq y hy => by have hq : q1.heap.size ≤ q := hq; simp at hy; omega)
  clear hx hX hbu
  have ks0 : ∀ z0 z1 : Array Value, Whole ((u2.alloc (.cells z0 32)).alloc (.cells z1 41)) u2.heap.size 32 z0 := fun _ _ => (Whole.alloc (Whole.here _ _ _) _)
  have ks1 : ∀ z0 z1 : Array Value, Whole (((u2.alloc (.cells z0 32)).alloc (.cells z1 41)).setRow u2.heap.size (alc b.free b.seed b.fresh (.slice Amb b.macs.length cmb) (.slice Abb b.boxes.length cbb))) (u2.heap.size + 1) 41 z1 := fun _ _ => (Whole.setRow_far (Whole.at_ _ _ _ _ (by simp)) (by omega) _)
  go_upto_region 3 with (first
    | (with_reducible refine wpList_store_alg rfl _ _ rfl (g := u2.heap.size) rfl rfl (ks0 _ _) rfl (alc_size _ _ _ _ _) (alc_one _ _ _ _ _ _ _ _ _) ?_)
    | (with_reducible refine wpList_store_blk rfl _ _ rfl (g := (u2.heap.size + 1)) rfl rfl (ks1 _ _) rfl (cnl_size _ _ _) (cnl_one _ _ _ _ _) ?_))
  clear ks0 ks1
  rw [zar_lit]
  rw [zbk_lit]
  obtain ⟨q3, hq⟩ : ∃ q, q = ((((u2.alloc (.cells zar 32)).alloc (.cells zbk 41)).setRow u2.heap.size (alc b.free b.seed b.fresh (.slice Amb b.macs.length cmb) (.slice Abb b.boxes.length cbb))).setRow (u2.heap.size + 1) (cnl 1 kx (.slice AX tx.length cX)).toArray) := ⟨_, rfl⟩
  rw [← hq]
  have hsq3 : u2.heap.size + 2 ≤ q3.heap.size := by rw [hq]; simp
  have H8 : Hid (Below w.heap.size w q3) := Lib.hid (by rw [hq]; exact (below_setRow (below_setRow (Below.trans H4.out (Below.mono (Below.alloc (Below.alloc (Below.refl _ _) (Nat.le_refl _) _) (by simp) _) (Below.size H4.out))) (by omega) _) (by omega) _))
  have H9 : Hid (Whole q3 w.heap.size 36 (cnl 1 (tg1 9#8) (.slice none 0 0)).toArray) := Lib.hid (by rw [hq]; exact (Whole.setRow_far (Whole.setRow_far (Whole.below H5.out (Below.alloc (Below.alloc (Below.refl _ _) (Nat.le_refl _) _) (by simp) _) (Whole.lt H5.out)) (by omega) _) (by omega) _))
  have H10 : Hid (AlV q3 (Off [(u2.heap.size + 1), u2.heap.size, w.heap.size]) (.agg (alc b.free b.seed b.fresh (.slice Amb b.macs.length cmb) (.slice Abb b.boxes.length cbb))) b) := Lib.hid (by rw [hq]; exact (AlV.store (AlV.store (AlV.below (AlV.grow (AlV.grow H6.out (by omega)) (by omega)) (Below.alloc (Below.alloc (Below.refl _ _) (Nat.le_refl _) _) (by simp) _) (Nat.le_refl _)) (by simp) _) (by simp) _))
  have H11 : Hid (Bytes q3 (Off [(u2.heap.size + 1), u2.heap.size, w.heap.size]) (.slice AX tx.length cX) tx) := Lib.hid (by rw [hq]; exact (Bytes.store (Bytes.store (Bytes.below (Bytes.grow (Bytes.grow H7.out (by omega)) (by omega)) (Below.alloc (Below.alloc (Below.refl _ _) (Nat.le_refl _) _) (by simp) _) (Nat.le_refl _)) (by simp) _) (by simp) _))
  clear H4 H5 H6 H7
  have H12 : Hid (ALRow q3 u2.heap.size b.free b.seed b.fresh (.slice Amb b.macs.length cmb) (.slice Abb b.boxes.length cbb)) := Lib.hid (by rw [hq]; exact (Whole.setRow_far (Whole.setRow (Whole.alloc (Whole.here _ _ _) _) _) (by omega) _))
  have H13 : Hid (Whole q3 (u2.heap.size + 1) 41 (cnl 1 kx (.slice AX tx.length cX)).toArray) := Lib.hid (by rw [hq]; exact (Whole.setRow (Whole.setRow_far (Whole.at_ _ _ _ _ (by simp)) (by omega) _) _))
  clear hq
  have hct := (cnl_at H13.out).2.2
  have hcl := topen (vp := .slice none 0 0) (z := 1) H10.out (tg1_len 9#8) H11.out (Tables.below HT.out (Nat.le_refl _) H8.out) (fun h => by rw [HBF.out] at h; cases h)
  rw [HOP.out] at hcl
  unfold ToR at hcl
  dsimp only at hcl
  go_wp2_with (first
    | (with_reducible refine wpList_load_alg rfl _ rfl rfl H12.out (alc_size _ _ _ _ _) ?_)
    | (with_reducible refine wpList_load_con rfl _ rfl rfl H9.out (cnl_size _ _ _) ?_))
  refine hcl.mono ?_
  rintro e u4 ⟨rfl, hbu⟩
  clear hcl hct
  have hsu4 : q3.heap.size ≤ u4.heap.size := hbu.size
  have H14 : Hid (Below w.heap.size w u4) := Lib.hid ((Below.trans H8.out (Below.mono hbu (Below.size H8.out))))
  have H15 : Hid (Whole u4 w.heap.size 36 (cnl 1 (tg1 9#8) (.slice none 0 0)).toArray) := Lib.hid ((Whole.below H9.out hbu (Whole.lt H9.out)))
  have H16 : Hid (AlV u4 (Off [(u2.heap.size + 1), u2.heap.size, w.heap.size]) (.agg (alc b.free b.seed b.fresh (.slice Amb b.macs.length cmb) (.slice Abb b.boxes.length cbb))) b) := Lib.hid ((AlV.below H10.out hbu (Nat.le_refl _)))
  have H17 : Hid (Bytes u4 (Off [(u2.heap.size + 1), u2.heap.size, w.heap.size]) (.slice AX tx.length cX) tx) := Lib.hid ((Bytes.below H11.out hbu (Nat.le_refl _)))
  have H18 : Hid (ALRow u4 u2.heap.size b.free b.seed b.fresh (.slice Amb b.macs.length cmb) (.slice Abb b.boxes.length cbb)) := Lib.hid ((Whole.below H12.out hbu (Whole.lt H12.out)))
  have H19 : Hid (Whole u4 (u2.heap.size + 1) 41 (cnl 1 kx (.slice AX tx.length cX)).toArray) := Lib.hid ((Whole.below H13.out hbu (Whole.lt H13.out)))
  clear H8 H9 H10 H11 H12 H13
  clear hbu
  have ks0 : ∀ z0 z1 : Array Value, Whole ((u4.alloc (.cells z0 28)).alloc (.cells z1 24)) u4.heap.size 28 z0 := fun _ _ => (Whole.alloc (Whole.here _ _ _) _)
  have ks1 : ∀ z0 z1 : Array Value, Whole (((u4.alloc (.cells z0 28)).alloc (.cells z1 24)).setRow u4.heap.size (kx.map byt).toArray) (u4.heap.size + 1) 24 z1 := fun _ _ => (Whole.setRow_far (Whole.at_ _ _ _ _ (by simp)) (by omega) _)
  go_upto_region 4 with (first
    | (with_reducible refine wpList_store_tag rfl _ _ rfl (g := u4.heap.size) rfl rfl (ks0 _ _) rfl (tag_size hlkx) (tag_one _) ?_)
    | (with_reducible refine wpList_store_tms rfl _ _ rfl (g := (u4.heap.size + 1)) rfl rfl (ks1 _ _) rfl ?_))
  clear ks0 ks1
  rw [ztm_lit]
  rw [ztr_lit]
  obtain ⟨q5, hq⟩ : ∃ q, q = ((((u4.alloc (.cells ztr 28)).alloc (.cells ztm 24)).setRow u4.heap.size (kx.map byt).toArray).setRow (u4.heap.size + 1) #[.int .i64 18, .int .i64 150]) := ⟨_, rfl⟩
  rw [← hq]
  have hsq5 : u4.heap.size + 2 ≤ q5.heap.size := by rw [hq]; simp
  have H20 : Hid (Below w.heap.size w q5) := Lib.hid (by rw [hq]; exact (below_setRow (below_setRow (Below.trans H14.out (Below.mono (Below.alloc (Below.alloc (Below.refl _ _) (Nat.le_refl _) _) (by simp) _) (Below.size H14.out))) (by omega) _) (by omega) _))
  have H21 : Hid (Whole q5 w.heap.size 36 (cnl 1 (tg1 9#8) (.slice none 0 0)).toArray) := Lib.hid (by rw [hq]; exact (Whole.setRow_far (Whole.setRow_far (Whole.below H15.out (Below.alloc (Below.alloc (Below.refl _ _) (Nat.le_refl _) _) (by simp) _) (Whole.lt H15.out)) (by omega) _) (by omega) _))
  have H22 : Hid (AlV q5 (Off [(u4.heap.size + 1), u4.heap.size, (u2.heap.size + 1), u2.heap.size, w.heap.size]) (.agg (alc b.free b.seed b.fresh (.slice Amb b.macs.length cmb) (.slice Abb b.boxes.length cbb))) b) := Lib.hid (by rw [hq]; exact (AlV.store (AlV.store (AlV.below (AlV.grow (AlV.grow H16.out (by omega)) (by omega)) (Below.alloc (Below.alloc (Below.refl _ _) (Nat.le_refl _) _) (by simp) _) (Nat.le_refl _)) (by simp) _) (by simp) _))
  have H23 : Hid (Bytes q5 (Off [(u4.heap.size + 1), u4.heap.size, (u2.heap.size + 1), u2.heap.size, w.heap.size]) (.slice AX tx.length cX) tx) := Lib.hid (by rw [hq]; exact (Bytes.store (Bytes.store (Bytes.below (Bytes.grow (Bytes.grow H17.out (by omega)) (by omega)) (Below.alloc (Below.alloc (Below.refl _ _) (Nat.le_refl _) _) (by simp) _) (Nat.le_refl _)) (by simp) _) (by simp) _))
  have H24 : Hid (ALRow q5 u2.heap.size b.free b.seed b.fresh (.slice Amb b.macs.length cmb) (.slice Abb b.boxes.length cbb)) := Lib.hid (by rw [hq]; exact (Whole.setRow_far (Whole.setRow_far (Whole.below H18.out (Below.alloc (Below.alloc (Below.refl _ _) (Nat.le_refl _) _) (by simp) _) (Whole.lt H18.out)) (by omega) _) (by omega) _))
  have H25 : Hid (Whole q5 (u2.heap.size + 1) 41 (cnl 1 kx (.slice AX tx.length cX)).toArray) := Lib.hid (by rw [hq]; exact (Whole.setRow_far (Whole.setRow_far (Whole.below H19.out (Below.alloc (Below.alloc (Below.refl _ _) (Nat.le_refl _) _) (by simp) _) (Whole.lt H19.out)) (by omega) _) (by omega) _))
  clear H14 H15 H16 H17 H18 H19
  have H26 : Hid (TGRow q5 u4.heap.size kx) := Lib.hid (by rw [hq]; exact (Whole.setRow_far (Whole.setRow (Whole.alloc (Whole.here _ _ _) _) _) (by omega) _))
  have H27 : Hid (Whole q5 (u4.heap.size + 1) 24 #[.int .i64 18, .int .i64 150]) := Lib.hid (by rw [hq]; exact (Whole.setRow (Whole.setRow_far (Whole.at_ _ _ _ _ (by simp)) (by omega) _) _))
  clear hq
  obtain ⟨R, hR⟩ : ∃ R, R = pOpenT b (tg1 8#8) tx := ⟨_, rfl⟩
  have hlko := pOpenT_len b (tg1 8#8) tx
  have hct := (cnl_at H25.out).2.2
  have hcl := topen (vp := .slice none 0 0) (z := 1) H22.out (tg1_len 8#8) H23.out (Tables.below HT.out (Nat.le_refl _) H20.out) (fun h => by rw [HBF.out] at h; cases h)
  rw [← hR] at hcl hlko
  obtain ⟨ko, ⟨lw, hw⟩, eo⟩ := R
  have h14 : eo = 14 := congrArg (fun r : List B8 × (Int × Int) × Int => r.2.2) (hR.trans HNO.out)
  subst h14
  clear hR HNO
  unfold ToR at hcl
  dsimp only at hcl
  go_wp2_with (first
    | (with_reducible refine wpList_load_alg rfl _ rfl rfl H24.out (alc_size _ _ _ _ _) ?_)
    | (with_reducible refine wpList_build_tag1 rfl _ rfl 8#8 byt8 rfl ?_)
    | (with_reducible refine wpList_build_con2 rfl _ _ rfl (tg1_len 8#8) rfl rfl ?_))
  refine hcl.mono ?_
  rintro e u6 ⟨rfl, hbu⟩
  clear hcl hct
  have hsu6 : q5.heap.size ≤ u6.heap.size := hbu.size
  have H28 : Hid (Below w.heap.size w u6) := Lib.hid ((Below.trans H20.out (Below.mono hbu (Below.size H20.out))))
  have H29 : Hid (Whole u6 w.heap.size 36 (cnl 1 (tg1 9#8) (.slice none 0 0)).toArray) := Lib.hid ((Whole.below H21.out hbu (Whole.lt H21.out)))
  have H30 : Hid (AlV u6 (Off [(u4.heap.size + 1), u4.heap.size, (u2.heap.size + 1), u2.heap.size, w.heap.size]) (.agg (alc b.free b.seed b.fresh (.slice Amb b.macs.length cmb) (.slice Abb b.boxes.length cbb))) b) := Lib.hid ((AlV.below H22.out hbu (Nat.le_refl _)))
  have H31 : Hid (Bytes u6 (Off [(u4.heap.size + 1), u4.heap.size, (u2.heap.size + 1), u2.heap.size, w.heap.size]) (.slice AX tx.length cX) tx) := Lib.hid ((Bytes.below H23.out hbu (Nat.le_refl _)))
  have H32 : Hid (ALRow u6 u2.heap.size b.free b.seed b.fresh (.slice Amb b.macs.length cmb) (.slice Abb b.boxes.length cbb)) := Lib.hid ((Whole.below H24.out hbu (Whole.lt H24.out)))
  have H33 : Hid (Whole u6 (u2.heap.size + 1) 41 (cnl 1 kx (.slice AX tx.length cX)).toArray) := Lib.hid ((Whole.below H25.out hbu (Whole.lt H25.out)))
  have H34 : Hid (TGRow u6 u4.heap.size kx) := Lib.hid ((Whole.below H26.out hbu (Whole.lt H26.out)))
  have H35 : Hid (Whole u6 (u4.heap.size + 1) 24 #[.int .i64 18, .int .i64 150]) := Lib.hid ((Whole.below H27.out hbu (Whole.lt H27.out)))
  clear H20 H21 H22 H23 H24 H25 H26 H27
  clear hbu
  have ks0 : ∀ z0 z1 : Array Value, Whole ((u6.alloc (.cells z0 28)).alloc (.cells z1 24)) u6.heap.size 28 z0 := fun _ _ => (Whole.alloc (Whole.here _ _ _) _)
  have ks1 : ∀ z0 z1 : Array Value, Whole (((u6.alloc (.cells z0 28)).alloc (.cells z1 24)).setRow u6.heap.size (ko.map byt).toArray) (u6.heap.size + 1) 24 z1 := fun _ _ => (Whole.setRow_far (Whole.at_ _ _ _ _ (by simp)) (by omega) _)
  go_upto_region 5 with (first
    | (with_reducible refine wpList_store_tag rfl _ _ rfl (g := u6.heap.size) rfl rfl (ks0 _ _) rfl (tag_size hlko) (tag_one _) ?_)
    | (with_reducible refine wpList_store_tms rfl _ _ rfl (g := (u6.heap.size + 1)) rfl rfl (ks1 _ _) rfl ?_))
  clear ks0 ks1
  rw [ztm_lit]
  rw [ztr_lit]
  obtain ⟨q7, hq⟩ : ∃ q, q = ((((u6.alloc (.cells ztr 28)).alloc (.cells ztm 24)).setRow u6.heap.size (ko.map byt).toArray).setRow (u6.heap.size + 1) #[.int .i64 lw, .int .i64 hw]) := ⟨_, rfl⟩
  rw [← hq]
  have hsq7 : u6.heap.size + 2 ≤ q7.heap.size := by rw [hq]; simp
  have H36 : Hid (Below w.heap.size w q7) := Lib.hid (by rw [hq]; exact (below_setRow (below_setRow (Below.trans H28.out (Below.mono (Below.alloc (Below.alloc (Below.refl _ _) (Nat.le_refl _) _) (by simp) _) (Below.size H28.out))) (by omega) _) (by omega) _))
  have H37 : Hid (Whole q7 w.heap.size 36 (cnl 1 (tg1 9#8) (.slice none 0 0)).toArray) := Lib.hid (by rw [hq]; exact (Whole.setRow_far (Whole.setRow_far (Whole.below H29.out (Below.alloc (Below.alloc (Below.refl _ _) (Nat.le_refl _) _) (by simp) _) (Whole.lt H29.out)) (by omega) _) (by omega) _))
  have H38 : Hid (AlV q7 (Off [(u6.heap.size + 1), u6.heap.size, (u4.heap.size + 1), u4.heap.size, (u2.heap.size + 1), u2.heap.size, w.heap.size]) (.agg (alc b.free b.seed b.fresh (.slice Amb b.macs.length cmb) (.slice Abb b.boxes.length cbb))) b) := Lib.hid (by rw [hq]; exact (AlV.store (AlV.store (AlV.below (AlV.grow (AlV.grow H30.out (by omega)) (by omega)) (Below.alloc (Below.alloc (Below.refl _ _) (Nat.le_refl _) _) (by simp) _) (Nat.le_refl _)) (by simp) _) (by simp) _))
  have H39 : Hid (Bytes q7 (Off [(u6.heap.size + 1), u6.heap.size, (u4.heap.size + 1), u4.heap.size, (u2.heap.size + 1), u2.heap.size, w.heap.size]) (.slice AX tx.length cX) tx) := Lib.hid (by rw [hq]; exact (Bytes.store (Bytes.store (Bytes.below (Bytes.grow (Bytes.grow H31.out (by omega)) (by omega)) (Below.alloc (Below.alloc (Below.refl _ _) (Nat.le_refl _) _) (by simp) _) (Nat.le_refl _)) (by simp) _) (by simp) _))
  have H40 : Hid (ALRow q7 u2.heap.size b.free b.seed b.fresh (.slice Amb b.macs.length cmb) (.slice Abb b.boxes.length cbb)) := Lib.hid (by rw [hq]; exact (Whole.setRow_far (Whole.setRow_far (Whole.below H32.out (Below.alloc (Below.alloc (Below.refl _ _) (Nat.le_refl _) _) (by simp) _) (Whole.lt H32.out)) (by omega) _) (by omega) _))
  have H41 : Hid (Whole q7 (u2.heap.size + 1) 41 (cnl 1 kx (.slice AX tx.length cX)).toArray) := Lib.hid (by rw [hq]; exact (Whole.setRow_far (Whole.setRow_far (Whole.below H33.out (Below.alloc (Below.alloc (Below.refl _ _) (Nat.le_refl _) _) (by simp) _) (Whole.lt H33.out)) (by omega) _) (by omega) _))
  have H42 : Hid (TGRow q7 u4.heap.size kx) := Lib.hid (by rw [hq]; exact (Whole.setRow_far (Whole.setRow_far (Whole.below H34.out (Below.alloc (Below.alloc (Below.refl _ _) (Nat.le_refl _) _) (by simp) _) (Whole.lt H34.out)) (by omega) _) (by omega) _))
  have H43 : Hid (Whole q7 (u4.heap.size + 1) 24 #[.int .i64 18, .int .i64 150]) := Lib.hid (by rw [hq]; exact (Whole.setRow_far (Whole.setRow_far (Whole.below H35.out (Below.alloc (Below.alloc (Below.refl _ _) (Nat.le_refl _) _) (by simp) _) (Whole.lt H35.out)) (by omega) _) (by omega) _))
  clear H28 H29 H30 H31 H32 H33 H34 H35
  have H44 : Hid (TGRow q7 u6.heap.size ko) := Lib.hid (by rw [hq]; exact (Whole.setRow_far (Whole.setRow (Whole.alloc (Whole.here _ _ _) _) _) (by omega) _))
  have H45 : Hid (Whole q7 (u6.heap.size + 1) 24 #[.int .i64 lw, .int .i64 hw]) := Lib.hid (by rw [hq]; exact (Whole.setRow (Whole.setRow_far (Whole.at_ _ _ _ _ (by simp)) (by omega) _) _))
  clear hq
  have hcx := cnl_at H41.out
  rw [p32_eq hlkx] at hcx
  have htT := Whole.cell H43.out
  have t0 := Whole.cell_at H43.out (j := 0) rfl
  have hsk : (Tryd.prog.info? 28).map (·.size) = some (kx.map byt).length := by rw [List.length_map, hlkx]; exact tagSize
  have kq := fun W => eql_tag hlkx hlkx (decide_eq_true rfl) W
  clear htT
  go_wp2_with (first
    | (with_reducible refine wpList_load_wanted_at (by with_unfolding_all rfl) 28 _ rfl u4.heap.size 0 rfl (kx.map byt) _ (TGRow.range H42.out) Tryd.underlying28 rfl hsk ?_)
    | (with_reducible refine wpList_load_wanted_at (by with_unfolding_all rfl) 28 _ rfl (u2.heap.size + 1) 1 rfl (kx.map byt) _ hcx.2.1 Tryd.underlying28 rfl hsk ?_))
  go_ret
  exact ⟨rfl, (H36.out)⟩
end Go.Proofs.YteekdhcffiaaaaaDoor
