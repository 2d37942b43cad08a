/-
  RefNod
  RefMMs
  RefMnt
  RefSPs
  ChnCat
  ChnRoo
  ChnExt
  ChnAwS
  ChnRid
-/
import Derived.Deep.CutBlock
import Derived.Deep.DeepCutAuto
import Derived.Deep.RegionHeld3
import Derived.Test.YtodmfippjcfbbaaDoorKSq
import Derived.Test.YtodmfippjcfbbaaDoorPk22
import Derived.Test.YtodmfippjcfbbaaDoorPk30
import Derived.Test.YtodmfippjcfbbaaDoorPk26
import Derived.Test.YtodmfippjcfbbaaDoorPk6
import Derived.Test.YtodmfippjcfbbaaDoorPk3
import Derived.Test.YtodmfippjcfbbaaDoorKAnyG
import Derived.LoopN
import Derived.Handy
namespace Go.Proofs.YtodmfippjcfbbaaDoor
open Go Go.RowKit Sh Leaf

set_option linter.unusedSimpArgs false in
set_option linter.unusedVariables false in
set_option maxRecDepth 100000 in
set_option maxHeartbeats 8000000 in
theorem rnode {w : World} {Q Q2 : Nat → Prop} {x : Value} {B : Option Addr} {d : Nat} {a : Alg} {K m : List B8} (hx : AlV w Q x a) (hlen : a.macs.length < 900) (hlK : K.length = 32) (hm : Bytes w Q2 (.slice B m.length d) m) (hml : m.length ≤ 100000) :
    Calls Tryd.prog 43 #[x, .agg (K.map byt).toArray, .slice B m.length d] w fun e w' => AlgR w' (fun g => Q g ∨ w.heap.size ≤ g) e (aNode a K m) ∧ Below w.heap.size w w' := by
  obtain ⟨Ama, cma, Aba, cba, rfl, hM, hBx, hA⟩ := id hx
  obtain ⟨p, hp⟩ : ∃ p, p = (((w.alloc (.cells (alc a.free a.seed a.fresh (.slice Ama a.macs.length cma) (.slice Aba a.boxes.length cba)) 32)).alloc (.cells (K.map byt).toArray 28)).alloc (.cells zar 32)).alloc (.cells ztr 28) := ⟨_, rfl⟩
  have hr : ALRow p w.heap.size a.free a.seed a.fresh (.slice Ama a.macs.length cma) (.slice Aba a.boxes.length cba) := by rw [hp]; exact (((Whole.here _ _ _).alloc _).alloc _).alloc _
  have hk : TGRow p (w.heap.size + 1) K := by rw [hp]; exact ((Whole.at_ _ _ _ _ (by simp)).alloc _).alloc _
  have h6 : Whole p (w.heap.size + 1 + 1) 32 zar := by rw [hp]; exact (Whole.at_ _ _ _ _ (by simp)).alloc _
  have h7 : Whole p (w.heap.size + 1 + 1 + 1) 28 ztr := by rw [hp]; exact Whole.at_ _ _ _ _ (by simp)
  have hb : Below w.heap.size w p := by rw [hp]; exact ((((Below.refl _ _).alloc (Nat.le_refl _) _).alloc (by simp) _).alloc (by simp; omega) _).alloc (by simp; omega) _
  have hps : (w.heap.size + 1 + 1 + 1) < p.heap.size := h7.lt
  have hxp := (hx.mono (Q' := fun g => Q g ∧ g < w.heap.size) fun g hg hq => ⟨hq, hg⟩).below hb (Nat.le_refl _)
  have hlT1 : (aMac a K m).2.1.length = 32 := AlV.mac_len hx _ _
  have hcl := rmac hxp (by omega) hlK (hm.below hb (Nat.le_refl _)) hml
  have hma := mac_le a K m
  obtain ⟨R0, hR0⟩ : ∃ R, R = aNode a K m := ⟨_, rfl⟩
  rw [← hR0]
  unfold aNode at hR0
  obtain ⟨R, hR⟩ : ∃ R, R = aMac a K m := ⟨_, rfl⟩
  rw [← hR] at hcl hlT1 hma hR0
  clear hR
  obtain ⟨b, T, eb⟩ := R
  dsimp only [AlgR] at hcl hlT1 hma hR0
  obtain ⟨nm, hnm⟩ : ∃ n, n = m.length := ⟨_, rfl⟩
  rw [← hnm] at hcl ⊢
  have H1 : Hid (Below w.heap.size w p) := Lib.hid (hb)
  have H2 : Hid (ALRow p w.heap.size a.free a.seed a.fresh (.slice Ama a.macs.length cma) (.slice Aba a.boxes.length cba)) := Lib.hid (hr)
  have H3 : Hid (TGRow p (w.heap.size + 1) K) := Lib.hid (hk)
  have H4 : Hid (Whole p (w.heap.size + 1 + 1) 32 zar) := Lib.hid (h6)
  have H5 : Hid (Whole p (w.heap.size + 1 + 1 + 1) 28 ztr) := Lib.hid (h7)
  have HR0 := Lib.hid hR0
  have hlT := hlT1
  clear hR0 hlT1 hb hr hk h6 h7 hx hxp hM hBx hA hm hml hnm
  go_enter Tryd.func43, Tryd.ntmps43
  go_upto_region 1 with fail
  rw [zar_lit, ztr_lit, ← hp]
  clear hp
  go_wp2_with (first
    | (with_reducible refine wpList_load_alg rfl _ rfl rfl H2.out (alc_size _ _ _ _ _) ?_)
    | (with_reducible refine wpList_load_tag rfl _ rfl rfl H3.out (tag_size hlK) ?_))
  refine hcl.mono ?_
  rintro e u1 ⟨⟨v, rfl, hx1⟩, hbu⟩
  clear hcl
  obtain ⟨Amb, cmb, Abb, cbb, rfl, hM, hBx, hA⟩ := hx1
  have hsu1 : p.heap.size ≤ u1.heap.size := hbu.size
  have H6 : Hid (Below w.heap.size w u1) := Lib.hid ((Below.trans H1.out (Below.mono hbu (Below.size H1.out))))
  have H7 : Hid (ALRow u1 w.heap.size a.free a.seed a.fresh (.slice Ama a.macs.length cma) (.slice Aba a.boxes.length cba)) := Lib.hid ((Whole.below H2.out hbu (Whole.lt H2.out)))
  have H8 : Hid (TGRow u1 (w.heap.size + 1) K) := Lib.hid ((Whole.below H3.out hbu (Whole.lt H3.out)))
  have H9 : Hid (Whole u1 (w.heap.size + 1 + 1) 32 zar) := Lib.hid ((Whole.below H4.out hbu (Whole.lt H4.out)))
  have H10 : Hid (Whole u1 (w.heap.size + 1 + 1 + 1) 28 ztr) := Lib.hid ((Whole.below H5.out hbu (Whole.lt H5.out)))
  clear H1 H2 H3 H4 H5
  have H11 : Hid (AlV u1 (fun g => ((Q g ∧ g < w.heap.size) ∨ p.heap.size ≤ g) ∧ g < u1.heap.size) (.agg (alc b.free b.seed b.fresh (.slice Amb b.macs.length cmb) (.slice Abb b.boxes.length cbb))) b) := Lib.hid (AlV.mono ⟨Amb, cmb, Abb, cbb, rfl, hM, hBx, hA⟩ fun g hg hq => by first | exact ⟨hq, hg⟩ | (have hq := hq; omega) | exact hq)
  clear hM hBx hA hbu
  clear H8
  have ks0 : ∀ z0 : Array Value, Whole (u1.alloc (.cells z0 28)) w.heap.size 32 (alc a.free a.seed a.fresh (.slice Ama a.macs.length cma) (.slice Aba a.boxes.length cba)) := fun _ => (Whole.below H7.out (Below.alloc (Below.refl _ _) (Nat.le_refl _) _) (Whole.lt H7.out))
  have ks1 : ∀ z0 : Array Value, Whole ((u1.alloc (.cells z0 28)).setRow w.heap.size (alc b.free b.seed b.fresh (.slice Amb b.macs.length cmb) (.slice Abb b.boxes.length cbb))) u1.heap.size 28 z0 := fun _ => (Whole.setRow_far (Whole.here _ _ _) (by omega) _)
  go_upto_region 2 with (first
    | (with_reducible refine wpList_store_alg rfl _ _ rfl (g := w.heap.size) rfl rfl (ks0 _) (alc_size _ _ _ _ _) (alc_size _ _ _ _ _) (alc_one _ _ _ _ _ _ _ _ _) ?_)
    | (with_reducible refine wpList_store_tag rfl _ _ rfl (g := u1.heap.size) rfl rfl (ks1 _) rfl (tag_size hlT) (tag_one _) ?_))
  clear ks0 ks1
  rw [ztr_lit]
  obtain ⟨q1, hq⟩ : ∃ q, q = (((u1.alloc (.cells ztr 28)).setRow w.heap.size (alc b.free b.seed b.fresh (.slice Amb b.macs.length cmb) (.slice Abb b.boxes.length cbb))).setRow u1.heap.size (T.map byt).toArray) := ⟨_, rfl⟩
  rw [← hq]
  have hsq1 : u1.heap.size + 1 ≤ q1.heap.size := by rw [hq]; simp
  have H12 : Hid (Below w.heap.size w q1) := Lib.hid (by rw [hq]; exact (below_setRow (below_setRow (Below.trans H6.out (Below.mono (Below.alloc (Below.refl _ _) (Nat.le_refl _) _) (Below.size H6.out))) (by omega) _) (by omega) _))
  have H13 : Hid (ALRow q1 w.heap.size b.free b.seed b.fresh (.slice Amb b.macs.length cmb) (.slice Abb b.boxes.length cbb)) := Lib.hid (by rw [hq]; exact (Whole.setRow_far (Whole.setRow (Whole.below H7.out (Below.alloc (Below.refl _ _) (Nat.le_refl _) _) (Whole.lt H7.out)) _) (by omega) _))
  have H14 : Hid (Whole q1 (w.heap.size + 1 + 1) 32 zar) := Lib.hid (by rw [hq]; exact (Whole.setRow_far (Whole.setRow_far (Whole.below H9.out (Below.alloc (Below.refl _ _) (Nat.le_refl _) _) (Whole.lt H9.out)) (by omega) _) (by omega) _))
  have H15 : Hid (Whole q1 (w.heap.size + 1 + 1 + 1) 28 ztr) := Lib.hid (by rw [hq]; exact (Whole.setRow_far (Whole.setRow_far (Whole.below H10.out (Below.alloc (Below.refl _ _) (Nat.le_refl _) _) (Whole.lt H10.out)) (by omega) _) (by omega) _))
  have H16 : Hid (AlV q1 (fun g => ((Q g ∧ g < w.heap.size) ∨ p.heap.size ≤ g) ∧ g < u1.heap.size) (.agg (alc b.free b.seed b.fresh (.slice Amb b.macs.length cmb) (.slice Abb b.boxes.length cbb))) b) := Lib.hid (by rw [hq]; exact (AlV.keep (AlV.keep (AlV.below H11.out (Below.alloc (Below.refl _ _) (Nat.le_refl _) _) (Nat.le_refl _)) (by simp) fun g _ hq => setRow_other _ _ _ _ (by omega)) (by simp) fun g _ hq => setRow_other _ _ _ _ (by omega)))
  clear H6 H7 H9 H10 H11
  have H17 : Hid (TGRow q1 u1.heap.size T) := Lib.hid (by rw [hq]; exact (Whole.setRow (Whole.setRow_far (Whole.here _ _ _) (by omega) _) _))
  clear hq
  by_cases he : eb = 0
  case neg =>
    have HRR : Hid (R0 = (zalg, ztag, eb)) := Lib.hid (by rw [HR0.out, if_pos he])
    have hne : (eb != 0) = true := by simpa using he
    clear he
    go_wp2_with (first
      | (with_reducible refine wpList_store_alg rfl _ _ rfl (g := (w.heap.size + 1 + 1)) rfl rfl H14.out zar_size rfl (by with_unfolding_all rfl) ?_)
      | (with_reducible refine wpList_store_tag rfl _ _ rfl (g := (w.heap.size + 1 + 1 + 1)) rfl rfl (Whole.setRow_far H15.out (by omega) _) ztr_size rfl (by with_unfolding_all rfl) ?_))
    rw [zar_lit, ztr_lit]
    have e1 := Whole.setRow_far (Whole.setRow H14.out zar) (g' := (w.heap.size + 1 + 1 + 1)) (by omega) ztr
    have e2 := Whole.setRow (Whole.setRow_far H15.out (g' := (w.heap.size + 1 + 1)) (by omega) zar) ztr
    refine bodyPost_ret (results_alg3 Tryd.results43 _ rfl rfl _ rfl zar_size ztr_size e1 e2) rfl ?_
    show AlgR _ _ _ R0 ∧ _
    rw [HRR.out]
    exact ⟨⟨_, by rw [ztr_eq]; rfl, alv_zero _ _⟩, below_setRow (below_setRow H12.out (by omega) _) (by omega) _⟩
  subst he
  have hcv := conv_const #[.int .u8 110, .int .u8 111, .int .u8 100, .int .u8 101] 4 4 q1
  have hbm := con_below q1 #[.int .u8 110, .int .u8 111, .int .u8 100, .int .u8 101] 5 (4, 5)
  have hby := con_bytes q1 nodew #[.int .u8 110, .int .u8 111, .int .u8 100, .int .u8 101] 4 nodew_cells rfl (by omega) 4 rfl
  have hcl := rmac (m := nodew) (B := some ⟨q1.heap.size, 0, none⟩) (d := 4) (AlV.below H16.out hbm (Nat.le_refl _)) (by omega) hlT hby (by decide)
  have hlU : (aMac b T nodew).2.1.length = 32 := AlV.mac_len H16.out _ _
  obtain ⟨R, hR⟩ : ∃ R, R = aMac b T nodew := ⟨_, rfl⟩
  have HR1 : Hid (R0 = if R.2.2 ≠ 0 then (zalg, ztag, R.2.2) else (R.1, T, 0)) := Lib.hid (by rw [HR0.out, if_neg (by simp), hR])
  rw [← hR] at hcl hlU
  clear hR HR0
  obtain ⟨c, U, ec⟩ := R
  dsimp only [AlgR] at hcl hlU
  clear hby
  go_upto_region 4 with fail
  have HBM := Lib.hid hbm
  have r3m := Lib.hid (Whole.below H13.out hbm (Whole.lt H13.out))
  have r9m := Lib.hid (Whole.below H17.out hbm (Whole.lt H17.out))
  clear hbm
  go_wp2_with (first
    | (with_reducible refine wpList_load_alg rfl _ rfl rfl H13.out (alc_size _ _ _ _ _) ?_)
    | (with_reducible refine wpList_load_tag rfl _ rfl rfl H17.out (tag_size hlT) ?_)
    | (with_reducible refine wpList_load_alg rfl _ rfl rfl r3m.out (alc_size _ _ _ _ _) ?_)
    | (with_reducible refine wpList_load_tag rfl _ rfl rfl r9m.out (tag_size hlT) ?_))
  refine hcl.mono ?_
  rintro e u2 ⟨⟨v, rfl, hx1⟩, hbu⟩
  clear hcl hcv r3m r9m
  obtain ⟨Amc, cmc, Abc, cbc, rfl, hM, hBx, hA⟩ := hx1
  have hbu2 := HBM.out.trans (hbu.mono (HBM.out.size))
  have hsu2 : q1.heap.size ≤ u2.heap.size := hbu2.size
  have hsm : q1.heap.size ≤ (q1.alloc (.cells #[.int .u8 110, .int .u8 111, .int .u8 100, .int .u8 101] 5 (4, 5))).heap.size := HBM.out.size
  have hsm2 := hbu.size
  clear hbu HBM
  have H18 : Hid (Below w.heap.size w u2) := Lib.hid ((Below.trans H12.out (Below.mono hbu2 (Below.size H12.out))))
  have H19 : Hid (ALRow u2 w.heap.size b.free b.seed b.fresh (.slice Amb b.macs.length cmb) (.slice Abb b.boxes.length cbb)) := Lib.hid ((Whole.below H13.out hbu2 (Whole.lt H13.out)))
  have H20 : Hid (Whole u2 (w.heap.size + 1 + 1) 32 zar) := Lib.hid ((Whole.below H14.out hbu2 (Whole.lt H14.out)))
  have H21 : Hid (Whole u2 (w.heap.size + 1 + 1 + 1) 28 ztr) := Lib.hid ((Whole.below H15.out hbu2 (Whole.lt H15.out)))
  have H22 : Hid (AlV u2 (fun g => ((Q g ∧ g < w.heap.size) ∨ p.heap.size ≤ g) ∧ g < u1.heap.size) (.agg (alc b.free b.seed b.fresh (.slice Amb b.macs.length cmb) (.slice Abb b.boxes.length cbb))) b) := Lib.hid ((AlV.below H16.out hbu2 (Nat.le_refl _)))
  have H23 : Hid (TGRow u2 u1.heap.size T) := Lib.hid ((Whole.below H17.out hbu2 (Whole.lt H17.out)))
  clear H12 H13 H14 H15 H16 H17
  have H24 : Hid (AlV u2 (fun g => (Q g ∧ g < w.heap.size) ∨ p.heap.size ≤ g) (.agg (alc c.free c.seed c.fresh (.slice Amc c.macs.length cmc) (.slice Abc c.boxes.length cbc))) c) := Lib.hid (AlV.mono ⟨Amc, cmc, Abc, cbc, rfl, hM, hBx, hA⟩ fun g hg hq => by rcases hq with hq | hq; exact hq.1; exact .inr (by omega))
  clear hM hBx hA hbu2
  clear H22
  have ks0 : Whole u2 w.heap.size 32 (alc b.free b.seed b.fresh (.slice Amb b.macs.length cmb) (.slice Abb b.boxes.length cbb)) := H19.out
  go_upto_region 5 with (with_reducible refine wpList_store_alg rfl _ _ rfl (g := w.heap.size) rfl rfl (ks0) (alc_size _ _ _ _ _) (alc_size _ _ _ _ _) (alc_one _ _ _ _ _ _ _ _ _) ?_)
  clear ks0
  obtain ⟨q2, hq⟩ : ∃ q, q = (u2.setRow w.heap.size (alc c.free c.seed c.fresh (.slice Amc c.macs.length cmc) (.slice Abc c.boxes.length cbc))) := ⟨_, rfl⟩
  rw [← hq]
  have hsq2 : u2.heap.size ≤ q2.heap.size := by rw [hq]; simp
  have H25 : Hid (Below w.heap.size w q2) := Lib.hid (by rw [hq]; exact (below_setRow H18.out (by omega) _))
  have H26 : Hid (ALRow q2 w.heap.size c.free c.seed c.fresh (.slice Amc c.macs.length cmc) (.slice Abc c.boxes.length cbc)) := Lib.hid (by rw [hq]; exact (Whole.setRow H19.out _))
  have H27 : Hid (Whole q2 (w.heap.size + 1 + 1) 32 zar) := Lib.hid (by rw [hq]; exact (Whole.setRow_far H20.out (by omega) _))
  have H28 : Hid (Whole q2 (w.heap.size + 1 + 1 + 1) 28 ztr) := Lib.hid (by rw [hq]; exact (Whole.setRow_far H21.out (by omega) _))
  have H29 : Hid (TGRow q2 u1.heap.size T) := Lib.hid (by rw [hq]; exact (Whole.setRow_far H23.out (by omega) _))
  have H30 : Hid (AlV q2 (fun g => (Q g ∧ g < w.heap.size) ∨ p.heap.size ≤ g) (.agg (alc c.free c.seed c.fresh (.slice Amc c.macs.length cmc) (.slice Abc c.boxes.length cbc))) c) := Lib.hid (by rw [hq]; exact (AlV.keep H24.out (by simp) fun g _ hq => setRow_other _ _ _ _ (by omega)))
  clear H18 H19 H20 H21 H23 H24
  clear hq
  by_cases he : ec = 0
  case neg =>
    have HRR : Hid (R0 = (zalg, ztag, ec)) := Lib.hid (by rw [HR1.out, if_pos he])
    have hne : (ec != 0) = true := by simpa using he
    clear he
    go_wp2_with (first
      | (with_reducible refine wpList_store_alg rfl _ _ rfl (g := (w.heap.size + 1 + 1)) rfl rfl H27.out zar_size rfl (by with_unfolding_all rfl) ?_)
      | (with_reducible refine wpList_store_tag rfl _ _ rfl (g := (w.heap.size + 1 + 1 + 1)) rfl rfl (Whole.setRow_far H28.out (by omega) _) ztr_size rfl (by with_unfolding_all rfl) ?_))
    rw [zar_lit, ztr_lit]
    have e1 := Whole.setRow_far (Whole.setRow H27.out zar) (g' := (w.heap.size + 1 + 1 + 1)) (by omega) ztr
    have e2 := Whole.setRow (Whole.setRow_far H28.out (g' := (w.heap.size + 1 + 1)) (by omega) zar) ztr
    refine bodyPost_ret (results_alg3 Tryd.results43 _ rfl rfl _ rfl zar_size ztr_size e1 e2) rfl ?_
    show AlgR _ _ _ R0 ∧ _
    rw [HRR.out]
    exact ⟨⟨_, by rw [ztr_eq]; rfl, alv_zero _ _⟩, below_setRow (below_setRow H25.out (by omega) _) (by omega) _⟩
  subst he
  have HRR : Hid (R0 = (c, T, 0)) := Lib.hid (by rw [HR1.out, if_neg (by simp)])
  have hsz : (Tryd.prog.info? 32).map (·.size) = some (alcl c.free c.seed c.fresh (.slice Amc c.macs.length cmc) (.slice Abc c.boxes.length cbc)).length := by rw [alcl_length]; exact algSize
  have hst : (Tryd.prog.info? 28).map (·.size) = some (T.map byt).length := by rw [List.length_map, hlT]; exact tagSize
  have h6d : Whole q2.drew (w.heap.size + 1 + 1) 32 zar := Whole.drew H27.out
  have h7d : Whole q2.drew (w.heap.size + 1 + 1 + 1) 28 ztr := Whole.drew H28.out
  have bbd : Below w.heap.size w q2.drew := Below.drew H25.out
  have i0d : q2.drew.rangeAt w.heap.size 0 (alcl c.free c.seed c.fresh (.slice Amc c.macs.length cmc) (.slice Abc c.boxes.length cbc)) := (Whole.range (Whole.drew H26.out))
  have i1d : q2.drew.rangeAt u1.heap.size 0 (T.map byt) := (TGRow.range (Whole.drew H29.out))
  have kvd : AlV q2.drew (fun g => (Q g ∧ g < w.heap.size) ∨ p.heap.size ≤ g) (.agg (alc c.free c.seed c.fresh (.slice Amc c.macs.length cmc) (.slice Abc c.boxes.length cbc))) c := AlV.below H30.out (Below.drew (Below.refl _ _)) (Nat.le_refl _)
  go_upto_region 7 with fail
  refine wp_region_held_drew (S := fun W => W.rangeAt w.heap.size 0 (alcl c.free c.seed c.fresh (.slice Amc c.macs.length cmc) (.slice Abc c.boxes.length cbc)) ∧ W.rangeAt u1.heap.size 0 (T.map byt)) (by kernel_rfl) (⟨i0d, i1d⟩) (fun hHeld => ?_)
  apply wpT (i := 0) rfl (by kernel_rfl)
  case hQ => exact fun _ _ _ h => h
  case hS => exact hHeld
  case hy => exact yieldsIf_load_mid (by rfl) 32 _ rfl w.heap.size 0 rfl (alcl c.free c.seed c.fresh (.slice Amc c.macs.length cmc) (.slice Abc c.boxes.length cbc)) _ (fun w hS => hS.1) Tryd.underlying32 rfl hsz
  (try simp only [sq])
  apply wpT (i := 1) rfl (by kernel_rfl)
  case hQ => exact fun _ _ _ h => h
  case hS => exact hHeld
  case hy => exact yieldsIf_load_mid (by rfl) 28 _ rfl u1.heap.size 0 rfl (T.map byt) _ (fun w hS => hS.2) Tryd.underlying28 rfl hst
  (try simp only [sq])
  refine wpAnyH_ready (rs := [2]) (by kernel_rfl) (by simp) ?_
  refine AllReadyH.cons rfl (fun KK hKK => ?_) AllReadyH.nil
  obtain ⟨X1, hX1⟩ : ∃ x, x = q2.drew.setRow (w.heap.size + 1 + 1) (alcl c.free c.seed c.fresh (.slice Amc c.macs.length cmc) (.slice Abc c.boxes.length cbc)).toArray := ⟨_, rfl⟩
  have e1 : Whole X1 (w.heap.size + 1 + 1) 32 (alcl c.free c.seed c.fresh (.slice Amc c.macs.length cmc) (.slice Abc c.boxes.length cbc)).toArray := by rw [hX1]; exact Whole.setRow h6d _
  have h7X1 : Whole X1 (w.heap.size + 1 + 1 + 1) 28 ztr := by rw [hX1]; exact Whole.setRow_far h7d (by omega) _
  have bbX1 : Below w.heap.size w X1 := by rw [hX1]; exact below_setRow bbd (by omega) _
  have i0X1 : X1.rangeAt w.heap.size 0 (alcl c.free c.seed c.fresh (.slice Amc c.macs.length cmc) (.slice Abc c.boxes.length cbc)) := by rw [hX1]; exact (fun i v hv => (cell_setRow_other _ _ _ _ (by show w.heap.size ≠ (w.heap.size + 1 + 1); omega)).trans (i0d i v hv))
  have i1X1 : X1.rangeAt u1.heap.size 0 (T.map byt) := by rw [hX1]; exact (fun i v hv => (cell_setRow_other _ _ _ _ (by show u1.heap.size ≠ (w.heap.size + 1 + 1); omega)).trans (i1d i v hv))
  have kvX1 : AlV X1 (fun g => (Q g ∧ g < w.heap.size) ∨ p.heap.size ≤ g) (.agg (alc c.free c.seed c.fresh (.slice Amc c.macs.length cmc) (.slice Abc c.boxes.length cbc))) c := by rw [hX1]; exact AlV.keep kvd (by simp) fun g _ hq => setRow_other _ _ _ _ (by omega)
  rw [if_pos (by kernel_rfl)]
  refine wp_store_row 32 _ _ rfl (w.heap.size + 1 + 1) _ rfl rfl 32 _ h6d (by rw [algSize, List.size_toArray, alcl_length]) (by rw [zar_size, List.size_toArray, alcl_length]) (alc_one _ _ _ _ _ _ _ _ _) ?_
  rw [← hX1]
  clear hX1
  refine hKK.out _ _ (⟨i0X1, i1X1⟩) (fun hHeld => ?_)
  clear hKK KK
  (try simp only [sq])
  refine wpAnyH_ready (rs := [3]) (by kernel_rfl) (by simp) ?_
  refine AllReadyH.cons rfl (fun KK hKK => ?_) AllReadyH.nil
  obtain ⟨X2, hX2⟩ : ∃ x, x = X1.setRow (w.heap.size + 1 + 1 + 1) (T.map byt).toArray := ⟨_, rfl⟩
  have e1b : Whole X2 (w.heap.size + 1 + 1) 32 (alcl c.free c.seed c.fresh (.slice Amc c.macs.length cmc) (.slice Abc c.boxes.length cbc)).toArray := by rw [hX2]; exact Whole.setRow_far e1 (by omega) _
  have e2 : Whole X2 (w.heap.size + 1 + 1 + 1) 28 (T.map byt).toArray := by rw [hX2]; exact Whole.setRow h7X1 _
  have bbX2 : Below w.heap.size w X2 := by rw [hX2]; exact below_setRow bbX1 (by omega) _
  have i0X2 : X2.rangeAt w.heap.size 0 (alcl c.free c.seed c.fresh (.slice Amc c.macs.length cmc) (.slice Abc c.boxes.length cbc)) := by rw [hX2]; exact (fun i v hv => (cell_setRow_other _ _ _ _ (by show w.heap.size ≠ (w.heap.size + 1 + 1 + 1); omega)).trans (i0X1 i v hv))
  have i1X2 : X2.rangeAt u1.heap.size 0 (T.map byt) := by rw [hX2]; exact (fun i v hv => (cell_setRow_other _ _ _ _ (by show u1.heap.size ≠ (w.heap.size + 1 + 1 + 1); omega)).trans (i1X1 i v hv))
  have kvX2 : AlV X2 (fun g => (Q g ∧ g < w.heap.size) ∨ p.heap.size ≤ g) (.agg (alc c.free c.seed c.fresh (.slice Amc c.macs.length cmc) (.slice Abc c.boxes.length cbc))) c := by rw [hX2]; exact AlV.keep kvX1 (by simp) fun g _ hq => setRow_other _ _ _ _ (by omega)
  rw [if_pos (by kernel_rfl)]
  refine wp_store_row 28 _ _ rfl (w.heap.size + 1 + 1 + 1) _ rfl rfl 28 _ h7X1 (by rw [tagSize, tag_size hlT]) (by rw [ztr_size, tag_size hlT]) (tag_one _) ?_
  rw [← hX2]
  clear hX2
  refine hKK.out _ _ (⟨i0X2, i1X2⟩) (fun hHeld => ?_)
  clear hKK KK
  (try simp only [sq])
  apply wpT (i := 4) rfl (by kernel_rfl)
  case hQ => exact fun _ _ _ h => h
  case hS => exact hHeld
  case hy => (refine Or.inl ⟨by rfl, ?_⟩; intro w hSw; (try go_split_ands); go_simp; (try with_reducible rfl))
  (try simp only [sq])
  refine wpAnyH_done (by kernel_rfl) ?_ _
  go_wp2_with fail
  refine bodyPost_ret (results_alg3 Tryd.results43 _ rfl rfl _ rfl (by rw [List.size_toArray, alcl_length]) (by rw [tag_size hlT]) e1b e2) rfl ?_
  show AlgR _ _ _ R0 ∧ _
  rw [HRR.out]
  exact ⟨⟨_, rfl, AlV.mono kvX2 fun g _ hq => by rcases hq with hq | hq; exact .inl hq.1; exact .inr (by omega)⟩, bbX2⟩
end Go.Proofs.YtodmfippjcfbbaaDoor
namespace Go.Proofs.YtodmfippjcfbbaaDoor
open Go Go.RowKit Sh Leaf

theorem mint_word : sbytes { data := #[109, 105, 110, 116] } = mintw := by unfold mintw; decide
set_option linter.unusedSimpArgs false in
set_option maxRecDepth 20000 in
set_option maxHeartbeats 2000000 in
theorem rmintm (n : Nat) (hn : n ≤ 281474976710656) (w : World) :
    Calls Tryd.prog 44 #[.int .i64 (n : Int)] w fun e w' => (∃ B d, e = .returned (.slice B (mintm n).length d) ∧ Bytes w' (fun b => w.heap.size ≤ b) (.slice B (mintm n).length d) (mintm n)) ∧ Below w.heap.size w w' := by
  have hcl := number n w hn
  have hp := enc_pos n
  have h7 := enc_len7 hn
  go_enter Tryd.func44, Tryd.ntmps44
  go_wp2_with fail
  refine hcl.mono ?_
  rintro e w1 ⟨v, rfl, hown, hb⟩
  clear hcl
  have hcl := rword { data := #[109, 105, 110, 116] } (by decide) v (enc n) _ w1 (Bytes.of_own hown) hp (by omega)
  rw [mint_word] at hcl
  have HB := Lib.hid hb
  clear hown hb
  go_wp2_with fail
  refine hcl.mono ?_
  rintro e w2 ⟨v2, rfl, hown, hb⟩
  clear hcl
  have h1 : Bytes w2 (fun b => w.heap.size ≤ b) v2 (mintm n) := hown.bytes.mono fun b _ h => Nat.le_trans HB.out.size h
  obtain ⟨B, d, rfl, -⟩ := id h1
  have H1 := Lib.hid h1
  have HB2 := Lib.hid (HB.out.trans (hb.mono HB.out.size))
  clear hown hb h1
  go_wp2_with fail
  go_ret
  exact ⟨⟨B, d, rfl, H1.out⟩, HB2.out⟩
end Go.Proofs.YtodmfippjcfbbaaDoor
namespace Go.Proofs.YtodmfippjcfbbaaDoor
open Go Go.RowKit Sh Leaf

def rMnP (w p : World) (z : Int) (K : List B8) (R : Alg × List B8 × Int) (PQ : Nat → Prop) (s9 s10 : Value) (wx : World) : Prop := ∃ (G10 : Nat) (Am Ab : Option Addr) (cm cb : Nat), s9 = .pointer (some ⟨G10, 0, none⟩) ∧ s10 = .int .i64 R.2.2 ∧ ALRow wx w.heap.size R.1.free R.1.seed R.1.fresh (.slice Am R.1.macs.length cm) (.slice Ab R.1.boxes.length cb) ∧ TGRow wx G10 R.2.1 ∧ AlV wx (fun g => PQ g ∧ g ≠ w.heap.size ∧ g ≠ G10) (.agg (alc R.1.free R.1.seed R.1.fresh (.slice Am R.1.macs.length cm) (.slice Ab R.1.boxes.length cb))) R.1 ∧ Below w.heap.size w wx ∧ Whole wx (w.heap.size + 1) 49 (epl z K).toArray ∧ Whole wx (w.heap.size + 1 + 1) 32 zar ∧ Whole wx (w.heap.size + 1 + 1 + 1) 45 zps ∧ p.heap.size ≤ G10
theorem repl_num {w : World} {g : Nat} {z : Int} {K : List B8} (h : Whole w g 49 (epl z K).toArray) : w.cell? ⟨g, 0, none⟩ = some (.int .i64 z) := by
  rw [Whole.cell h]; rfl
theorem repl_key {w : World} {g : Nat} {z : Int} {K : List B8} (hK : K.length = 32) (h : Whole w g 49 (epl z K).toArray) : w.rangeAt g 1 (K.map byt) := fun i v hv => by
  rw [Whole.cell h, List.getElem?_toArray]
  unfold epl
  rw [p32_eq hK, show 1 + i = i + 1 by omega, List.getElem?_cons_succ]
  exact hv
set_option linter.unusedSimpArgs false in
set_option linter.unusedVariables false in
set_option maxRecDepth 100000 in
set_option maxHeartbeats 8000000 in
theorem rmint {w : World} {Q : Nat → Prop} {x : Value} {a : Alg} {K : List B8} (z s : Int) (hx : AlV w Q x a) (hlen : a.macs.length < 800) (hlK : K.length = 32) :
    Calls Tryd.prog 16 #[x, .agg (epl z K).toArray, .int .i64 s] w fun e w' => PssR w' (fun g => Q g ∨ w.heap.size ≤ g) e (pMint a z K s) ∧ Below w.heap.size w w' := by
  obtain ⟨Ama, cma, Aba, cba, rfl, hM, hBx, hA⟩ := id hx
  obtain ⟨p, hp⟩ : ∃ p, p = (((w.alloc (.cells (alc a.free a.seed a.fresh (.slice Ama a.macs.length cma) (.slice Aba a.boxes.length cba)) 32)).alloc (.cells (epl z K).toArray 49)).alloc (.cells zar 32)).alloc (.cells zps 45) := ⟨_, rfl⟩
  have hr : ALRow p w.heap.size a.free a.seed a.fresh (.slice Ama a.macs.length cma) (.slice Aba a.boxes.length cba) := by rw [hp]; exact (((Whole.here _ _ _).alloc _).alloc _).alloc _
  have hk : Whole p (w.heap.size + 1) 49 (epl z K).toArray := by rw [hp]; exact ((Whole.at_ _ _ _ _ (by simp)).alloc _).alloc _
  have h6 : Whole p (w.heap.size + 1 + 1) 32 zar := by rw [hp]; exact (Whole.at_ _ _ _ _ (by simp)).alloc _
  have h7 : Whole p (w.heap.size + 1 + 1 + 1) 45 zps := by rw [hp]; exact Whole.at_ _ _ _ _ (by simp)
  have hb : Below w.heap.size w p := by rw [hp]; exact ((((Below.refl _ _).alloc (Nat.le_refl _) _).alloc (by simp) _).alloc (by simp; omega) _).alloc (by simp; omega) _
  have hps : (w.heap.size + 1 + 1 + 1) < p.heap.size := h7.lt
  have hcz := repl_num hk
  have hxp := (hx.mono (Q' := fun g => Q g ∧ g < w.heap.size) fun g hg hq => ⟨hq, hg⟩).below hb (Nat.le_refl _)
  obtain ⟨R0, hR0⟩ : ∃ R, R = pMint a z K s := ⟨_, rfl⟩
  rw [← hR0]
  unfold pMint at hR0
  have HR0 := Lib.hid hR0
  have HXP := Lib.hid hxp
  have H1 : Hid (Below w.heap.size w p) := Lib.hid (hb)
  have H2 : Hid (ALRow p w.heap.size a.free a.seed a.fresh (.slice Ama a.macs.length cma) (.slice Aba a.boxes.length cba)) := Lib.hid (hr)
  have H3 : Hid (Whole p (w.heap.size + 1) 49 (epl z K).toArray) := Lib.hid (hk)
  have H4 : Hid (Whole p (w.heap.size + 1 + 1) 32 zar) := Lib.hid (h6)
  have H5 : Hid (Whole p (w.heap.size + 1 + 1 + 1) 45 zps) := Lib.hid (h7)
  have hl32 : ∀ m, (aNode a K m).2.1.length = 32 := fun m => by
    unfold aNode
    split
    · simp
    split
    · simp
    · exact AlV.mac_len hx _ _
  have HL32 := Lib.hid hl32
  clear hR0 hb hr hk h6 h7 hx hxp hM hBx hA hl32
  by_cases hmi : minto z s
  case neg =>
    have HRR : Hid (R0 = (zalg, zpss, 1)) := Lib.hid (by rw [HR0.out, if_neg hmi])
    have hor : z < 1 ∨ (¬ z < 1 ∧ 1000 < z) ∨ (¬ z < 1 ∧ ¬ 1000 < z ∧ s < 1) ∨ (¬ z < 1 ∧ ¬ 1000 < z ∧ ¬ s < 1 ∧ 1073741824 < s) := by unfold minto at hmi; omega
    clear hmi
    rcases hor with h1 | ⟨h1, h2⟩ | ⟨h1, h2, h3⟩ | ⟨h1, h2, h3, h4⟩
    · skip
      go_enter Tryd.func16, Tryd.ntmps16
      go_upto_region 1 with fail
      rw [zar_lit, zps_lit, ← hp]
      clear hp
      go_wp2_with (first
        | (with_reducible refine wpList_store_alg rfl _ _ rfl (g := (w.heap.size + 1 + 1)) rfl rfl H4.out zar_size rfl (by with_unfolding_all rfl) ?_)
        | (with_reducible refine wpList_store_pass rfl _ _ rfl (g := (w.heap.size + 1 + 1 + 1)) rfl rfl (Whole.setRow_far H5.out (by omega) _) zps_size rfl (by with_unfolding_all rfl) ?_))
      rw [zar_lit, zps_lit]
      have e1 := Whole.setRow_far (Whole.setRow H4.out zar) (g' := (w.heap.size + 1 + 1 + 1)) (by omega) zps
      have e2 := Whole.setRow (Whole.setRow_far H5.out (g' := (w.heap.size + 1 + 1)) (by omega) zar) zps
      refine bodyPost_ret (results_pass3 Tryd.results16 _ rfl rfl _ rfl zar_size zps_size e1 e2) rfl ?_
      rw [HRR.out]
      exact ⟨⟨_, _, rfl, alv_zero _ _, pss_zero _ _⟩, below_setRow (below_setRow H1.out (by omega) _) (by omega) _⟩
    · skip
      go_enter Tryd.func16, Tryd.ntmps16
      go_upto_region 1 with fail
      rw [zar_lit, zps_lit, ← hp]
      clear hp
      go_wp2_with (first
        | (with_reducible refine wpList_store_alg rfl _ _ rfl (g := (w.heap.size + 1 + 1)) rfl rfl H4.out zar_size rfl (by with_unfolding_all rfl) ?_)
        | (with_reducible refine wpList_store_pass rfl _ _ rfl (g := (w.heap.size + 1 + 1 + 1)) rfl rfl (Whole.setRow_far H5.out (by omega) _) zps_size rfl (by with_unfolding_all rfl) ?_))
      rw [zar_lit, zps_lit]
      have e1 := Whole.setRow_far (Whole.setRow H4.out zar) (g' := (w.heap.size + 1 + 1 + 1)) (by omega) zps
      have e2 := Whole.setRow (Whole.setRow_far H5.out (g' := (w.heap.size + 1 + 1)) (by omega) zar) zps
      refine bodyPost_ret (results_pass3 Tryd.results16 _ rfl rfl _ rfl zar_size zps_size e1 e2) rfl ?_
      rw [HRR.out]
      exact ⟨⟨_, _, rfl, alv_zero _ _, pss_zero _ _⟩, below_setRow (below_setRow H1.out (by omega) _) (by omega) _⟩
    · skip
      go_enter Tryd.func16, Tryd.ntmps16
      go_upto_region 1 with fail
      rw [zar_lit, zps_lit, ← hp]
      clear hp
      go_wp2_with (first
        | (with_reducible refine wpList_store_alg rfl _ _ rfl (g := (w.heap.size + 1 + 1)) rfl rfl H4.out zar_size rfl (by with_unfolding_all rfl) ?_)
        | (with_reducible refine wpList_store_pass rfl _ _ rfl (g := (w.heap.size + 1 + 1 + 1)) rfl rfl (Whole.setRow_far H5.out (by omega) _) zps_size rfl (by with_unfolding_all rfl) ?_))
      rw [zar_lit, zps_lit]
      have e1 := Whole.setRow_far (Whole.setRow H4.out zar) (g' := (w.heap.size + 1 + 1 + 1)) (by omega) zps
      have e2 := Whole.setRow (Whole.setRow_far H5.out (g' := (w.heap.size + 1 + 1)) (by omega) zar) zps
      refine bodyPost_ret (results_pass3 Tryd.results16 _ rfl rfl _ rfl zar_size zps_size e1 e2) rfl ?_
      rw [HRR.out]
      exact ⟨⟨_, _, rfl, alv_zero _ _, pss_zero _ _⟩, below_setRow (below_setRow H1.out (by omega) _) (by omega) _⟩
    · skip
      go_enter Tryd.func16, Tryd.ntmps16
      go_upto_region 1 with fail
      rw [zar_lit, zps_lit, ← hp]
      clear hp
      go_wp2_with (first
        | (with_reducible refine wpList_store_alg rfl _ _ rfl (g := (w.heap.size + 1 + 1)) rfl rfl H4.out zar_size rfl (by with_unfolding_all rfl) ?_)
        | (with_reducible refine wpList_store_pass rfl _ _ rfl (g := (w.heap.size + 1 + 1 + 1)) rfl rfl (Whole.setRow_far H5.out (by omega) _) zps_size rfl (by with_unfolding_all rfl) ?_))
      rw [zar_lit, zps_lit]
      have e1 := Whole.setRow_far (Whole.setRow H4.out zar) (g' := (w.heap.size + 1 + 1 + 1)) (by omega) zps
      have e2 := Whole.setRow (Whole.setRow_far H5.out (g' := (w.heap.size + 1 + 1)) (by omega) zar) zps
      refine bodyPost_ret (results_pass3 Tryd.results16 _ rfl rfl _ rfl zar_size zps_size e1 e2) rfl ?_
      rw [HRR.out]
      exact ⟨⟨_, _, rfl, alv_zero _ _, pss_zero _ _⟩, below_setRow (below_setRow H1.out (by omega) _) (by omega) _⟩
  obtain ⟨n, rfl⟩ := Int.eq_ofNat_of_zero_le (show 0 ≤ s by have := hmi.2.2.1; omega)
  have hn : n ≤ 281474976710656 := by have := hmi.2.2.2; omega
  obtain ⟨m, hm⟩ : ∃ m, m = mintm n := ⟨_, rfl⟩
  obtain ⟨R, hR⟩ : ∃ R, R = aNode a K m := ⟨_, rfl⟩
  have hlT : R.2.1.length = 32 := by rw [hR]; exact HL32.out m
  have HR1 : Hid (R0 = if R.2.2 ≠ 0 then (zalg, zpss, R.2.2) else (R.1, ⟨z, (n : Int), [], R.2.1⟩, 0)) := Lib.hid (by rw [HR0.out, if_pos hmi, Int.toNat_natCast, ← hm, ← hR])
  have hml : m.length ≤ 100000 := by rw [hm]; have := mintm_len hn; omega
  have HMI := Lib.hid hmi
  have HRE := Lib.hid hR
  have hcm := fun W => rmintm n hn W
  rw [← hm] at hcm
  have HCM := Lib.hid hcm
  have hi1 : (1 : Int) ≤ z := hmi.1
  have hi2 : z ≤ 1000 := hmi.2.1
  have hi3 : (1 : Int) ≤ (n : Int) := hmi.2.2.1
  have hi4 : (n : Int) ≤ 1073741824 := hmi.2.2.2
  clear hR HR0 hm hcm HL32 hn
  clear hmi
  go_enter Tryd.func16, Tryd.ntmps16
  go_upto_region 1 with fail
  rw [zar_lit, zps_lit, ← hp]
  clear hp
  go_upto_region 3 with fail
  (try simp only [Act.put])
  clear hi1 hi2 hi3 hi4
  go_cut [9, 10] (fun s9 s10 wx => rMnP w p z K R (fun g => (Q g ∧ g < w.heap.size) ∨ p.heap.size ≤ g) s9 s10 wx)
  case first =>
    have HCC : Hid (∀ W, Below p.heap.size p W → (fun W : World => W.rangeAt w.heap.size 0 (alcl a.free a.seed a.fresh (.slice Ama a.macs.length cma) (.slice Aba a.boxes.length cba)) ∧ W.rangeAt (w.heap.size + 1) 1 (K.map byt)) W) := Lib.hid fun W hb => ⟨Whole.range (Whole.below H2.out hb (Whole.lt H2.out)), repl_key hlK (Whole.below H3.out hb (Whole.lt H3.out))⟩
    have hb0 : Below p.heap.size p p.drew := Below.drew (Below.refl _ _)
    have hs0 : p.heap.size ≤ p.drew.heap.size := hb0.size
    have r_x3_0 : Whole p.drew (w.heap.size) 32 (alc a.free a.seed a.fresh (.slice Ama a.macs.length cma) (.slice Aba a.boxes.length cba)) := Whole.drew H2.out
    have xE_0 : Whole p.drew ((w.heap.size + 1)) 49 (epl z K).toArray := Whole.drew H3.out
    have x6_0 : Whole p.drew ((w.heap.size + 1 + 1)) 32 zar := Whole.drew H4.out
    have x7_0 : Whole p.drew ((w.heap.size + 1 + 1 + 1)) 45 zps := Whole.drew H5.out
    refine wp_region_G (fun W : World => W.rangeAt w.heap.size 0 (alcl a.free a.seed a.fresh (.slice Ama a.macs.length cma) (.slice Aba a.boxes.length cba)) ∧ W.rangeAt (w.heap.size + 1) 1 (K.map byt)) (fun _ => True) [11] (by kernel_rfl) ?_
    have hHeld : (fun W : World => W.rangeAt w.heap.size 0 (alcl a.free a.seed a.fresh (.slice Ama a.macs.length cma) (.slice Aba a.boxes.length cba)) ∧ W.rangeAt (w.heap.size + 1) 1 (K.map byt)) p.drew := HCC.out _ hb0
    apply AnyG_take (i := 0) rfl (by kernel_rfl) (by kernel_rfl) (by kernel_rfl) (by kernel_rfl)
    case hQ => exact fun _ _ _ h => h
    case hB => exact trivial
    case hC => exact hHeld
    case hy => exact yieldsIf_load_mid (by rfl) 32 _ rfl w.heap.size (0) rfl ((alcl a.free a.seed a.fresh (.slice Ama a.macs.length cma) (.slice Aba a.boxes.length cba))) _ (fun w hS => hS.1) Tryd.underlying32 rfl (by rw [algSize, alcl_length])
    (try simp only [sq])
    apply AnyG_pure (i := 1) rfl (by kernel_rfl) (by kernel_rfl) (by kernel_rfl) (by kernel_rfl)
    case hQ => exact fun _ _ _ h => h
    case hB => exact trivial
    case hC => exact .inr hHeld
    case hy => (refine Or.inl ⟨by rfl, ?_⟩; intro w hSw; (try go_split_ands); go_simp; (try with_reducible rfl))
    (try simp only [sq])
    apply AnyG_take (i := 2) rfl (by kernel_rfl) (by kernel_rfl) (by kernel_rfl) (by kernel_rfl)
    case hQ => exact fun _ _ _ h => h
    case hB => exact trivial
    case hC => exact hHeld
    case hy => exact yieldsIf_load_mid (by rfl) 28 _ rfl (w.heap.size + 1) (1) rfl ((K.map byt)) _ (fun w hS => hS.2) Tryd.underlying28 rfl (by rw [tagSize, List.length_map, hlK])
    (try simp only [sq])
    apply AnyG_pure (i := 3) rfl (by kernel_rfl) (by kernel_rfl) (by kernel_rfl) (by kernel_rfl)
    case hQ => exact fun _ _ _ h => h
    case hB => exact trivial
    case hC => exact .inr hHeld
    case hy => (refine Or.inl ⟨by rfl, ?_⟩; intro w hSw; (try go_split_ands); go_simp; (try with_reducible rfl))
    (try simp only [sq])
    refine AnyG_two (i := 4) (j := 10) (by kernel_rfl) rfl rfl (fun KK hKK => ?_) (fun KK hKK => ?_)
    · skip
      (try simp only [sq])
      go_simp
      go_at_call 44
      refine (HCM.out p.drew).mono ?_
      rintro e V1 ⟨hx1, hv1⟩
      have hs1 : p.drew.heap.size ≤ V1.heap.size := hv1.size
      have hb1 := Below.trans hb0 (Below.mono hv1 (Below.size hb0))
      have r_x3_1 : Whole V1 (w.heap.size) 32 (alc a.free a.seed a.fresh (.slice Ama a.macs.length cma) (.slice Aba a.boxes.length cba)) := Whole.below r_x3_0 hv1 (Whole.lt r_x3_0)
      have xE_1 : Whole V1 ((w.heap.size + 1)) 49 (epl z K).toArray := Whole.below xE_0 hv1 (Whole.lt xE_0)
      have x6_1 : Whole V1 ((w.heap.size + 1 + 1)) 32 zar := Whole.below x6_0 hv1 (Whole.lt x6_0)
      have x7_1 : Whole V1 ((w.heap.size + 1 + 1 + 1)) 45 zps := Whole.below x7_0 hv1 (Whole.lt x7_0)
      obtain ⟨B1, d1, rfl, hby1⟩ := hx1
      have mb_1 : Bytes V1 (fun _ => True) (.slice B1 m.length d1) m := hby1.mono fun _ _ _ => trivial
      clear hHeld
      have hHeld : (fun W : World => W.rangeAt w.heap.size 0 (alcl a.free a.seed a.fresh (.slice Ama a.macs.length cma) (.slice Aba a.boxes.length cba)) ∧ W.rangeAt (w.heap.size + 1) 1 (K.map byt)) V1 := HCC.out _ hb1
      refine hKK.out _ _ (.inr hHeld) trivial ?_
      clear hKK KK
      (try simp only [sq])
      refine AnyG_two (i := 5) (j := 10) (by kernel_rfl) rfl rfl (fun KK hKK => ?_) (fun KK hKK => ?_)
      · skip
        (try simp only [sq])
        go_simp
        go_at_call 43
        refine (rnode (AlV.below HXP.out hb1 (Nat.le_refl _)) (by omega) hlK mb_1 hml).mono ?_
        rintro e V2 ⟨hx2, hv2⟩
        have hs2 : V1.heap.size ≤ V2.heap.size := hv2.size
        have hb2 := Below.trans hb1 (Below.mono hv2 (Below.size hb1))
        have r_x3_2 : Whole V2 (w.heap.size) 32 (alc a.free a.seed a.fresh (.slice Ama a.macs.length cma) (.slice Aba a.boxes.length cba)) := Whole.below r_x3_1 hv2 (Whole.lt r_x3_1)
        have xE_2 : Whole V2 ((w.heap.size + 1)) 49 (epl z K).toArray := Whole.below xE_1 hv2 (Whole.lt xE_1)
        have x6_2 : Whole V2 ((w.heap.size + 1 + 1)) 32 zar := Whole.below x6_1 hv2 (Whole.lt x6_1)
        have x7_2 : Whole V2 ((w.heap.size + 1 + 1 + 1)) 45 zps := Whole.below x7_1 hv2 (Whole.lt x7_1)
        have mb_2 : Bytes V2 (fun _ => True) (.slice B1 m.length d1) m := Bytes.below mb_1 hv2 (Nat.le_refl _)
        rw [← HRE.out] at hx2
        obtain ⟨v2, rfl, hav2⟩ := hx2
        obtain ⟨Amb, cmb, Abb, cbb, rfl, hM, hBx, hA⟩ := id hav2
        clear hM hBx hA
        have va_2 : AlV V2 (fun g => (Q g ∧ g < w.heap.size) ∨ (V1.heap.size ≤ g ∧ g < V2.heap.size)) (.agg (alc R.1.free R.1.seed R.1.fresh (.slice Amb R.1.macs.length cmb) (.slice Abb R.1.boxes.length cbb))) R.1 := AlV.mono hav2 fun g hg hq => hq.elim (fun h => .inl h) (fun h => .inr ⟨h, hg⟩)
        clear hHeld
        have hHeld : (fun W : World => W.rangeAt w.heap.size 0 (alcl a.free a.seed a.fresh (.slice Ama a.macs.length cma) (.slice Aba a.boxes.length cba)) ∧ W.rangeAt (w.heap.size + 1) 1 (K.map byt)) V2 := HCC.out _ hb2
        refine hKK.out _ _ (.inr hHeld) trivial ?_
        clear hKK KK
        (try simp only [sq])
        apply AnyG_pure (i := 6) rfl (by kernel_rfl) (by kernel_rfl) (by kernel_rfl) (by kernel_rfl)
        case hQ => exact fun _ _ _ h => h
        case hB => exact trivial
        case hC => exact .inr hHeld
        case hy => (refine Or.inl ⟨by rfl, ?_⟩; intro w hSw; (try go_split_ands); go_simp; (try with_reducible rfl))
        (try simp only [sq])
        apply AnyG_pure (i := 7) rfl (by kernel_rfl) (by kernel_rfl) (by kernel_rfl) (by kernel_rfl)
        case hQ => exact fun _ _ _ h => h
        case hB => exact trivial
        case hC => exact .inr hHeld
        case hy => (refine Or.inl ⟨by rfl, ?_⟩; intro w hSw; (try go_split_ands); go_simp; (try with_reducible rfl))
        (try simp only [sq])
        apply AnyG_pure (i := 8) rfl (by kernel_rfl) (by kernel_rfl) (by kernel_rfl) (by kernel_rfl)
        case hQ => exact fun _ _ _ h => h
        case hB => exact trivial
        case hC => exact .inr hHeld
        case hy => (refine Or.inl ⟨by rfl, ?_⟩; intro w hSw; (try go_split_ands); go_simp; (try with_reducible rfl))
        (try simp only [sq])
        apply AnyG_pure (i := 9) rfl (by kernel_rfl) (by kernel_rfl) (by kernel_rfl) (by kernel_rfl)
        case hQ => exact fun _ _ _ h => h
        case hB => exact trivial
        case hC => exact .inr hHeld
        case hy => (refine Or.inl ⟨by rfl, ?_⟩; intro w hSw; (try go_split_ands); go_simp; (try with_reducible rfl))
        (try simp only [sq])
        refine AnyG_one (i := 10) (by kernel_rfl) rfl (fun KK hKK => ?_)
        (try simp only [sq])
        go_simp
        rw [ztr_lit]
        obtain ⟨V3, hV3⟩ : ∃ x, x = (V2).alloc (.cells ztr 28) := ⟨_, rfl⟩
        have hv3 : Below V2.heap.size V2 V3 := by rw [hV3]; exact Below.alloc (Below.refl _ _) (Nat.le_refl _) _
        have hs3 : V2.heap.size < V3.heap.size := by rw [hV3]; simp
        have hb3 : Below p.heap.size p V3 := Below.trans hb2 (Below.mono hv3 (Below.size hb2))
        have r_x3_3 : Whole V3 (w.heap.size) 32 (alc a.free a.seed a.fresh (.slice Ama a.macs.length cma) (.slice Aba a.boxes.length cba)) := Whole.below r_x3_2 hv3 (Whole.lt r_x3_2)
        have xE_3 : Whole V3 ((w.heap.size + 1)) 49 (epl z K).toArray := Whole.below xE_2 hv3 (Whole.lt xE_2)
        have x6_3 : Whole V3 ((w.heap.size + 1 + 1)) 32 zar := Whole.below x6_2 hv3 (Whole.lt x6_2)
        have x7_3 : Whole V3 ((w.heap.size + 1 + 1 + 1)) 45 zps := Whole.below x7_2 hv3 (Whole.lt x7_2)
        have va_3 : AlV V3 (fun g => (Q g ∧ g < w.heap.size) ∨ (V1.heap.size ≤ g ∧ g < V2.heap.size)) (.agg (alc R.1.free R.1.seed R.1.fresh (.slice Amb R.1.macs.length cmb) (.slice Abb R.1.boxes.length cbb))) R.1 := AlV.below va_2 hv3 (Nat.le_refl _)
        have r_x10_3 : Whole V3 (V2.heap.size) 28 ztr := by rw [hV3]; exact Whole.here _ _ _
        have hpx10 : p.heap.size ≤ V2.heap.size := Below.size hb2
        rw [← hV3]
        clear hV3
        clear hHeld
        have hHeld : (fun W : World => W.rangeAt w.heap.size 0 (alcl a.free a.seed a.fresh (.slice Ama a.macs.length cma) (.slice Aba a.boxes.length cba)) ∧ W.rangeAt (w.heap.size + 1) 1 (K.map byt)) V3 := HCC.out _ hb3
        refine hKK.out _ _ (.inr hHeld) trivial ?_
        clear hKK KK
        (try simp only [sq])
        refine AnyG_one (i := 11) (by kernel_rfl) rfl (fun KK hKK => ?_)
        obtain ⟨V4, hV4⟩ : ∃ x, x = (V3).setRow (w.heap.size) (alc R.1.free R.1.seed R.1.fresh (.slice Amb R.1.macs.length cmb) (.slice Abb R.1.boxes.length cbb)) := ⟨_, rfl⟩
        have xE_4 : Whole V4 ((w.heap.size + 1)) 49 (epl z K).toArray := by rw [hV4]; exact Whole.setRow_far xE_3 (by omega) _
        have x6_4 : Whole V4 ((w.heap.size + 1 + 1)) 32 zar := by rw [hV4]; exact Whole.setRow_far x6_3 (by omega) _
        have x7_4 : Whole V4 ((w.heap.size + 1 + 1 + 1)) 45 zps := by rw [hV4]; exact Whole.setRow_far x7_3 (by omega) _
        have va_4 : AlV V4 (fun g => (Q g ∧ g < w.heap.size) ∨ (V1.heap.size ≤ g ∧ g < V2.heap.size)) (.agg (alc R.1.free R.1.seed R.1.fresh (.slice Amb R.1.macs.length cmb) (.slice Abb R.1.boxes.length cbb))) R.1 := by rw [hV4]; exact AlV.keep va_3 (by simp) fun g _ hq => setRow_other _ _ _ _ (by omega)
        have r_x10_4 : Whole V4 (V2.heap.size) 28 ztr := by rw [hV4]; exact Whole.setRow_far r_x10_3 (by omega) _
        have r_x3_4 : Whole V4 (w.heap.size) 32 (alc R.1.free R.1.seed R.1.fresh (.slice Amb R.1.macs.length cmb) (.slice Abb R.1.boxes.length cbb)) := by rw [hV4]; exact Whole.setRow r_x3_3 _
        have hs4 : V3.heap.size ≤ V4.heap.size := by rw [hV4]; simp
        have hb4 : Below w.heap.size p V4 := by rw [hV4]; exact below_setRow (Below.mono hb3 (by omega)) (by omega) _
        rw [if_pos (by kernel_rfl)]
        refine wp_store_row 32 _ _ rfl (w.heap.size) _ rfl rfl 32 _ r_x3_3 (by rw [algSize, alc_size]) (by simp only [alc_size]) (alc_one _ _ _ _ _ _ _ _ _) ?_
        rw [← hV4]
        clear hV4
        refine hKK.out _ _ (.inl (by kernel_rfl)) trivial ?_
        clear hKK KK
        (try simp only [sq])
        refine AnyG_one (i := 12) (by kernel_rfl) rfl (fun KK hKK => ?_)
        obtain ⟨V5, hV5⟩ : ∃ x, x = (V4).setRow (V2.heap.size) (R.2.1.map byt).toArray := ⟨_, rfl⟩
        have xE_5 : Whole V5 ((w.heap.size + 1)) 49 (epl z K).toArray := by rw [hV5]; exact Whole.setRow_far xE_4 (by omega) _
        have x6_5 : Whole V5 ((w.heap.size + 1 + 1)) 32 zar := by rw [hV5]; exact Whole.setRow_far x6_4 (by omega) _
        have x7_5 : Whole V5 ((w.heap.size + 1 + 1 + 1)) 45 zps := by rw [hV5]; exact Whole.setRow_far x7_4 (by omega) _
        have va_5 : AlV V5 (fun g => (Q g ∧ g < w.heap.size) ∨ (V1.heap.size ≤ g ∧ g < V2.heap.size)) (.agg (alc R.1.free R.1.seed R.1.fresh (.slice Amb R.1.macs.length cmb) (.slice Abb R.1.boxes.length cbb))) R.1 := by rw [hV5]; exact AlV.keep va_4 (by simp) fun g _ hq => setRow_other _ _ _ _ (by omega)
        have r_x3_5 : Whole V5 (w.heap.size) 32 (alc R.1.free R.1.seed R.1.fresh (.slice Amb R.1.macs.length cmb) (.slice Abb R.1.boxes.length cbb)) := by rw [hV5]; exact Whole.setRow_far r_x3_4 (by omega) _
        have r_x10_5 : Whole V5 (V2.heap.size) 28 (R.2.1.map byt).toArray := by rw [hV5]; exact Whole.setRow r_x10_4 _
        have hs5 : V4.heap.size ≤ V5.heap.size := by rw [hV5]; simp
        have hb5 : Below w.heap.size p V5 := by rw [hV5]; exact below_setRow (Below.mono hb4 (by omega)) (by omega) _
        rw [if_pos (by kernel_rfl)]
        refine wp_store_row 28 _ _ rfl (V2.heap.size) _ rfl rfl 28 _ r_x10_4 (by rw [tagSize, tag_size hlT]) (by rw [ztr_size, tag_size hlT]) (tag_one _) ?_
        rw [← hV5]
        clear hV5
        refine hKK.out _ _ (.inl (by kernel_rfl)) trivial ?_
        clear hKK KK
        (try simp only [sq])
        apply AnyG_pure (i := 13) rfl (by kernel_rfl) (by kernel_rfl) (by kernel_rfl) (by kernel_rfl)
        case hQ => exact fun _ _ _ h => h
        case hB => exact trivial
        case hC => exact .inl (by kernel_rfl)
        case hy => (refine Or.inl ⟨by rfl, ?_⟩; intro w hSw; (try go_split_ands); go_simp; (try with_reducible rfl))
        (try simp only [sq])
        refine AnyG_done (by kernel_rfl) ?_ _
        clear HCC hHeld
        go_wp2_with fail
        go_meet
        refine ⟨V2.heap.size, Amb, Abb, cmb, cbb, rfl, rfl, r_x3_5, r_x10_5, AlV.mono va_5 fun g hg hq => ⟨by rcases hq with hq | hq; exact .inl hq; exact .inr (by omega), by omega, by omega⟩, Below.trans H1.out hb5, xE_5, x6_5, x7_5, by omega⟩
      · skip
        (try simp only [sq])
        go_simp
        rw [ztr_lit]
        obtain ⟨V6, hV6⟩ : ∃ x, x = (V1).alloc (.cells ztr 28) := ⟨_, rfl⟩
        have hv6 : Below V1.heap.size V1 V6 := by rw [hV6]; exact Below.alloc (Below.refl _ _) (Nat.le_refl _) _
        have hs6 : V1.heap.size < V6.heap.size := by rw [hV6]; simp
        have hb6 : Below p.heap.size p V6 := Below.trans hb1 (Below.mono hv6 (Below.size hb1))
        have r_x3_6 : Whole V6 (w.heap.size) 32 (alc a.free a.seed a.fresh (.slice Ama a.macs.length cma) (.slice Aba a.boxes.length cba)) := Whole.below r_x3_1 hv6 (Whole.lt r_x3_1)
        have xE_6 : Whole V6 ((w.heap.size + 1)) 49 (epl z K).toArray := Whole.below xE_1 hv6 (Whole.lt xE_1)
        have x6_6 : Whole V6 ((w.heap.size + 1 + 1)) 32 zar := Whole.below x6_1 hv6 (Whole.lt x6_1)
        have x7_6 : Whole V6 ((w.heap.size + 1 + 1 + 1)) 45 zps := Whole.below x7_1 hv6 (Whole.lt x7_1)
        have mb_6 : Bytes V6 (fun _ => True) (.slice B1 m.length d1) m := Bytes.below mb_1 hv6 (Nat.le_refl _)
        have r_x10_6 : Whole V6 (V1.heap.size) 28 ztr := by rw [hV6]; exact Whole.here _ _ _
        have hpx10 : p.heap.size ≤ V1.heap.size := Below.size hb1
        rw [← hV6]
        clear hV6
        clear hHeld
        have hHeld : (fun W : World => W.rangeAt w.heap.size 0 (alcl a.free a.seed a.fresh (.slice Ama a.macs.length cma) (.slice Aba a.boxes.length cba)) ∧ W.rangeAt (w.heap.size + 1) 1 (K.map byt)) V6 := HCC.out _ hb6
        refine hKK.out _ _ (.inr hHeld) trivial ?_
        clear hKK KK
        (try simp only [sq])
        refine AnyG_one (i := 5) (by kernel_rfl) rfl (fun KK hKK => ?_)
        (try simp only [sq])
        go_simp
        go_at_call 43
        refine (rnode (AlV.below HXP.out hb6 (Nat.le_refl _)) (by omega) hlK mb_6 hml).mono ?_
        rintro e V7 ⟨hx7, hv7⟩
        have hs7 : V6.heap.size ≤ V7.heap.size := hv7.size
        have hb7 := Below.trans hb6 (Below.mono hv7 (Below.size hb6))
        have r_x3_7 : Whole V7 (w.heap.size) 32 (alc a.free a.seed a.fresh (.slice Ama a.macs.length cma) (.slice Aba a.boxes.length cba)) := Whole.below r_x3_6 hv7 (Whole.lt r_x3_6)
        have xE_7 : Whole V7 ((w.heap.size + 1)) 49 (epl z K).toArray := Whole.below xE_6 hv7 (Whole.lt xE_6)
        have x6_7 : Whole V7 ((w.heap.size + 1 + 1)) 32 zar := Whole.below x6_6 hv7 (Whole.lt x6_6)
        have x7_7 : Whole V7 ((w.heap.size + 1 + 1 + 1)) 45 zps := Whole.below x7_6 hv7 (Whole.lt x7_6)
        have mb_7 : Bytes V7 (fun _ => True) (.slice B1 m.length d1) m := Bytes.below mb_6 hv7 (Nat.le_refl _)
        have r_x10_7 : Whole V7 (V1.heap.size) 28 ztr := Whole.below r_x10_6 hv7 (Whole.lt r_x10_6)
        rw [← HRE.out] at hx7
        obtain ⟨v7, rfl, hav7⟩ := hx7
        obtain ⟨Amb, cmb, Abb, cbb, rfl, hM, hBx, hA⟩ := id hav7
        clear hM hBx hA
        have va_7 : AlV V7 (fun g => (Q g ∧ g < w.heap.size) ∨ (V6.heap.size ≤ g ∧ g < V7.heap.size)) (.agg (alc R.1.free R.1.seed R.1.fresh (.slice Amb R.1.macs.length cmb) (.slice Abb R.1.boxes.length cbb))) R.1 := AlV.mono hav7 fun g hg hq => hq.elim (fun h => .inl h) (fun h => .inr ⟨h, hg⟩)
        clear hHeld
        have hHeld : (fun W : World => W.rangeAt w.heap.size 0 (alcl a.free a.seed a.fresh (.slice Ama a.macs.length cma) (.slice Aba a.boxes.length cba)) ∧ W.rangeAt (w.heap.size + 1) 1 (K.map byt)) V7 := HCC.out _ hb7
        refine hKK.out _ _ (.inr hHeld) trivial ?_
        clear hKK KK
        (try simp only [sq])
        apply AnyG_pure (i := 6) rfl (by kernel_rfl) (by kernel_rfl) (by kernel_rfl) (by kernel_rfl)
        case hQ => exact fun _ _ _ h => h
        case hB => exact trivial
        case hC => exact .inr hHeld
        case hy => (refine Or.inl ⟨by rfl, ?_⟩; intro w hSw; (try go_split_ands); go_simp; (try with_reducible rfl))
        (try simp only [sq])
        apply AnyG_pure (i := 7) rfl (by kernel_rfl) (by kernel_rfl) (by kernel_rfl) (by kernel_rfl)
        case hQ => exact fun _ _ _ h => h
        case hB => exact trivial
        case hC => exact .inr hHeld
        case hy => (refine Or.inl ⟨by rfl, ?_⟩; intro w hSw; (try go_split_ands); go_simp; (try with_reducible rfl))
        (try simp only [sq])
        apply AnyG_pure (i := 8) rfl (by kernel_rfl) (by kernel_rfl) (by kernel_rfl) (by kernel_rfl)
        case hQ => exact fun _ _ _ h => h
        case hB => exact trivial
        case hC => exact .inr hHeld
        case hy => (refine Or.inl ⟨by rfl, ?_⟩; intro w hSw; (try go_split_ands); go_simp; (try with_reducible rfl))
        (try simp only [sq])
        apply AnyG_pure (i := 9) rfl (by kernel_rfl) (by kernel_rfl) (by kernel_rfl) (by kernel_rfl)
        case hQ => exact fun _ _ _ h => h
        case hB => exact trivial
        case hC => exact .inr hHeld
        case hy => (refine Or.inl ⟨by rfl, ?_⟩; intro w hSw; (try go_split_ands); go_simp; (try with_reducible rfl))
        (try simp only [sq])
        refine AnyG_one (i := 11) (by kernel_rfl) rfl (fun KK hKK => ?_)
        obtain ⟨V8, hV8⟩ : ∃ x, x = (V7).setRow (w.heap.size) (alc R.1.free R.1.seed R.1.fresh (.slice Amb R.1.macs.length cmb) (.slice Abb R.1.boxes.length cbb)) := ⟨_, rfl⟩
        have xE_8 : Whole V8 ((w.heap.size + 1)) 49 (epl z K).toArray := by rw [hV8]; exact Whole.setRow_far xE_7 (by omega) _
        have x6_8 : Whole V8 ((w.heap.size + 1 + 1)) 32 zar := by rw [hV8]; exact Whole.setRow_far x6_7 (by omega) _
        have x7_8 : Whole V8 ((w.heap.size + 1 + 1 + 1)) 45 zps := by rw [hV8]; exact Whole.setRow_far x7_7 (by omega) _
        have r_x10_8 : Whole V8 (V1.heap.size) 28 ztr := by rw [hV8]; exact Whole.setRow_far r_x10_7 (by omega) _
        have va_8 : AlV V8 (fun g => (Q g ∧ g < w.heap.size) ∨ (V6.heap.size ≤ g ∧ g < V7.heap.size)) (.agg (alc R.1.free R.1.seed R.1.fresh (.slice Amb R.1.macs.length cmb) (.slice Abb R.1.boxes.length cbb))) R.1 := by rw [hV8]; exact AlV.keep va_7 (by simp) fun g _ hq => setRow_other _ _ _ _ (by omega)
        have r_x3_8 : Whole V8 (w.heap.size) 32 (alc R.1.free R.1.seed R.1.fresh (.slice Amb R.1.macs.length cmb) (.slice Abb R.1.boxes.length cbb)) := by rw [hV8]; exact Whole.setRow r_x3_7 _
        have hs8 : V7.heap.size ≤ V8.heap.size := by rw [hV8]; simp
        have hb8 : Below w.heap.size p V8 := by rw [hV8]; exact below_setRow (Below.mono hb7 (by omega)) (by omega) _
        rw [if_pos (by kernel_rfl)]
        refine wp_store_row 32 _ _ rfl (w.heap.size) _ rfl rfl 32 _ r_x3_7 (by rw [algSize, alc_size]) (by simp only [alc_size]) (alc_one _ _ _ _ _ _ _ _ _) ?_
        rw [← hV8]
        clear hV8
        refine hKK.out _ _ (.inl (by kernel_rfl)) trivial ?_
        clear hKK KK
        (try simp only [sq])
        refine AnyG_one (i := 12) (by kernel_rfl) rfl (fun KK hKK => ?_)
        obtain ⟨V9, hV9⟩ : ∃ x, x = (V8).setRow (V1.heap.size) (R.2.1.map byt).toArray := ⟨_, rfl⟩
        have xE_9 : Whole V9 ((w.heap.size + 1)) 49 (epl z K).toArray := by rw [hV9]; exact Whole.setRow_far xE_8 (by omega) _
        have x6_9 : Whole V9 ((w.heap.size + 1 + 1)) 32 zar := by rw [hV9]; exact Whole.setRow_far x6_8 (by omega) _
        have x7_9 : Whole V9 ((w.heap.size + 1 + 1 + 1)) 45 zps := by rw [hV9]; exact Whole.setRow_far x7_8 (by omega) _
        have va_9 : AlV V9 (fun g => (Q g ∧ g < w.heap.size) ∨ (V6.heap.size ≤ g ∧ g < V7.heap.size)) (.agg (alc R.1.free R.1.seed R.1.fresh (.slice Amb R.1.macs.length cmb) (.slice Abb R.1.boxes.length cbb))) R.1 := by rw [hV9]; exact AlV.keep va_8 (by simp) fun g _ hq => setRow_other _ _ _ _ (by omega)
        have r_x3_9 : Whole V9 (w.heap.size) 32 (alc R.1.free R.1.seed R.1.fresh (.slice Amb R.1.macs.length cmb) (.slice Abb R.1.boxes.length cbb)) := by rw [hV9]; exact Whole.setRow_far r_x3_8 (by omega) _
        have r_x10_9 : Whole V9 (V1.heap.size) 28 (R.2.1.map byt).toArray := by rw [hV9]; exact Whole.setRow r_x10_8 _
        have hs9 : V8.heap.size ≤ V9.heap.size := by rw [hV9]; simp
        have hb9 : Below w.heap.size p V9 := by rw [hV9]; exact below_setRow (Below.mono hb8 (by omega)) (by omega) _
        rw [if_pos (by kernel_rfl)]
        refine wp_store_row 28 _ _ rfl (V1.heap.size) _ rfl rfl 28 _ r_x10_8 (by rw [tagSize, tag_size hlT]) (by rw [ztr_size, tag_size hlT]) (tag_one _) ?_
        rw [← hV9]
        clear hV9
        refine hKK.out _ _ (.inl (by kernel_rfl)) trivial ?_
        clear hKK KK
        (try simp only [sq])
        apply AnyG_pure (i := 13) rfl (by kernel_rfl) (by kernel_rfl) (by kernel_rfl) (by kernel_rfl)
        case hQ => exact fun _ _ _ h => h
        case hB => exact trivial
        case hC => exact .inl (by kernel_rfl)
        case hy => (refine Or.inl ⟨by rfl, ?_⟩; intro w hSw; (try go_split_ands); go_simp; (try with_reducible rfl))
        (try simp only [sq])
        refine AnyG_done (by kernel_rfl) ?_ _
        clear HCC hHeld
        go_wp2_with fail
        go_meet
        refine ⟨V1.heap.size, Amb, Abb, cmb, cbb, rfl, rfl, r_x3_9, r_x10_9, AlV.mono va_9 fun g hg hq => ⟨by rcases hq with hq | hq; exact .inl hq; exact .inr (by omega), by omega, by omega⟩, Below.trans H1.out hb9, xE_9, x6_9, x7_9, by omega⟩
    · skip
      (try simp only [sq])
      go_simp
      rw [ztr_lit]
      obtain ⟨V10, hV10⟩ : ∃ x, x = (p.alloc (.cells ztr 28)).drew := ⟨_, rfl⟩
      have hv10 : Below p.drew.heap.size p.drew V10 := by rw [hV10]; exact Below.alloc (Below.refl _ _) (Nat.le_refl _) _
      have hs10 : p.heap.size < V10.heap.size := by rw [hV10]; simp
      have hb10 : Below p.heap.size p V10 := Below.trans hb0 (Below.mono hv10 (Below.size hb0))
      have r_x3_10 : Whole V10 (w.heap.size) 32 (alc a.free a.seed a.fresh (.slice Ama a.macs.length cma) (.slice Aba a.boxes.length cba)) := Whole.below r_x3_0 hv10 (Whole.lt r_x3_0)
      have xE_10 : Whole V10 ((w.heap.size + 1)) 49 (epl z K).toArray := Whole.below xE_0 hv10 (Whole.lt xE_0)
      have x6_10 : Whole V10 ((w.heap.size + 1 + 1)) 32 zar := Whole.below x6_0 hv10 (Whole.lt x6_0)
      have x7_10 : Whole V10 ((w.heap.size + 1 + 1 + 1)) 45 zps := Whole.below x7_0 hv10 (Whole.lt x7_0)
      have r_x10_10 : Whole V10 (p.heap.size) 28 ztr := by rw [hV10]; exact Whole.here _ _ _
      have hpx10 : p.heap.size ≤ p.heap.size := Nat.le_refl _
      rw [← hV10]
      clear hV10
      clear hHeld
      have hHeld : (fun W : World => W.rangeAt w.heap.size 0 (alcl a.free a.seed a.fresh (.slice Ama a.macs.length cma) (.slice Aba a.boxes.length cba)) ∧ W.rangeAt (w.heap.size + 1) 1 (K.map byt)) V10 := HCC.out _ hb10
      refine hKK.out _ _ (.inr hHeld) trivial ?_
      clear hKK KK
      (try simp only [sq])
      refine AnyG_one (i := 4) (by kernel_rfl) rfl (fun KK hKK => ?_)
      (try simp only [sq])
      go_simp
      go_at_call 44
      refine (HCM.out V10).mono ?_
      rintro e V11 ⟨hx11, hv11⟩
      have hs11 : V10.heap.size ≤ V11.heap.size := hv11.size
      have hb11 := Below.trans hb10 (Below.mono hv11 (Below.size hb10))
      have r_x3_11 : Whole V11 (w.heap.size) 32 (alc a.free a.seed a.fresh (.slice Ama a.macs.length cma) (.slice Aba a.boxes.length cba)) := Whole.below r_x3_10 hv11 (Whole.lt r_x3_10)
      have xE_11 : Whole V11 ((w.heap.size + 1)) 49 (epl z K).toArray := Whole.below xE_10 hv11 (Whole.lt xE_10)
      have x6_11 : Whole V11 ((w.heap.size + 1 + 1)) 32 zar := Whole.below x6_10 hv11 (Whole.lt x6_10)
      have x7_11 : Whole V11 ((w.heap.size + 1 + 1 + 1)) 45 zps := Whole.below x7_10 hv11 (Whole.lt x7_10)
      have r_x10_11 : Whole V11 (p.heap.size) 28 ztr := Whole.below r_x10_10 hv11 (Whole.lt r_x10_10)
      obtain ⟨B11, d11, rfl, hby11⟩ := hx11
      have mb_11 : Bytes V11 (fun _ => True) (.slice B11 m.length d11) m := hby11.mono fun _ _ _ => trivial
      clear hHeld
      have hHeld : (fun W : World => W.rangeAt w.heap.size 0 (alcl a.free a.seed a.fresh (.slice Ama a.macs.length cma) (.slice Aba a.boxes.length cba)) ∧ W.rangeAt (w.heap.size + 1) 1 (K.map byt)) V11 := HCC.out _ hb11
      refine hKK.out _ _ (.inr hHeld) trivial ?_
      clear hKK KK
      (try simp only [sq])
      refine AnyG_one (i := 5) (by kernel_rfl) rfl (fun KK hKK => ?_)
      (try simp only [sq])
      go_simp
      go_at_call 43
      refine (rnode (AlV.below HXP.out hb11 (Nat.le_refl _)) (by omega) hlK mb_11 hml).mono ?_
      rintro e V12 ⟨hx12, hv12⟩
      have hs12 : V11.heap.size ≤ V12.heap.size := hv12.size
      have hb12 := Below.trans hb11 (Below.mono hv12 (Below.size hb11))
      have r_x3_12 : Whole V12 (w.heap.size) 32 (alc a.free a.seed a.fresh (.slice Ama a.macs.length cma) (.slice Aba a.boxes.length cba)) := Whole.below r_x3_11 hv12 (Whole.lt r_x3_11)
      have xE_12 : Whole V12 ((w.heap.size + 1)) 49 (epl z K).toArray := Whole.below xE_11 hv12 (Whole.lt xE_11)
      have x6_12 : Whole V12 ((w.heap.size + 1 + 1)) 32 zar := Whole.below x6_11 hv12 (Whole.lt x6_11)
      have x7_12 : Whole V12 ((w.heap.size + 1 + 1 + 1)) 45 zps := Whole.below x7_11 hv12 (Whole.lt x7_11)
      have r_x10_12 : Whole V12 (p.heap.size) 28 ztr := Whole.below r_x10_11 hv12 (Whole.lt r_x10_11)
      have mb_12 : Bytes V12 (fun _ => True) (.slice B11 m.length d11) m := Bytes.below mb_11 hv12 (Nat.le_refl _)
      rw [← HRE.out] at hx12
      obtain ⟨v12, rfl, hav12⟩ := hx12
      obtain ⟨Amb, cmb, Abb, cbb, rfl, hM, hBx, hA⟩ := id hav12
      clear hM hBx hA
      have va_12 : AlV V12 (fun g => (Q g ∧ g < w.heap.size) ∨ (V11.heap.size ≤ g ∧ g < V12.heap.size)) (.agg (alc R.1.free R.1.seed R.1.fresh (.slice Amb R.1.macs.length cmb) (.slice Abb R.1.boxes.length cbb))) R.1 := AlV.mono hav12 fun g hg hq => hq.elim (fun h => .inl h) (fun h => .inr ⟨h, hg⟩)
      clear hHeld
      have hHeld : (fun W : World => W.rangeAt w.heap.size 0 (alcl a.free a.seed a.fresh (.slice Ama a.macs.length cma) (.slice Aba a.boxes.length cba)) ∧ W.rangeAt (w.heap.size + 1) 1 (K.map byt)) V12 := HCC.out _ hb12
      refine hKK.out _ _ (.inr hHeld) trivial ?_
      clear hKK KK
      (try simp only [sq])
      apply AnyG_pure (i := 6) rfl (by kernel_rfl) (by kernel_rfl) (by kernel_rfl) (by kernel_rfl)
      case hQ => exact fun _ _ _ h => h
      case hB => exact trivial
      case hC => exact .inr hHeld
      case hy => (refine Or.inl ⟨by rfl, ?_⟩; intro w hSw; (try go_split_ands); go_simp; (try with_reducible rfl))
      (try simp only [sq])
      apply AnyG_pure (i := 7) rfl (by kernel_rfl) (by kernel_rfl) (by kernel_rfl) (by kernel_rfl)
      case hQ => exact fun _ _ _ h => h
      case hB => exact trivial
      case hC => exact .inr hHeld
      case hy => (refine Or.inl ⟨by rfl, ?_⟩; intro w hSw; (try go_split_ands); go_simp; (try with_reducible rfl))
      (try simp only [sq])
      apply AnyG_pure (i := 8) rfl (by kernel_rfl) (by kernel_rfl) (by kernel_rfl) (by kernel_rfl)
      case hQ => exact fun _ _ _ h => h
      case hB => exact trivial
      case hC => exact .inr hHeld
      case hy => (refine Or.inl ⟨by rfl, ?_⟩; intro w hSw; (try go_split_ands); go_simp; (try with_reducible rfl))
      (try simp only [sq])
      apply AnyG_pure (i := 9) rfl (by kernel_rfl) (by kernel_rfl) (by kernel_rfl) (by kernel_rfl)
      case hQ => exact fun _ _ _ h => h
      case hB => exact trivial
      case hC => exact .inr hHeld
      case hy => (refine Or.inl ⟨by rfl, ?_⟩; intro w hSw; (try go_split_ands); go_simp; (try with_reducible rfl))
      (try simp only [sq])
      refine AnyG_one (i := 11) (by kernel_rfl) rfl (fun KK hKK => ?_)
      obtain ⟨V13, hV13⟩ : ∃ x, x = (V12).setRow (w.heap.size) (alc R.1.free R.1.seed R.1.fresh (.slice Amb R.1.macs.length cmb) (.slice Abb R.1.boxes.length cbb)) := ⟨_, rfl⟩
      have xE_13 : Whole V13 ((w.heap.size + 1)) 49 (epl z K).toArray := by rw [hV13]; exact Whole.setRow_far xE_12 (by omega) _
      have x6_13 : Whole V13 ((w.heap.size + 1 + 1)) 32 zar := by rw [hV13]; exact Whole.setRow_far x6_12 (by omega) _
      have x7_13 : Whole V13 ((w.heap.size + 1 + 1 + 1)) 45 zps := by rw [hV13]; exact Whole.setRow_far x7_12 (by omega) _
      have r_x10_13 : Whole V13 (p.heap.size) 28 ztr := by rw [hV13]; exact Whole.setRow_far r_x10_12 (by omega) _
      have va_13 : AlV V13 (fun g => (Q g ∧ g < w.heap.size) ∨ (V11.heap.size ≤ g ∧ g < V12.heap.size)) (.agg (alc R.1.free R.1.seed R.1.fresh (.slice Amb R.1.macs.length cmb) (.slice Abb R.1.boxes.length cbb))) R.1 := by rw [hV13]; exact AlV.keep va_12 (by simp) fun g _ hq => setRow_other _ _ _ _ (by omega)
      have r_x3_13 : Whole V13 (w.heap.size) 32 (alc R.1.free R.1.seed R.1.fresh (.slice Amb R.1.macs.length cmb) (.slice Abb R.1.boxes.length cbb)) := by rw [hV13]; exact Whole.setRow r_x3_12 _
      have hs13 : V12.heap.size ≤ V13.heap.size := by rw [hV13]; simp
      have hb13 : Below w.heap.size p V13 := by rw [hV13]; exact below_setRow (Below.mono hb12 (by omega)) (by omega) _
      rw [if_pos (by kernel_rfl)]
      refine wp_store_row 32 _ _ rfl (w.heap.size) _ rfl rfl 32 _ r_x3_12 (by rw [algSize, alc_size]) (by simp only [alc_size]) (alc_one _ _ _ _ _ _ _ _ _) ?_
      rw [← hV13]
      clear hV13
      refine hKK.out _ _ (.inl (by kernel_rfl)) trivial ?_
      clear hKK KK
      (try simp only [sq])
      refine AnyG_one (i := 12) (by kernel_rfl) rfl (fun KK hKK => ?_)
      obtain ⟨V14, hV14⟩ : ∃ x, x = (V13).setRow (p.heap.size) (R.2.1.map byt).toArray := ⟨_, rfl⟩
      have xE_14 : Whole V14 ((w.heap.size + 1)) 49 (epl z K).toArray := by rw [hV14]; exact Whole.setRow_far xE_13 (by omega) _
      have x6_14 : Whole V14 ((w.heap.size + 1 + 1)) 32 zar := by rw [hV14]; exact Whole.setRow_far x6_13 (by omega) _
      have x7_14 : Whole V14 ((w.heap.size + 1 + 1 + 1)) 45 zps := by rw [hV14]; exact Whole.setRow_far x7_13 (by omega) _
      have va_14 : AlV V14 (fun g => (Q g ∧ g < w.heap.size) ∨ (V11.heap.size ≤ g ∧ g < V12.heap.size)) (.agg (alc R.1.free R.1.seed R.1.fresh (.slice Amb R.1.macs.length cmb) (.slice Abb R.1.boxes.length cbb))) R.1 := by rw [hV14]; exact AlV.keep va_13 (by simp) fun g _ hq => setRow_other _ _ _ _ (by omega)
      have r_x3_14 : Whole V14 (w.heap.size) 32 (alc R.1.free R.1.seed R.1.fresh (.slice Amb R.1.macs.length cmb) (.slice Abb R.1.boxes.length cbb)) := by rw [hV14]; exact Whole.setRow_far r_x3_13 (by omega) _
      have r_x10_14 : Whole V14 (p.heap.size) 28 (R.2.1.map byt).toArray := by rw [hV14]; exact Whole.setRow r_x10_13 _
      have hs14 : V13.heap.size ≤ V14.heap.size := by rw [hV14]; simp
      have hb14 : Below w.heap.size p V14 := by rw [hV14]; exact below_setRow (Below.mono hb13 (by omega)) (by omega) _
      rw [if_pos (by kernel_rfl)]
      refine wp_store_row 28 _ _ rfl (p.heap.size) _ rfl rfl 28 _ r_x10_13 (by rw [tagSize, tag_size hlT]) (by rw [ztr_size, tag_size hlT]) (tag_one _) ?_
      rw [← hV14]
      clear hV14
      refine hKK.out _ _ (.inl (by kernel_rfl)) trivial ?_
      clear hKK KK
      (try simp only [sq])
      apply AnyG_pure (i := 13) rfl (by kernel_rfl) (by kernel_rfl) (by kernel_rfl) (by kernel_rfl)
      case hQ => exact fun _ _ _ h => h
      case hB => exact trivial
      case hC => exact .inl (by kernel_rfl)
      case hy => (refine Or.inl ⟨by rfl, ?_⟩; intro w hSw; (try go_split_ands); go_simp; (try with_reducible rfl))
      (try simp only [sq])
      refine AnyG_done (by kernel_rfl) ?_ _
      clear HCC hHeld
      go_wp2_with fail
      go_meet
      refine ⟨p.heap.size, Amb, Abb, cmb, cbb, rfl, rfl, r_x3_14, r_x10_14, AlV.mono va_14 fun g hg hq => ⟨by rcases hq with hq | hq; exact .inl hq; exact .inr (by omega), by omega, by omega⟩, Below.trans H1.out hb14, xE_14, x6_14, x7_14, by omega⟩
  case rest =>
    obtain ⟨G10, Am9, Ab9, cm9, cb9, rfl, rfl, hr9, hr10, hva, hbc, hxE, hx6, hx7, hg10⟩ := hcut
    have hsw7 := hx7.lt
    clear H1 H2 H3 H4 H5
    have H6 : Hid (Below w.heap.size w wc) := Lib.hid (hbc)
    have H7 : Hid (Whole wc (w.heap.size + 1) 49 (epl z K).toArray) := Lib.hid (hxE)
    have H8 : Hid (Whole wc (w.heap.size + 1 + 1) 32 zar) := Lib.hid (hx6)
    have H9 : Hid (Whole wc (w.heap.size + 1 + 1 + 1) 45 zps) := Lib.hid (hx7)
    clear hxE hx6 hx7
    obtain ⟨b, T, eb⟩ := R
    dsimp only at hr9 hr10 hva hlT HR1 ⊢
    have HR9 := Lib.hid hr9
    have HR10 := Lib.hid hr10
    have HVA := Lib.hid hva
    clear hr9 hr10 hva hbc HCM HRE
    by_cases he : eb = 0
    case neg =>
      have HRR : Hid (R0 = (zalg, zpss, eb)) := Lib.hid (by rw [HR1.out, if_pos he])
      have hne : (eb != 0) = true := by simpa using he
      clear he
      go_wp2_with (first
        | (with_reducible refine wpList_store_alg rfl _ _ rfl (g := (w.heap.size + 1 + 1)) rfl rfl H8.out zar_size rfl (by with_unfolding_all rfl) ?_)
        | (with_reducible refine wpList_store_pass rfl _ _ rfl (g := (w.heap.size + 1 + 1 + 1)) rfl rfl (Whole.setRow_far H9.out (by omega) _) zps_size rfl (by with_unfolding_all rfl) ?_))
      rw [zar_lit, zps_lit]
      have e1 := Whole.setRow_far (Whole.setRow H8.out zar) (g' := (w.heap.size + 1 + 1 + 1)) (by omega) zps
      have e2 := Whole.setRow (Whole.setRow_far H9.out (g' := (w.heap.size + 1 + 1)) (by omega) zar) zps
      refine bodyPost_ret (results_pass3 Tryd.results16 _ rfl rfl _ rfl zar_size zps_size e1 e2) rfl ?_
      rw [HRR.out]
      exact ⟨⟨_, _, rfl, alv_zero _ _, pss_zero _ _⟩, below_setRow (below_setRow H6.out (by omega) _) (by omega) _⟩
    subst he
    have HRR : Hid (R0 = (b, ⟨z, (n : Int), [], T⟩, 0)) := Lib.hid (by rw [HR1.out, if_neg (by simp)])
    have hsz : (Tryd.prog.info? 32).map (·.size) = some (alcl b.free b.seed b.fresh (.slice Am9 b.macs.length cm9) (.slice Ab9 b.boxes.length cb9)).length := by rw [alcl_length]; exact algSize
    have hst : (Tryd.prog.info? 28).map (·.size) = some (T.map byt).length := by rw [List.length_map, hlT]; exact tagSize
    have h6d : Whole wc.drew (w.heap.size + 1 + 1) 32 zar := Whole.drew H8.out
    have h7d : Whole wc.drew (w.heap.size + 1 + 1 + 1) 45 zps := Whole.drew H9.out
    have bbd : Below w.heap.size w wc.drew := Below.drew H6.out
    have i0d : wc.drew.rangeAt w.heap.size 0 (alcl b.free b.seed b.fresh (.slice Am9 b.macs.length cm9) (.slice Ab9 b.boxes.length cb9)) := (Whole.range (Whole.drew HR9.out))
    have i1d : wc.drew.rangeAt G10 0 (T.map byt) := (TGRow.range (Whole.drew HR10.out))
    have i2d : wc.drew.cell? ⟨(w.heap.size + 1), 0, none⟩ = some (.int .i64 z) := repl_num (Whole.drew H7.out)
    have kvd : AlV wc.drew (fun g => ((Q g ∧ g < w.heap.size) ∨ p.heap.size ≤ g) ∧ g ≠ w.heap.size ∧ g ≠ G10) (.agg (alc b.free b.seed b.fresh (.slice Am9 b.macs.length cm9) (.slice Ab9 b.boxes.length cb9))) b := AlV.below HVA.out (Below.drew (Below.refl _ _)) (Nat.le_refl _)
    go_upto_region 6 with fail
    refine wp_region_held_drew (S := fun W => W.rangeAt w.heap.size 0 (alcl b.free b.seed b.fresh (.slice Am9 b.macs.length cm9) (.slice Ab9 b.boxes.length cb9)) ∧ W.rangeAt G10 0 (T.map byt) ∧ W.cell? ⟨(w.heap.size + 1), 0, none⟩ = some (.int .i64 z)) (by kernel_rfl) (⟨i0d, i1d, i2d⟩) (fun hHeld => ?_)
    apply wpT (i := 0) rfl (by kernel_rfl)
    case hQ => exact fun _ _ _ h => h
    case hS => exact hHeld
    case hy => exact yieldsIf_load_mid (by rfl) 32 _ rfl w.heap.size 0 rfl (alcl b.free b.seed b.fresh (.slice Am9 b.macs.length cm9) (.slice Ab9 b.boxes.length cb9)) _ (fun w hS => hS.1) Tryd.underlying32 rfl hsz
    (try simp only [sq])
    apply wpT (i := 1) rfl (by kernel_rfl)
    case hQ => exact fun _ _ _ h => h
    case hS => exact hHeld
    case hy => (refine Or.inl ⟨by rfl, ?_⟩; intro w hSw; (try go_split_ands); go_simp; (try with_reducible rfl))
    (try simp only [sq])
    apply wpT (i := 2) rfl (by kernel_rfl)
    case hQ => exact fun _ _ _ h => h
    case hS => exact hHeld
    case hy => (refine Or.inl ⟨by rfl, ?_⟩; intro w hSw; (try go_split_ands); go_simp; (try with_reducible rfl))
    (try simp only [sq])
    apply wpT (i := 3) rfl (by kernel_rfl)
    case hQ => exact fun _ _ _ h => h
    case hS => exact hHeld
    case hy => (refine Or.inl ⟨by rfl, ?_⟩; intro w hSw; (try go_split_ands); go_simp; (try with_reducible rfl))
    (try simp only [sq])
    apply wpT (i := 4) rfl (by kernel_rfl)
    case hQ => exact fun _ _ _ h => h
    case hS => exact hHeld
    case hy => exact yieldsIf_load_mid (by rfl) 28 _ rfl G10 0 rfl (T.map byt) _ (fun w hS => hS.2.1) Tryd.underlying28 rfl hst
    (try simp only [sq])
    apply wpT (i := 5) rfl (by kernel_rfl)
    case hQ => exact fun _ _ _ h => h
    case hS => exact hHeld
    case hy => exact yieldsIf_build_pass3 (by rfl) _ _ _ rfl hlT rfl rfl rfl
    (try simp only [sq])
    refine wpAnyH_ready (rs := [6]) (by kernel_rfl) (by simp) ?_
    refine AllReadyH.cons rfl (fun KK hKK => ?_) AllReadyH.nil
    obtain ⟨X1, hX1⟩ : ∃ x, x = wc.drew.setRow (w.heap.size + 1 + 1) (alcl b.free b.seed b.fresh (.slice Am9 b.macs.length cm9) (.slice Ab9 b.boxes.length cb9)).toArray := ⟨_, rfl⟩
    have e1 : Whole X1 (w.heap.size + 1 + 1) 32 (alcl b.free b.seed b.fresh (.slice Am9 b.macs.length cm9) (.slice Ab9 b.boxes.length cb9)).toArray := by rw [hX1]; exact Whole.setRow h6d _
    have h7X1 : Whole X1 (w.heap.size + 1 + 1 + 1) 45 zps := by rw [hX1]; exact Whole.setRow_far h7d (by omega) _
    have bbX1 : Below w.heap.size w X1 := by rw [hX1]; exact below_setRow bbd (by omega) _
    have i0X1 : X1.rangeAt w.heap.size 0 (alcl b.free b.seed b.fresh (.slice Am9 b.macs.length cm9) (.slice Ab9 b.boxes.length cb9)) := by rw [hX1]; exact (fun i v hv => (cell_setRow_other _ _ _ _ (by show w.heap.size ≠ (w.heap.size + 1 + 1); omega)).trans (i0d i v hv))
    have i1X1 : X1.rangeAt G10 0 (T.map byt) := by rw [hX1]; exact (fun i v hv => (cell_setRow_other _ _ _ _ (by show G10 ≠ (w.heap.size + 1 + 1); omega)).trans (i1d i v hv))
    have i2X1 : X1.cell? ⟨(w.heap.size + 1), 0, none⟩ = some (.int .i64 z) := by rw [hX1]; exact (cell_setRow_other _ _ _ _ (by show (w.heap.size + 1) ≠ (w.heap.size + 1 + 1); omega)).trans i2d
    have kvX1 : AlV X1 (fun g => ((Q g ∧ g < w.heap.size) ∨ p.heap.size ≤ g) ∧ g ≠ w.heap.size ∧ g ≠ G10) (.agg (alc b.free b.seed b.fresh (.slice Am9 b.macs.length cm9) (.slice Ab9 b.boxes.length cb9))) b := by rw [hX1]; exact AlV.keep kvd (by simp) fun g _ hq => setRow_other _ _ _ _ (by omega)
    rw [if_pos (by kernel_rfl)]
    refine wp_store_row 32 _ _ rfl (w.heap.size + 1 + 1) _ rfl rfl 32 _ h6d (by rw [algSize, List.size_toArray, alcl_length]) (by rw [zar_size, List.size_toArray, alcl_length]) (alc_one _ _ _ _ _ _ _ _ _) ?_
    rw [← hX1]
    clear hX1
    refine hKK.out _ _ (⟨i0X1, i1X1, i2X1⟩) (fun hHeld => ?_)
    clear hKK KK
    (try simp only [sq])
    refine wpAnyH_ready (rs := [7]) (by kernel_rfl) (by simp) ?_
    refine AllReadyH.cons rfl (fun KK hKK => ?_) AllReadyH.nil
    obtain ⟨X2, hX2⟩ : ∃ x, x = X1.setRow (w.heap.size + 1 + 1 + 1) (psl z (n : Int) (.slice none 0 0) T).toArray := ⟨_, rfl⟩
    have e1b : Whole X2 (w.heap.size + 1 + 1) 32 (alcl b.free b.seed b.fresh (.slice Am9 b.macs.length cm9) (.slice Ab9 b.boxes.length cb9)).toArray := by rw [hX2]; exact Whole.setRow_far e1 (by omega) _
    have e2 : Whole X2 (w.heap.size + 1 + 1 + 1) 45 (psl z (n : Int) (.slice none 0 0) T).toArray := by rw [hX2]; exact Whole.setRow h7X1 _
    have bbX2 : Below w.heap.size w X2 := by rw [hX2]; exact below_setRow bbX1 (by omega) _
    have i0X2 : X2.rangeAt w.heap.size 0 (alcl b.free b.seed b.fresh (.slice Am9 b.macs.length cm9) (.slice Ab9 b.boxes.length cb9)) := by rw [hX2]; exact (fun i v hv => (cell_setRow_other _ _ _ _ (by show w.heap.size ≠ (w.heap.size + 1 + 1 + 1); omega)).trans (i0X1 i v hv))
    have i1X2 : X2.rangeAt G10 0 (T.map byt) := by rw [hX2]; exact (fun i v hv => (cell_setRow_other _ _ _ _ (by show G10 ≠ (w.heap.size + 1 + 1 + 1); omega)).trans (i1X1 i v hv))
    have i2X2 : X2.cell? ⟨(w.heap.size + 1), 0, none⟩ = some (.int .i64 z) := by rw [hX2]; exact (cell_setRow_other _ _ _ _ (by show (w.heap.size + 1) ≠ (w.heap.size + 1 + 1 + 1); omega)).trans i2X1
    have kvX2 : AlV X2 (fun g => ((Q g ∧ g < w.heap.size) ∨ p.heap.size ≤ g) ∧ g ≠ w.heap.size ∧ g ≠ G10) (.agg (alc b.free b.seed b.fresh (.slice Am9 b.macs.length cm9) (.slice Ab9 b.boxes.length cb9))) b := by rw [hX2]; exact AlV.keep kvX1 (by simp) fun g _ hq => setRow_other _ _ _ _ (by omega)
    rw [if_pos (by kernel_rfl)]
    refine wp_store_row 45 _ _ rfl (w.heap.size + 1 + 1 + 1) _ rfl rfl 45 _ h7X1 (by rw [passSize, psl_size]) (by rw [zps_size, psl_size]) (psl_one _ _ _ _ _ _) ?_
    rw [← hX2]
    clear hX2
    refine hKK.out _ _ (⟨i0X2, i1X2, i2X2⟩) (fun hHeld => ?_)
    clear hKK KK
    (try simp only [sq])
    apply wpT (i := 8) rfl (by kernel_rfl)
    case hQ => exact fun _ _ _ h => h
    case hS => exact hHeld
    case hy => (refine Or.inl ⟨by rfl, ?_⟩; intro w hSw; (try go_split_ands); go_simp; (try with_reducible rfl))
    (try simp only [sq])
    refine wpAnyH_done (by kernel_rfl) ?_ _
    go_wp2_with fail
    refine bodyPost_ret (results_pass3 Tryd.results16 _ rfl rfl _ rfl (by rw [List.size_toArray, alcl_length]) (by rw [psl_size]) e1b e2) rfl ?_
    rw [HRR.out]
    exact ⟨⟨_, _, rfl, AlV.mono kvX2 fun g _ hq => by rcases hq.1 with hq | hq; exact .inl hq.1; exact .inr (by omega), none, 0, rfl, Cavs.nil _ _, hlT⟩, bbX2⟩
end Go.Proofs.YtodmfippjcfbbaaDoor
namespace Go.Proofs.YtodmfippjcfbbaaDoor
open Go Go.RowKit Sh Leaf

theorem psl_cells {w : World} {g : Nat} {z s : Int} {vc : Value} {T : List B8} (h : Whole w g 45 (psl z s vc T).toArray) : w.cell? ⟨g, 0, none⟩ = some (.int .i64 z) ∧ w.cell? ⟨g, 1, none⟩ = some (.int .i64 s) ∧ w.cell? ⟨g, 2, none⟩ = some vc := ⟨by rw [Whole.cell h]; rfl, by rw [Whole.cell h]; rfl, by rw [Whole.cell h]; rfl⟩
theorem psl_tag {w : World} {g : Nat} {z s : Int} {vc : Value} {T : List B8} (hT : T.length = 32) (h : Whole w g 45 (psl z s vc T).toArray) : w.rangeAt g 3 (T.map byt) := fun i v hv => by
  rw [Whole.cell h, List.getElem?_toArray]
  unfold psl
  rw [p32_eq hT, show 3 + i = i + 1 + 1 + 1 by omega, List.getElem?_cons_succ, List.getElem?_cons_succ, List.getElem?_cons_succ]
  exact hv
theorem ptag_sz {T : List B8} (hT : T.length = 32) : (Tryd.prog.info? 28).map (·.size) = some (T.map byt).length := by rw [List.length_map, hT]; exact tagSize
theorem wpList_load_ptag {w : World} {g : Nat} {T : List B8} {ops : Array Oper} {rest : List Oper} {o : Oper} {a : Act} {Q : Exit → Act → World → Prop} (hgd : Region.wanted o (yielded ops a.tmps) = true) (x : Operand) (ho : o.op = .load 28 x)
    (hx : a.eval x = .pointer (some ⟨g, 3, none⟩)) (hT : T.length = 32) (hg : w.rangeAt g 3 (T.map byt)) (h : wpList Tryd.prog ops Q rest (a.put o.dst (tagv T)) w) : wpList Tryd.prog ops Q (o :: rest) a w :=
  wpList_load_wanted_at hgd 28 x ho g 3 hx (T.map byt) _ hg Tryd.underlying28 rfl (ptag_sz hT) h
set_option linter.unusedSimpArgs false in
set_option linter.unusedVariables false in
set_option maxRecDepth 100000 in
set_option maxHeartbeats 4000000 in
theorem rsamep_one {w : World} {Q Q2 : Nat → Prop} {x y : Value} {p : Pss} (hx : PssV w Q x p) (hy : PssV w Q2 y p) (hl : p.cavs.length ≤ 100000) :
    Calls Tryd.prog 17 #[x, y] w fun e w' => e = .returned (.bool true) ∧ Below w.heap.size w w' := by
  obtain ⟨A, c, rfl, hA, hT⟩ := hx
  obtain ⟨B, d, rfl, hB, -⟩ := hy
  obtain ⟨q, hq⟩ : ∃ q, q = (w.alloc (.cells (psl p.epoch p.serial (.slice A p.cavs.length c) p.tag).toArray 45)).alloc (.cells (psl p.epoch p.serial (.slice B p.cavs.length d) p.tag).toArray 45) := ⟨_, rfl⟩
  have h1 : Whole q w.heap.size 45 (psl p.epoch p.serial (.slice A p.cavs.length c) p.tag).toArray := by rw [hq]; exact (Whole.here _ _ _).alloc _
  have h2 : Whole q (w.heap.size + 1) 45 (psl p.epoch p.serial (.slice B p.cavs.length d) p.tag).toArray := by rw [hq]; exact Whole.at_ _ _ _ _ (by simp)
  have hb : Below w.heap.size w q := by rw [hq]; exact ((Below.refl _ _).alloc (Nat.le_refl _) _).alloc (by simp) _
  obtain ⟨x0, x1, x2⟩ := psl_cells h1
  obtain ⟨y0, y1, y2⟩ := psl_cells h2
  have H1 := Lib.hid (psl_tag hT h1)
  have H2 := Lib.hid (psl_tag hT h2)
  have hqe := fun W => eql_tag hT hT (decide_eq_true rfl) W
  have hcl := rcsame (ca := c) (cb := d) ((hA.below hb (Nat.le_refl _)).cvs) ((hB.below hb (Nat.le_refl _)).cvs) hl hl
  rw [decide_eq_true rfl] at hcl
  have HB := Lib.hid hb
  obtain ⟨n, hn⟩ : ∃ n, n = p.cavs.length := ⟨_, rfl⟩
  rw [← hn] at hcl hq x2 y2 ⊢
  clear h1 h2 hb hA hB hl hn
  go_enter Tryd.func17, Tryd.ntmps17
  go_upto_region 1 with fail
  rw [← hq]
  clear hq
  go_wp2_with (first
    | (with_reducible refine wpList_load_ptag (by with_unfolding_all rfl) _ rfl rfl hT H1.out ?_)
    | (with_reducible refine wpList_load_ptag (by with_unfolding_all rfl) _ rfl rfl hT H2.out ?_))
  refine hcl.mono ?_
  rintro e w2 ⟨rfl, hb2⟩
  have HB2 := Lib.hid (HB.out.trans (hb2.mono HB.out.size))
  clear hcl hb2
  go_wp2_with fail
  go_ret
  exact ⟨rfl, HB2.out⟩
end Go.Proofs.YtodmfippjcfbbaaDoor
namespace Go.Proofs.YtodmfippjcfbbaaDoor
open Go Go.RowKit Sh Leaf

abbrev zcav : Value := .agg #[.bool false, .int .i64 0, .int .u64 0, .int .i64 0, .int .i64 0, .string { data := #[] }, .int .i64 0, .int .i64 0, .slice none 0 0, .slice none 0 0]
theorem cavInfo : (Tryd.prog.info? 62).map (fun i => (i.zero, i.size, i.bytes)) = some (some zcav, 10, 120) := by kernel_rfl
theorem zcav_size : zcav.cells.size = 10 := rfl
abbrev OwnCv (w : World) (base : Nat) (v : Value) (L : List CvM) : Prop := OwnS cvl 10 62 w base v L
set_option maxRecDepth 20000 in
set_option maxHeartbeats 1000000 in
theorem growc (n : Nat) (h0 : 0 < n) (hn : n ≤ 1000000) (w : World) :
    Calls Tryd.prog 86 #[.slice none 0 0, .int .i64 (n : Int)] w fun e w' => ∃ v', e = .returned v' ∧ OwnCv w' w.heap.size v' [] ∧ Below w.heap.size w w' := by
  obtain ⟨i0, hi, hz0, hz1, hz2⟩ := info_parts cavInfo
  have hr := fun ty => Lib.run_append_nil_zeros (P := Tryd.prog) w 43 3 ty 62 i0 zcav .i64 .i64 Tryd.underlying43 Tryd.underlying3 hi hz0 n h0 (by omega) (by omega) (by rw [hz2]; omega)
  have hge := grownCap_ge w n 0 62
  have hle := grownCap_le_maxLen w n 0 62 (by unfold maxLen; omega)
  generalize grownCap w n 0 62 = C at *
  have hzc : ∀ k, (Builtin.zeroCells zcav.cells k).size = k * 10 := fun k => by rw [size_zeroCells]; rfl
  have ho : OwnCv (w.drew.alloc (.cells (Builtin.zeroCells zcav.cells n ++ Builtin.zeroCells zcav.cells (C - n)) 62)) w.heap.size (.slice (some ⟨w.heap.size, 0, none⟩) 0 C) [] :=
    ⟨rfl, .inr ⟨_, C, _, rfl, Nat.le_refl _, heap_alloc_new _ _, by simp, hle, by rw [Array.size_append, hzc, hzc, ← Nat.add_mul]; congr 1; omega, by simp [fl]⟩⟩
  have hb : Below w.heap.size w (w.drew.alloc (.cells (Builtin.zeroCells zcav.cells n ++ Builtin.zeroCells zcav.cells (C - n)) 62)) := (Below.refl _ _).drew.alloc (by simp) _
  generalize (w.drew.alloc (.cells (Builtin.zeroCells zcav.cells n ++ Builtin.zeroCells zcav.cells (C - n)) 62)) = w1 at *
  have HR := Lib.hid hr
  clear hr hi hz0 hz1 hz2 hzc
  go_enter Tryd.func86, Tryd.ntmps86
  go_wp2_with (at_builtin; refine Lib.wpList_append_run _ rfl _ _ _ _ rfl _ _ rfl rfl _ _ (HR.out 43) ?_)
  go_ret
  exact ⟨_, rfl, ho, hb⟩
set_option maxRecDepth 20000 in
set_option maxHeartbeats 2000000 in
theorem concatc (g : Nat) (A1 A2 : Option Addr) (c1 c2 : Nat) (L1 L2 : List CvM) (Q1 Q2 : Nat → Prop) (w : World) (hc1 : w.cell? ⟨g, 0, none⟩ = some (.slice A1 L1.length c1)) (hc2 : w.cell? ⟨g, 1, none⟩ = some (.slice A2 L2.length c2))
    (h1 : Seq cvl cmok w Q1 A1 c1 L1) (h2 : Seq cvl cmok w Q2 A2 c2 L2) (h0 : 0 < L2.length) (hl : L1.length + L2.length ≤ 100000) :
    Calls Tryd.prog 72 #[.slice (some ⟨g, 0, none⟩) 2 2] w fun e w' => ∃ v', e = .returned v' ∧ OwnCv w' w.heap.size v' (L1 ++ L2) ∧ Below w.heap.size w w' := by
  have hg : g < w.heap.size := block_lt_of_cell hc1
  have hgr := growc (L1.length + L2.length) (by omega) (by omega) w
  rw [show ((L1.length + L2.length : Nat) : Int) = (L1.length : Int) + (L2.length : Int) by omega] at hgr
  have HG := Lib.hid hgr
  obtain ⟨n1, hn1⟩ : ∃ n, n = L1.length := ⟨_, rfl⟩
  obtain ⟨n2, hn2⟩ : ∃ n, n = L2.length := ⟨_, rfl⟩
  rw [← hn1] at hc1 hl HG
  rw [← hn2] at hc2 hl h0 HG
  have HN1 := Lib.hid hn1
  have HN2 := Lib.hid hn2
  have H1 := Lib.hid h1
  have H2 := Lib.hid h2
  clear hgr hn1 hn2 h1 h2
  go_enter Tryd.func72, Tryd.ntmps72
  go_wp2
  refine wp_loop_rounds 3 ?_
  iterate 3 (rw [rounds_succ]; go_wp2_with fail)
  refine HG.out.mono ?_
  rintro e w1 ⟨v', rfl, ho, hb⟩
  have hc1' : w1.cell? ⟨g, 0, none⟩ = some (.slice A1 n1 c1) := (hb.cell (p := ⟨g, 0, none⟩) hg).trans hc1
  have hc2' : w1.cell? ⟨g, 1, none⟩ = some (.slice A2 n2 c2) := (hb.cell (p := ⟨g, 1, none⟩) hg).trans hc2
  have HO := Lib.hid ho
  have H1' := Lib.hid (H1.out.below hb (Nat.le_refl _))
  have hbs := hb.size
  clear HG hc1 hc2 ho
  go_wp2
  refine wp_loop_rounds 3 ?_
  rw [rounds_succ]
  go_wp2_with (at_builtin; refine wpList_append_seq rfl _ _ 43 62 zcav 120 rfl Tryd.underlying43 cavInfo zcav_size (by omega) (by omega) cvl_len cvl_one w.heap.size v' [] rfl HO.out Q1 A1 n1 c1 L1 HN1.out.symm rfl H1'.out (by have := HN1.out; simp only [List.length_nil]; omega) hbs ?_; intro v3 w3 ho3 hb3 hg3)
  rw [List.nil_append] at ho3
  have hc2'' : w3.cell? ⟨g, 1, none⟩ = some (.slice A2 n2 c2) := (hb3.cell (p := ⟨g, 1, none⟩) hg).trans hc2'
  have H2'' := Lib.hid (H2.out.below (hb.trans hb3) (Nat.le_refl _))
  have HO3 := Lib.hid ho3
  have hbs3 : w.heap.size ≤ w3.heap.size := Nat.le_trans hbs hb3.size
  clear ho3 hg3 hc1' hc2'
  rw [rounds_succ]
  go_wp2_with (at_builtin; refine wpList_append_seq rfl _ _ 43 62 zcav 120 rfl Tryd.underlying43 cavInfo zcav_size (by omega) (by omega) cvl_len cvl_one w.heap.size v3 L1 rfl HO3.out Q2 A2 n2 c2 L2 HN2.out.symm rfl H2''.out (by have := HN1.out; have := HN2.out; omega) hbs3 ?_; intro v4 w4 ho4 hb4 hg4)
  have HO4 := Lib.hid ho4
  clear ho4 hg4
  rw [rounds_succ]
  go_wp2
  go_ret
  exact ⟨v4, rfl, HO4.out, hb.trans (hb3.trans hb4)⟩
end Go.Proofs.YtodmfippjcfbbaaDoor
namespace Go.Proofs.YtodmfippjcfbbaaDoor
open Go Go.RowKit Sh Leaf

theorem thirds_snoc {l : List Cav} {j : Nat} {c : Cav} (h : l[j]? = some c) : thirds (l.take (j + 1)) = thirds (l.take j) + (if c.third = true then 1 else 0) := by
  unfold thirds
  rw [List.take_add_one, h, List.filter_append, List.length_append]
  congr 1
  simp only [Option.toList_some, List.filter_cons, List.filter_nil]
  cases c.third <;> simp
theorem thirds_le (l : List Cav) : thirds l ≤ l.length := List.length_filter_le _ _
theorem wpList_load_cavr {ops : Array Oper} {rest : List Oper} {o : Oper} {a : Act} {w : World} {R : Exit → Act → World → Prop} {g off : Nat} {x : Cav} {A1 A2 : Option Addr} {c1 c2 : Nat} (hgd : o.guard = none) (y : Operand) (ho : o.op = .load 62 y) (hy : a.eval y = .pointer (some ⟨g, off, none⟩))
    (hr : w.rangeAt g off [.bool x.third, .int .i64 x.first.kind, .int .u64 (x.first.mask : Int), .int .i64 x.first.lo, .int .i64 x.first.hi, .string (sof x.first.name), .int .i64 x.first.num, .int .i64 x.party, .slice A1 x.ticket.length c1, .slice A2 x.box.length c2])
    (h : wpList Tryd.prog ops R rest (a.put o.dst (.agg (cvrow x.third x.first x.party (.slice A1 x.ticket.length c1) (.slice A2 x.box.length c2)))) w) : wpList Tryd.prog ops R (o :: rest) a w :=
  wpList_load_mid hgd 62 y ho g off hy _ _ hr Tryd.underlying62 rfl (by rw [cavSize]; rfl) h
set_option linter.unusedSimpArgs false in
set_option linter.unusedVariables false in
set_option maxRecDepth 100000 in
set_option maxHeartbeats 4000000 in
theorem croom {w : World} {Q : Nat → Prop} {A : Option Addr} {ca : Nat} {l : List Cav} {v : Value} {c : Cav} (hA : Cvs w A l) (hl : l.length ≤ 100000) (hv : CavV w Q v c) :
    Calls Tryd.prog 50 #[.slice A l.length ca, v] w fun e w' => e = .returned (.bool (decide (roomc l c))) ∧ Below w.heap.size w w' := by
  obtain ⟨A1, c1, A2, c2, rfl, -, -, -⟩ := hv
  obtain ⟨R, hR⟩ : ∃ R, R = decide (roomc l c) := ⟨_, rfl⟩
  rw [← hR]
  have HR := Lib.hid hR
  obtain ⟨n, hn⟩ : ∃ n, n = l.length := ⟨_, rfl⟩
  rw [← hn] at hl ⊢
  have HN := Lib.hid hn
  obtain ⟨p, hp⟩ : ∃ p, p = w.alloc (.cells (cvrow c.third c.first c.party (.slice A1 c.ticket.length c1) (.slice A2 c.box.length c2)) 62) := ⟨_, rfl⟩
  have hr : CvRow p w.heap.size c.third c.first c.party (.slice A1 c.ticket.length c1) (.slice A2 c.box.length c2) := by rw [hp]; exact Whole.here _ _ _
  have hb : Below w.heap.size w p := by rw [hp]; exact (Below.refl _ _).alloc (Nat.le_refl _) _
  have hps : w.heap.size < p.heap.size := hr.lt
  obtain ⟨th, hth⟩ : ∃ t, t = c.third := ⟨_, rfl⟩
  have hc0 : p.cell? ⟨w.heap.size, 0, none⟩ = some (.bool th) := by rw [hth]; exact (CvRow.cells hr).1
  have HC0 := Lib.hid hc0
  have HTH := Lib.hid hth
  have HA := Lib.hid (hA.below hb)
  have HB := Lib.hid hb
  clear hR hA hn hr hb hc0 hth
  go_enter Tryd.func50, Tryd.ntmps50
  go_upto_region 1 with fail
  rw [← hp]
  clear hp
  go_wp2_with fail
  go_loopw [5, 10] (fun v5 v wr => ∃ (j k : Nat), v5 = .int .i64 k ∧ v = .int .i64 j ∧ j ≤ n ∧ k = thirds (l.take j) ∧ Below p.heap.size p wr) (fun _ v _ => n - (intOf v).toNat)
  case atStart => exact ⟨0, 0, rfl, rfl, by omega, rfl, Below.refl _ _⟩
  case round =>
    obtain ⟨j, k, rfl, rfl, hj, hkt, hbw⟩ := hrel
    have hswr : p.heap.size ≤ wr.heap.size := hbw.size
    have HK := Lib.hid hkt
    have HBW := Lib.hid hbw
    clear hkt hbw
    by_cases hlt : j < n
    case neg =>
      obtain rfl : j = n := by omega
      have hc0 : wr.cell? ⟨w.heap.size, 0, none⟩ = some (.bool th) := (HBW.out.cell (p := ⟨w.heap.size, 0, none⟩) hps).trans HC0.out
      have hkl : k = thirds l := by have := HK.out; rwa [List.take_of_length_le (by rw [← HN.out]; omega)] at this
      have hR : R = decide (j < 64 ∧ (th = true → k < 8)) := by rw [HR.out, hkl, HTH.out, HN.out]; rfl
      have HFIN := Lib.hid (HB.out.trans (HBW.out.mono (by omega)))
      clear hlt hj hkl HK HR HN HA
      cases th
      · by_cases h64 : j < 64
        · obtain rfl : R = true := by rw [hR]; exact decide_eq_true ⟨h64, fun h => by cases h⟩
          have h64i : (j : Int) < 64 := by omega
          clear hR h64
          go_wp2_with fail
          go_ret
          exact ⟨rfl, HFIN.out⟩
        · obtain rfl : R = false := by rw [hR]; exact decide_eq_false fun h => h64 h.1
          have h64i : ¬ (j : Int) < 64 := by omega
          clear hR h64
          go_wp2_with fail
          go_ret
          exact ⟨rfl, HFIN.out⟩
      · by_cases h64 : j < 64
        · by_cases h8 : k < 8
          · obtain rfl : R = true := by rw [hR]; exact decide_eq_true ⟨h64, fun _ => h8⟩
            have h64i : (j : Int) < 64 := by omega
            have h8i : (k : Int) < 8 := by omega
            clear hR h64 h8
            go_wp2_with fail
            go_ret
            exact ⟨rfl, HFIN.out⟩
          · obtain rfl : R = false := by rw [hR]; exact decide_eq_false fun h => h8 (h.2 rfl)
            have h64i : (j : Int) < 64 := by omega
            have h8i : ¬ (k : Int) < 8 := by omega
            clear hR h64 h8
            go_wp2_with fail
            go_ret
            exact ⟨rfl, HFIN.out⟩
        · obtain rfl : R = false := by rw [hR]; exact decide_eq_false fun h => h64 h.1
          have h64i : ¬ (j : Int) < 64 := by omega
          clear hR h64
          go_wp2_with fail
          go_ret
          exact ⟨rfl, HFIN.out⟩
    obtain ⟨x, hx⟩ : ∃ x, l[j]? = some x := ⟨_, List.getElem?_eq_getElem (by have := HN.out; omega)⟩
    have hA2 := HA.out.below HBW.out
    obtain ⟨g, o, X1, x1, X2, x2, hAe, hgl, hra, hat, hab, hwfa⟩ := hA2 j x hx
    have HRA := Lib.hid hra
    have j0 : (0 : Int) ≤ (j : Int) := by omega
    have jn : (j : Int) < (n : Int) := by omega
    have hth := thirds_snoc hx
    have hkn : k ≤ n := by have h1 := thirds_le (l.take j); rw [← HK.out, List.length_take] at h1; omega
    obtain ⟨q, hq⟩ : ∃ p, p = wr.alloc (.cells (cvrow x.third x.first x.party (.slice X1 x.ticket.length x1) (.slice X2 x.box.length x2)) 62) := ⟨_, rfl⟩
    have hrow : CvRow q wr.heap.size x.third x.first x.party (.slice X1 x.ticket.length x1) (.slice X2 x.box.length x2) := by rw [hq]; exact Whole.here _ _ _
    have hbq : Below wr.heap.size wr q := by rw [hq]; exact (Below.refl _ _).alloc (Nat.le_refl _) _
    obtain ⟨xt, hxt⟩ : ∃ t, t = x.third := ⟨_, rfl⟩
    rw [← hxt, ← HK.out] at hth
    have hcx : q.cell? ⟨wr.heap.size, 0, none⟩ = some (.bool xt) := by rw [hxt]; exact (CvRow.cells hrow).1
    have HQ := Lib.hid (HBW.out.trans (hbq.mono hswr))
    have HTS := Lib.hid hth
    have HQE := Lib.hid hq
    subst hAe
    clear hx hA2 hra hat hab hwfa hrow hbq hxt hth hq
    go_upto_region 5 with (with_reducible refine wpList_load_cavr rfl _ rfl rfl HRA.out ?_)
    rw [← HQE.out]
    clear HQE
    cases xt
    · have HX : Hid (k = thirds (l.take (j + 1))) := Lib.hid (by have := HTS.out; simpa using this.symm)
      go_wp2_with fail
      go_roundw
      case rel => exact ⟨j + 1, k, rfl, by go_num, by omega, HX.out, HQ.out⟩
      case measure => simp [intOf]; omega
    · have HX : Hid (k + 1 = thirds (l.take (j + 1))) := Lib.hid (by have := HTS.out; simpa using this.symm)
      go_wp2_with fail
      go_roundw
      case rel => exact ⟨j + 1, k + 1, by go_num, by go_num, by omega, HX.out, HQ.out⟩
      case measure => simp [intOf]; omega
end Go.Proofs.YtodmfippjcfbbaaDoor
namespace Go.Proofs.YtodmfippjcfbbaaDoor
open Go Go.RowKit Sh Leaf

set_option maxRecDepth 100000 in
theorem bs_cav (x : CvM) : Tryd.prog.builtSlice 62 1 [(0, .agg (cvl x).toArray)] = some (cvl x).toArray := by
  unfold cvl
  kernel_rfl
theorem wpList_buildSlice_cav {w : World} {ops : Array Oper} {rest : List Oper} {o : Oper} {a : Act} {Q : Exit → Act → World → Prop} (hg : o.guard = none) (x : Operand) (ho : o.op = .buildSlice 43 1 #[(0, x)])
    (N : Nat) (hN : w.heap.size = N) (dst : Option Tmp) (hdst : o.dst = dst) {X : CvM} (hx : a.eval x = .agg (cvl X).toArray)
    (h : wpList Tryd.prog ops Q rest (a.put dst (.slice (some ⟨N, 0, none⟩) 1 1)) (w.alloc (.cells (cvl X).toArray 62))) : wpList Tryd.prog ops Q (o :: rest) a w := by
  refine Great.wpList_buildSliceTo hg 43 62 1 _ ho N hN dst hdst Tryd.underlying43 _ ?_ h
  have e1 : (#[(0, x)].map fun (i, x) => (i, a.eval x)).toList = [(0, .agg (cvl X).toArray)] := by simp [hx]
  rw [e1]
  exact bs_cav X
theorem wpList_load_cvl {w : World} {g : Nat} {ops : Array Oper} {rest : List Oper} {o : Oper} {a : Act} {Q : Exit → Act → World → Prop} (hgd : o.guard = none) (x : Operand) (ho : o.op = .load 62 x)
    (hx : a.eval x = .pointer (some ⟨g, 0, none⟩)) {X : CvM} (hg : Whole w g 62 (cvl X).toArray) (h : wpList Tryd.prog ops Q rest (a.put o.dst (.agg (cvl X).toArray)) w) : wpList Tryd.prog ops Q (o :: rest) a w :=
  wpList_load_row hgd 62 x ho g hx 62 _ (0, 0) _ hg Tryd.underlying62 rfl (by rw [cavSize]; rfl) h
theorem own_cell_at {w : World} {base gl n1 cap : Nat} {L : List CvM} (h : OwnS cvl 10 62 w base (.slice (some ⟨gl, 0, none⟩) n1 cap) L) (k : Nat) (p : CvM) (hp : L[k]? = some p) :
    (∀ i u, (cvl p)[i]? = some u → w.cell? ⟨gl, k * 10 + i, none⟩ = some u ∧ w.frozen? ⟨gl, k * 10 + i, none⟩ = false) ∧ ∀ i u q, i < 10 → cvl q = (cvl p).set i u → OwnS cvl 10 62 (w.setCell ⟨gl, k * 10 + i, none⟩ u) base (.slice (some ⟨gl, 0, none⟩) n1 cap) (L.set k q) := by
  obtain ⟨gg, cc, hve, -, -, -, -, hcell, hset⟩ := OwnS.cell cvl_len h k p hp
  injection hve with hv1 hv2 hv3
  injection hv1 with hv1
  injection hv1 with hv1
  subst hv1
  exact ⟨hcell, hset⟩
theorem set_same {α : Type} : ∀ (l : List α) (i : Nat) (a : α), l[i]? = some a → l.set i a = l
  | [], _, _, h => by simp at h
  | x :: t, 0, a, h => by simp at h; rw [h]; rfl
  | x :: t, i + 1, a, h => by rw [List.set_cons_succ, set_same t i a (by simpa using h)]
def ExR (w : World) (gl : Nat) (L' : List CvM) (j : Nat) (W : World) : Prop := ∀ (i : Nat) (x : CvM), L'[i]? = some x → Bytes W (fun g => (i < j → w.heap.size ≤ g) ∧ g ≠ gl) (.slice x.A1 x.e.ticket.length x.c1) x.e.ticket ∧ Bytes W (fun g => (i < j → w.heap.size ≤ g) ∧ g ≠ gl) (.slice x.A2 x.e.box.length x.c2) x.e.box ∧ Cwf x.e
theorem ExR.below {w W W' : World} {gl j : Nat} {L' : List CvM} (h : ExR w gl L' j W) (hb : Below W.heap.size W W') : ExR w gl L' j W' := fun i x hx => ⟨(h i x hx).1.below hb (Nat.le_refl _), (h i x hx).2.1.below hb (Nat.le_refl _), (h i x hx).2.2⟩
set_option linter.unusedSimpArgs false in
set_option linter.unusedVariables false in
set_option maxRecDepth 100000 in
set_option maxHeartbeats 8000000 in
theorem cext {w : World} {Q Q2 : Nat → Prop} {A : Option Addr} {ca : Nat} {l : List Cav} {v : Value} {c : Cav} (hA : Cavs w Q A ca l) (hl : l.length ≤ 1000) (hv : CavV w Q2 v c) :
    Calls Tryd.prog 51 #[.slice A l.length ca, v] w fun e w' => (∃ A' c', e = .returned (.slice A' (l ++ [c]).length c') ∧ Cavs w' (fun g => w.heap.size ≤ g) A' c' (l ++ [c])) ∧ Below w.heap.size w w' := by
  obtain ⟨A1, c1, A2, c2, rfl, hB1, hB2, hwf⟩ := hv
  obtain ⟨L, hLl, hS, hBL⟩ := hA
  obtain ⟨cm, hcm⟩ : ∃ x : CvM, x = ⟨c, A1, c1, A2, c2⟩ := ⟨_, rfl⟩
  have hcr : (Value.agg (cvrow c.third c.first c.party (.slice A1 c.ticket.length c1) (.slice A2 c.box.length c2))) = .agg (cvl cm).toArray := by rw [hcm]; rfl
  rw [hcr]
  obtain ⟨n, hn⟩ : ∃ n, n = l.length := ⟨_, rfl⟩
  have hLn : L.length = n := by rw [hn, ← hLl, List.length_map]
  rw [show (l ++ [c]).length = n + 1 by rw [List.length_append, ← hn]; rfl, ← hn]
  obtain ⟨p, hp⟩ : ∃ p, p = w.alloc (.cells (cvl cm).toArray 62) := ⟨_, rfl⟩
  have hr : Whole p w.heap.size 62 (cvl cm).toArray := by rw [hp]; exact Whole.here _ _ _
  have hb : Below w.heap.size w p := by rw [hp]; exact (Below.refl _ _).alloc (Nat.le_refl _) _
  have hps : w.heap.size < p.heap.size := hr.lt
  obtain ⟨q1, hq1⟩ : ∃ q, q = p.alloc (.cells (cvl cm).toArray 62) := ⟨_, rfl⟩
  have hs1 : q1.heap.size = p.heap.size + 1 := by rw [hq1]; simp
  have hSq : Seq cvl cmok q1 (fun b => b = p.heap.size) (some ⟨p.heap.size, 0, none⟩) 1 [cm] := by rw [hq1]; exact seq_one (heap_alloc_new p _) rfl (by rw [hcm]; exact hwf)
  have hb1 : Below p.heap.size p q1 := by rw [hq1]; exact (Below.refl _ _).alloc (Nat.le_refl _) _
  obtain ⟨q2, hq2⟩ : ∃ q, q = q1.alloc (.cells #[.slice A n ca, .slice (some ⟨p.heap.size, 0, none⟩) 1 1] 43) := ⟨_, rfl⟩
  have hl2 : Whole q2 q1.heap.size 43 #[.slice A n ca, .slice (some ⟨p.heap.size, 0, none⟩) 1 1] := by rw [hq2]; exact Whole.here _ _ _
  have hb2 : Below q1.heap.size q1 q2 := by rw [hq2]; exact (Below.refl _ _).alloc (Nat.le_refl _) _
  have hs2 : q1.heap.size < q2.heap.size := hl2.lt
  have hb02 := hb.trans ((hb1.trans (hb2.mono (by omega))).mono (Nat.le_of_lt hps))
  have hcl := concatc q1.heap.size A (some ⟨p.heap.size, 0, none⟩) ca 1 L [cm] Q (fun b => b = p.heap.size) q2 (by rw [hLn]; exact hl2.cell 0) (hl2.cell 1) (hS.below hb02 (Nat.le_refl _)) (hSq.below hb2 (Nat.le_refl _)) (by simp) (by simp; omega)
  rw [hs1] at hcl
  have HBL : Hid (∀ (i : Nat) (x : CvM), (L ++ [cm])[i]? = some x → Bytes q2 (fun g => g < w.heap.size) (.slice x.A1 x.e.ticket.length x.c1) x.e.ticket ∧ Bytes q2 (fun g => g < w.heap.size) (.slice x.A2 x.e.box.length x.c2) x.e.box ∧ Cwf x.e) := Lib.hid fun i x hx => by
    rcases List.mem_append.1 (List.mem_of_getElem? hx) with h | h
    · exact ⟨((hBL x h).1.mono fun g hg _ => hg).below hb02 (Nat.le_refl _), ((hBL x h).2.mono fun g hg _ => hg).below hb02 (Nat.le_refl _), hS.2.2.2.1 x h⟩
    · rw [List.mem_singleton.1 h, hcm]
      exact ⟨(hB1.mono fun g hg _ => hg).below hb02 (Nat.le_refl _), (hB2.mono fun g hg _ => hg).below hb02 (Nat.le_refl _), hwf⟩
  have HLL : Hid ((L ++ [cm]).map (·.e) = l ++ [c] ∧ (L ++ [cm]).length = n + 1) := Lib.hid ⟨by rw [List.map_append, hLl, hcm]; rfl, by rw [List.length_append, hLn]; rfl⟩
  have HB := Lib.hid hb02
  have HR := Lib.hid hr
  have HQ1 := Lib.hid hq1
  have HQ2 := Lib.hid hq2
  have hwq : w.heap.size < q2.heap.size := by omega
  have hn1 : n ≤ 1000 := by omega
  obtain ⟨LL, hLL⟩ : ∃ x, x = L ++ [cm] := ⟨_, rfl⟩
  rw [← hLL] at hcl HBL HLL
  clear hcr hLl hS hBL hcm hLn hn hl hB1 hB2 hwf hr hb hq1 hSq hb1 hq2 hl2 hb2 hb02 hs1 hLL
  go_enter Tryd.func51, Tryd.ntmps51
  go_upto_region 1 with fail
  rw [← hp]
  clear hp
  go_wp2_with (first
    | (with_reducible refine wpList_load_cvl rfl _ rfl rfl HR.out ?_)
    | (with_reducible refine wpList_buildSlice_cav rfl _ rfl p.heap.size rfl _ rfl rfl ?_))
  rw [← HQ1.out, ← HQ2.out]
  refine hcl.mono ?_
  rintro e w1 ⟨v, rfl, ho, hb1⟩
  clear hcl HQ1 HQ2 HR
  obtain ⟨x0, hx0⟩ : ∃ x, LL[0]? = some x := ⟨_, List.getElem?_eq_getElem (by have := HLL.out.2; omega)⟩
  obtain ⟨gl, cap, rfl, hgl, hgs, hcap, hcm, -, -⟩ := OwnS.cell cvl_len ho 0 x0 hx0
  have hl1 := HLL.out.2
  change w1.ownsRow q2.heap.size 62 10 _ LL.length (fl cvl LL) at ho
  rw [hl1] at ho hcap ⊢
  have hs3 : q2.heap.size ≤ w1.heap.size := hb1.size
  have HB1 := Lib.hid (HB.out.trans (hb1.mono (by omega)))
  have HE1 : Hid (ExR w gl LL 0 w1) := Lib.hid fun i x hx => ⟨((HBL.out i x hx).1.below hb1 (Nat.le_refl _)).mono fun g _ hg => ⟨fun h => by omega, by have : g < w.heap.size := hg; omega⟩, ((HBL.out i x hx).2.1.below hb1 (Nat.le_refl _)).mono fun g _ hg => ⟨fun h => by omega, by have : g < w.heap.size := hg; omega⟩, (HBL.out i x hx).2.2⟩
  have HO := Lib.hid ho
  have HCM := Lib.hid hcm
  clear ho hb1 HBL HB hx0 hl1 hcm
  go_wp2_with fail
  go_loopw [15] (fun v wr => ∃ (j : Nat) (L' : List CvM), v = .int .i64 j ∧ j ≤ n + 1 ∧ L'.map (·.e) = l ++ [c] ∧ L'.length = n + 1 ∧ wr.ownsRow q2.heap.size 62 10 (.slice (some ⟨gl, 0, none⟩) (n + 1) cap) (n + 1) (fl cvl L') ∧ ExR w gl L' j wr ∧ gl < wr.heap.size ∧ Below w.heap.size w wr) (fun v _ => n + 1 - (intOf v).toNat)
  case atStart => exact ⟨0, LL, rfl, by omega, HLL.out.1, HLL.out.2, HO.out, HE1.out, hgs, HB1.out⟩
  case round =>
    obtain ⟨j, L', rfl, hj, hLe, hLl, ho, hE, hgw, hbw⟩ := hrel
    have HLE := Lib.hid (And.intro hLe hLl)
    have HOJ := Lib.hid ho
    have HE := Lib.hid hE
    have HBW := Lib.hid hbw
    have hsw : w.heap.size ≤ wr.heap.size := hbw.size
    clear hLe hLl ho hE hbw HO HE1 HB1 HLL HCM
    by_cases hlt : j < n + 1
    case neg =>
      obtain rfl : j = n + 1 := by omega
      have ho := HOJ.out
      rw [← HLE.out.2] at ho
      obtain ⟨A', c', hve, hS⟩ := OwnS.seq (f := cvl) (ok := cmok) (l := L') ho (fun x hx => by
        obtain ⟨i, hi⟩ := List.getElem?_of_mem hx
        exact (HE.out i x hi).2.2)
      injection hve with hv1 hv2 hv3
      subst hv1 hv3
      have HFIN : Hid (Cavs wr (fun g => w.heap.size ≤ g) (some ⟨gl, 0, none⟩) cap (l ++ [c])) := Lib.hid ⟨L', HLE.out.1, hS.mono fun g _ hg => by omega, fun x hx => by
        obtain ⟨i, hi⟩ := List.getElem?_of_mem hx
        have hil := (List.getElem?_eq_some_iff.1 hi).1
        have hlen := HLE.out.2
        exact ⟨(HE.out i x hi).1.mono fun g _ hg => hg.1 (by omega), (HE.out i x hi).2.1.mono fun g _ hg => hg.1 (by omega)⟩⟩
      clear hlt hj ho hS hv2
      go_wp2_with fail
      go_ret
      exact ⟨⟨_, _, rfl, HFIN.out⟩, HBW.out⟩
    obtain ⟨x, hx⟩ : ∃ x, L'[j]? = some x := ⟨_, List.getElem?_eq_getElem (by have := HLE.out.2; omega)⟩
    have ho := HOJ.out
    rw [← HLE.out.2] at ho
    obtain ⟨gl', cap', hve, -, -, -, -, hcell, hset⟩ := OwnS.cell (f := cvl) cvl_len ho j x hx
    injection hve with hv1 hv2 hv3
    injection hv1 with hv1
    injection hv1 with hv1
    subst hv1 hv3
    clear hv2
    have HRA : Hid (wr.rangeAt gl (j * 10) [.bool x.e.third, .int .i64 x.e.first.kind, .int .u64 (x.e.first.mask : Int), .int .i64 x.e.first.lo, .int .i64 x.e.first.hi, .string (sof x.e.first.name), .int .i64 x.e.first.num, .int .i64 x.e.party, .slice x.A1 x.e.ticket.length x.c1, .slice x.A2 x.e.box.length x.c2]) := Lib.hid fun i u hu => (hcell i u hu).1
    have HX := Lib.hid hx
    obtain ⟨q, hq⟩ : ∃ q, q = wr.alloc (.cells (cvrow x.e.third x.e.first x.e.party (.slice x.A1 x.e.ticket.length x.c1) (.slice x.A2 x.e.box.length x.c2)) 62) := ⟨_, rfl⟩
    have hrow : CvRow q wr.heap.size x.e.third x.e.first x.e.party (.slice x.A1 x.e.ticket.length x.c1) (.slice x.A2 x.e.box.length x.c2) := by rw [hq]; exact Whole.here _ _ _
    have hbq : Below wr.heap.size wr q := by rw [hq]; exact (Below.refl _ _).alloc (Nat.le_refl _) _
    have hsq : wr.heap.size < q.heap.size := hrow.lt
    have HOQ := Lib.hid (own_below HOJ.out hbq (Nat.le_refl _))
    have HEQ := Lib.hid (HE.out.below hbq)
    have HBQ := Lib.hid (HBW.out.trans (hbq.mono hsw))
    have HROW := Lib.hid hrow
    have HQE := Lib.hid hq
    have j0 : (0 : Int) ≤ (j : Int) := by omega
    have jn : (j : Int) < ((n + 1 : Nat) : Int) := by omega
    have jn2 : (j : Int) < (n : Int) + 1 := by omega
    clear hx ho hcell hset hq hrow hbq HOJ HE HBW
    go_upto_region 5 with (with_reducible refine wpList_load_cavr rfl _ rfl rfl HRA.out ?_)
    rw [← HQE.out]
    clear HQE
    obtain ⟨nt, hnt⟩ : ∃ k, k = x.e.ticket.length := ⟨_, rfl⟩
    obtain ⟨nb, hnb⟩ : ∃ k, k = x.e.box.length := ⟨_, rfl⟩
    have hx8 : ∀ W, Below q.heap.size q W → W.cell? ⟨wr.heap.size, 8, none⟩ = some (.slice x.A1 nt x.c1) ∧ W.cell? ⟨wr.heap.size, 9, none⟩ = some (.slice x.A2 nb x.c2) := fun W hW => by
      have h := Whole.below HROW.out hW HROW.out.lt
      rw [hnt, hnb]
      exact ⟨h.cell 8, h.cell 9⟩
    have HX8 := Lib.hid hx8
    have hwf := (HEQ.out j x HX.out).2.2
    have HC1 : Hid (∀ W, Below q.heap.size q W → Calls Tryd.prog 31 #[.slice x.A1 nt x.c1] W fun e w' => ∃ v', e = .returned v' ∧ Bytes w' (fun g => W.heap.size ≤ g) v' x.e.ticket ∧ Below W.heap.size W w') := Lib.hid fun W hW => by rw [hnt]; exact clone _ _ _ W ((HEQ.out j x HX.out).1.below hW (Nat.le_refl _)) (by have := hwf.2.2.1; omega)
    have HC2 : Hid (∀ W, Below q.heap.size q W → Calls Tryd.prog 31 #[.slice x.A2 nb x.c2] W fun e w' => ∃ v', e = .returned v' ∧ Bytes w' (fun g => W.heap.size ≤ g) v' x.e.box ∧ Below W.heap.size W w') := Lib.hid fun W hW => by rw [hnb]; exact clone _ _ _ W ((HEQ.out j x HX.out).2.1.below hW (Nat.le_refl _)) (by have := hwf.2.2.2; omega)
    have HNT := Lib.hid (And.intro hnt hnb)
    have HWF := Lib.hid hwf
    have hb0 : Below q.heap.size q q.drew := Below.drew (Below.refl _ _)
    have hsd : q.heap.size ≤ q.drew.heap.size := hb0.size
    have jn3 : (j : Int) < (n : Int) + 1 := by omega
    clear hx8 hwf hnt hnb HRA
    refine wp_region_held_drew (S := fun W : World => W.cell? ⟨wr.heap.size, 8, none⟩ = some (.slice x.A1 nt x.c1) ∧ W.cell? ⟨wr.heap.size, 9, none⟩ = some (.slice x.A2 nb x.c2)) (by kernel_rfl) (HX8.out _ hb0) (fun hHeld => ?_)
    apply wpT (i := 0) rfl (by kernel_rfl)
    case hQ => exact fun _ _ _ h => h
    case hS => exact hHeld
    case hy => (refine Or.inl ⟨by rfl, ?_⟩; intro w hSw; (try go_split_ands); go_simp; (try with_reducible rfl))
    (try simp only [sq])
    apply wpT (i := 1) rfl (by kernel_rfl)
    case hQ => exact fun _ _ _ h => h
    case hS => exact hHeld
    case hy => (refine Or.inl ⟨by rfl, ?_⟩; intro w hSw; (try go_split_ands); go_simp; (try with_reducible rfl))
    (try simp only [sq])
    apply wpT (i := 2) rfl (by kernel_rfl)
    case hQ => exact fun _ _ _ h => h
    case hS => exact hHeld
    case hy => (refine Or.inl ⟨by rfl, ?_⟩; intro w hSw; (try go_split_ands); go_simp; (try with_reducible rfl))
    (try simp only [sq])
    apply wpT (i := 3) rfl (by kernel_rfl)
    case hQ => exact fun _ _ _ h => h
    case hS => exact hHeld
    case hy => (refine Or.inl ⟨by rfl, ?_⟩; intro w hSw; (try go_split_ands); go_simp; (try with_reducible rfl))
    (try simp only [sq])
    apply wpT (i := 4) rfl (by kernel_rfl)
    case hQ => exact fun _ _ _ h => h
    case hS => exact hHeld
    case hy => (refine Or.inl ⟨by rfl, ?_⟩; intro w hSw; (try go_split_ands); go_simp; (try with_reducible rfl))
    (try simp only [sq])
    apply wpT (i := 5) rfl (by kernel_rfl)
    case hQ => exact fun _ _ _ h => h
    case hS => exact hHeld
    case hy => (refine Or.inl ⟨by rfl, ?_⟩; intro w hSw; (try go_split_ands); go_simp; (try with_reducible rfl))
    (try simp only [sq])
    apply wpT (i := 7) rfl (by kernel_rfl)
    case hQ => exact fun _ _ _ h => h
    case hS => exact hHeld
    case hy => (refine Or.inl ⟨by rfl, ?_⟩; intro w hSw; (try go_split_ands); go_simp; (try with_reducible rfl))
    (try simp only [sq])
    apply wpT (i := 8) rfl (by kernel_rfl)
    case hQ => exact fun _ _ _ h => h
    case hS => exact hHeld
    case hy => (refine Or.inl ⟨by rfl, ?_⟩; intro w hSw; (try go_split_ands); go_simp; (try with_reducible rfl))
    (try simp only [sq])
    refine wpAnyH_ready (rs := [6]) (by kernel_rfl) (by simp) ?_
    refine AllReadyH.cons rfl (fun KK hKK => ?_) AllReadyH.nil
    (try simp only [sq])
    go_simp
    go_at_call 31
    refine (HC1.out _ hb0).mono ?_
    rintro e V1 ⟨v, rfl, h1, hv⟩
    obtain ⟨F1, f1, rfl, -⟩ := id h1
    have hsV1 : q.drew.heap.size ≤ V1.heap.size := hv.size
    have hb1 := Below.trans hb0 (Below.mono hv (Below.size hb0))
    have H1 := Lib.hid (h1.mono (Q' := fun g => q.heap.size ≤ g ∧ g < V1.heap.size) fun g hg hq => ⟨hq, hg⟩)
    clear hv h1
    refine hKK.out _ _ (HX8.out _ hb1) (fun hHeld => ?_)
    clear hKK KK
    (try simp only [sq])
    refine wpAnyH_ready (rs := [9]) (by kernel_rfl) (by simp) ?_
    refine AllReadyH.cons rfl (fun KK hKK => ?_) AllReadyH.nil
    (try simp only [sq])
    go_simp
    go_at_call 31
    refine (HC2.out _ hb1).mono ?_
    rintro e V2 ⟨v, rfl, h2, hv⟩
    obtain ⟨F2, f2, rfl, -⟩ := id h2
    have hsV2 : V1.heap.size ≤ V2.heap.size := hv.size
    have hb2 := Below.trans hb1 (Below.mono hv (Below.size hb1))
    have H1b := Lib.hid (H1.out.below hv (Nat.le_refl _))
    have H2 := Lib.hid h2
    clear hv h2 H1
    have HO2 : Hid (OwnS cvl 10 62 V2 q2.heap.size (.slice (some ⟨gl, 0, none⟩) (n + 1) cap) L') := Lib.hid (by have h := own_below HOQ.out hb2 (Nat.le_refl _); rw [← HLE.out.2] at h; rw [← HLE.out.2]; exact h)
    have HE2 := Lib.hid (HEQ.out.below hb2)
    refine hKK.out _ _ (HX8.out _ hb2) (fun hHeld => ?_)
    clear hKK KK
    (try simp only [sq])
    apply wpT (i := 10) rfl (by kernel_rfl)
    case hQ => exact fun _ _ _ h => h
    case hS => exact hHeld
    case hy => (refine Or.inl ⟨by rfl, ?_⟩; intro w hSw; (try go_split_ands); go_simp; (try with_reducible rfl))
    (try simp only [sq])
    apply wpT (i := 11) rfl (by kernel_rfl)
    case hQ => exact fun _ _ _ h => h
    case hS => exact hHeld
    case hy => (refine Or.inl ⟨by rfl, ?_⟩; intro w hSw; (try go_split_ands); go_simp; (try with_reducible rfl))
    (try simp only [sq])
    refine wpAnyH_ready (rs := [12]) (by kernel_rfl) (by simp) ?_
    refine AllReadyH.cons rfl (fun KK hKK => ?_) AllReadyH.nil
    (try simp only [sq])
    obtain ⟨hcell, hset⟩ := own_cell_at HO2.out j x (HX.out)
    obtain ⟨l8, f8⟩ := hcell 8 _ rfl
    have HNEW := Lib.hid (hset 8 (.slice F1 x.e.ticket.length f1) ⟨x.e, F1, f1, x.A2, x.c2⟩ (by omega) rfl)
    clear hcell hset
    go_simp
    obtain ⟨V3, hV3⟩ : ∃ q, q = V2.setCell ⟨gl, j * 10 + 8, none⟩ (.slice F1 x.e.ticket.length f1) := ⟨_, rfl⟩
    change KK _ (V2.setCell ⟨gl, j * 10 + 8, none⟩ (.slice F1 x.e.ticket.length f1))
    have HO3 : Hid (OwnS cvl 10 62 V3 q2.heap.size (.slice (some ⟨gl, 0, none⟩) (n + 1) cap) (L'.set j ⟨x.e, F1, f1, x.A2, x.c2⟩)) := Lib.hid (by rw [hV3]; exact HNEW.out)
    have HK3 : Hid (V3.heap.size = V2.heap.size) := Lib.hid (by rw [hV3]; simp)
    have HG3 : Hid (∀ g, g ≠ gl → V3.heap[g]? = V2.heap[g]?) := Lib.hid fun g hg => by rw [hV3]; exact heap_setCell_other _ _ _ _ hg
    have HB3 : Hid (Below w.heap.size w V3) := Lib.hid (by rw [hV3]; exact Below.setCell (p := ⟨gl, j * 10 + 8, none⟩) (HBQ.out.trans (hb2.mono (by omega))) (by show w.heap.size ≤ gl; omega) _)
    have HR3 : Hid (CvRow V3 wr.heap.size x.e.third x.e.first x.e.party (.slice x.A1 x.e.ticket.length x.c1) (.slice x.A2 x.e.box.length x.c2)) := Lib.hid (by rw [hV3]; exact Whole.far (Whole.below HROW.out hb2 HROW.out.lt) (a := ⟨gl, j * 10 + 8, none⟩) (by show wr.heap.size ≠ gl; omega) _)
    have HC8 : Hid (V3.cell? ⟨wr.heap.size, 8, none⟩ = some (.slice x.A1 nt x.c1) ∧ V3.cell? ⟨wr.heap.size, 9, none⟩ = some (.slice x.A2 nb x.c2)) := Lib.hid (by rw [HNT.out.1, HNT.out.2]; exact ⟨HR3.out.cell 8, HR3.out.cell 9⟩)
    rw [← hV3]
    clear hV3 l8 f8 HNEW
    refine hKK.out _ _ (HC8.out) (fun hHeld => ?_)
    clear hKK KK
    (try simp only [sq])
    apply wpT (i := 13) rfl (by kernel_rfl)
    case hQ => exact fun _ _ _ h => h
    case hS => exact hHeld
    case hy => (refine Or.inl ⟨by rfl, ?_⟩; intro w hSw; (try go_split_ands); go_simp; (try with_reducible rfl))
    (try simp only [sq])
    apply wpT (i := 14) rfl (by kernel_rfl)
    case hQ => exact fun _ _ _ h => h
    case hS => exact hHeld
    case hy => (refine Or.inl ⟨by rfl, ?_⟩; intro w hSw; (try go_split_ands); go_simp; (try with_reducible rfl))
    (try simp only [sq])
    refine wpAnyH_ready (rs := [15]) (by kernel_rfl) (by simp) ?_
    refine AllReadyH.cons rfl (fun KK hKK => ?_) AllReadyH.nil
    (try simp only [sq])
    obtain ⟨hcell, hset⟩ := own_cell_at HO3.out j (⟨x.e, F1, f1, x.A2, x.c2⟩ : CvM) (by rw [List.getElem?_set_self (List.getElem?_eq_some_iff.1 HX.out).1])
    obtain ⟨l8, f8⟩ := hcell 9 _ rfl
    have HNEW := Lib.hid (hset 9 (.slice F2 x.e.box.length f2) ⟨x.e, F1, f1, F2, f2⟩ (by omega) rfl)
    clear hcell hset
    go_simp
    obtain ⟨V4, hV4⟩ : ∃ q, q = V3.setCell ⟨gl, j * 10 + 9, none⟩ (.slice F2 x.e.box.length f2) := ⟨_, rfl⟩
    change KK _ (V3.setCell ⟨gl, j * 10 + 9, none⟩ (.slice F2 x.e.box.length f2))
    have HO4 : Hid (OwnS cvl 10 62 V4 q2.heap.size (.slice (some ⟨gl, 0, none⟩) (n + 1) cap) (L'.set j ⟨x.e, F1, f1, F2, f2⟩)) := Lib.hid (by rw [hV4]; have hnew := HNEW.out; rw [List.set_set] at hnew; exact hnew)
    have HK4 : Hid (V4.heap.size = V3.heap.size) := Lib.hid (by rw [hV4]; simp)
    have HG4 : Hid (∀ g, g ≠ gl → V4.heap[g]? = V3.heap[g]?) := Lib.hid fun g hg => by rw [hV4]; exact heap_setCell_other _ _ _ _ hg
    have HB4 : Hid (Below w.heap.size w V4) := Lib.hid (by rw [hV4]; exact Below.setCell (p := ⟨gl, j * 10 + 9, none⟩) HB3.out (by show w.heap.size ≤ gl; omega) _)
    have HR4 : Hid (CvRow V4 wr.heap.size x.e.third x.e.first x.e.party (.slice x.A1 x.e.ticket.length x.c1) (.slice x.A2 x.e.box.length x.c2)) := Lib.hid (by rw [hV4]; exact Whole.far HR3.out (a := ⟨gl, j * 10 + 9, none⟩) (by show wr.heap.size ≠ gl; omega) _)
    have HD8 : Hid (V4.cell? ⟨wr.heap.size, 8, none⟩ = some (.slice x.A1 nt x.c1) ∧ V4.cell? ⟨wr.heap.size, 9, none⟩ = some (.slice x.A2 nb x.c2)) := Lib.hid (by rw [HNT.out.1, HNT.out.2]; exact ⟨HR4.out.cell 8, HR4.out.cell 9⟩)
    rw [← hV4]
    clear hV4 l8 f8 HNEW
    refine hKK.out _ _ (HD8.out) (fun hHeld => ?_)
    clear hKK KK
    (try simp only [sq])
    refine wpAnyH_done (by kernel_rfl) ?_ _
    clear hHeld
    have hjl := (List.getElem?_eq_some_iff.1 HX.out).1
    have hkeep : ∀ g, g ≠ gl → V4.heap[g]? = V2.heap[g]? := fun g hg => (HG4.out g hg).trans (HG3.out g hg)
    have hsz42 : V4.heap.size = V2.heap.size := HK4.out.trans HK3.out
    have HF1 : Hid ((L'.set j (⟨x.e, F1, f1, F2, f2⟩ : CvM)).map (·.e) = l ++ [c]) := Lib.hid (by
      rw [List.map_set, ← HLE.out.1]
      exact set_same _ _ _ (by rw [List.getElem?_map, HX.out]; rfl))
    have HF2 : Hid ((L'.set j (⟨x.e, F1, f1, F2, f2⟩ : CvM)).length = n + 1) := Lib.hid (by rw [List.length_set]; exact HLE.out.2)
    have HF3 : Hid (V4.ownsRow q2.heap.size 62 10 (.slice (some ⟨gl, 0, none⟩) (n + 1) cap) (n + 1) (fl cvl (L'.set j (⟨x.e, F1, f1, F2, f2⟩ : CvM)))) := Lib.hid (by
      have h := HO4.out
      change V4.ownsRow _ _ 10 _ (L'.set j _).length _ at h
      rw [HF2.out] at h
      exact h)
    have HF4 : Hid (ExR w gl (L'.set j (⟨x.e, F1, f1, F2, f2⟩ : CvM)) (j + 1) V4) := Lib.hid fun i y hy => by
      by_cases hij : i = j
      · subst hij
        rw [List.getElem?_set_self hjl] at hy
        injection hy with hy
        subst hy
        exact ⟨(H1b.out.keep (w' := V4) fun g _ hg => hkeep g (by omega)).mono fun g _ hg => ⟨fun _ => by omega, by omega⟩, (H2.out.keep (w' := V4) fun g _ hg => hkeep g (by have hg : V1.heap.size ≤ g := hg; omega)).mono fun g _ hg => ⟨fun _ => by have hg : V1.heap.size ≤ g := hg; omega, by have hg : V1.heap.size ≤ g := hg; omega⟩, HWF.out⟩
      · rw [List.getElem?_set_ne (fun h => hij h.symm)] at hy
        have h := HE2.out i y hy
        exact ⟨(h.1.keep (w' := V4) fun g _ hg => hkeep g hg.2).mono fun g _ hg => ⟨fun hi => hg.1 (by omega), hg.2⟩, (h.2.1.keep (w' := V4) fun g _ hg => hkeep g hg.2).mono fun g _ hg => ⟨fun hi => hg.1 (by omega), hg.2⟩, h.2.2⟩
    have HF5 : Hid (gl < V4.heap.size) := Lib.hid (by omega)
    clear hjl hkeep hsz42
    go_wp2_with fail
    go_roundw
    case rel => exact ⟨j + 1, _, by go_num, by omega, HF1.out, HF2.out, HF3.out, HF4.out, HF5.out, HB4.out⟩
    case measure => simp [intOf]; omega
end Go.Proofs.YtodmfippjcfbbaaDoor
namespace Go.Proofs.YtodmfippjcfbbaaDoor
open Go Go.RowKit Sh Leaf
namespace Sh

theorem mac_new {a : Alg} {k m : List B8} (hf : a.free = true) (hn : fnd a.macs k m = none) (hm : m.length ≤ 4096) (hl : a.macs.length < 1000) : aMac a k m = ({ a with macs := a.macs ++ [⟨k, m, sym 109#8 ((a.macs.length + 1 : Nat) : Int)⟩] }, sym 109#8 ((a.macs.length + 1 : Nat) : Int), 0) := by
  unfold aMac
  rw [if_neg (by omega)]
  simp only [hn]
  rw [if_neg (by omega)]
  unfold ntag
  rw [if_pos hf]
theorem node_new {a : Alg} {k m : List B8} (hf : a.free = true) (hn : fnd a.macs k m = none) (hm : m.length ≤ 4096) (hl : a.macs.length < 900) (hn2 : fnd (a.macs ++ [⟨k, m, sym 109#8 ((a.macs.length + 1 : Nat) : Int)⟩]) (sym 109#8 ((a.macs.length + 1 : Nat) : Int)) nodew = none) :
    aNode a k m = ({ a with macs := a.macs ++ [⟨k, m, sym 109#8 ((a.macs.length + 1 : Nat) : Int)⟩] ++ [⟨sym 109#8 ((a.macs.length + 1 : Nat) : Int), nodew, sym 109#8 ((a.macs.length + 1 + 1 : Nat) : Int)⟩] }, sym 109#8 ((a.macs.length + 1 : Nat) : Int), 0) := by
  have h1 := mac_new hf hn hm (by omega)
  have h2 := mac_new (a := { a with macs := a.macs ++ [⟨k, m, sym 109#8 ((a.macs.length + 1 : Nat) : Int)⟩] }) (k := sym 109#8 ((a.macs.length + 1 : Nat) : Int)) (m := nodew) hf hn2 (by decide) (by show (a.macs ++ [_]).length < 1000; rw [List.length_append]; simp; omega)
  unfold aNode
  rw [h1]
  simp only
  rw [h2]
  simp only
  rw [if_neg (by simp), if_neg (by simp)]
  simp
theorem zero_sym (k : B8) (z : Int) : ztag ≠ sym k z := fun h => by
  have h1 := congrArg (fun l => l[0]?) h
  unfold sym at h1
  simp at h1
theorem fnd_cons_ne {e : Me} {t : List Me} {k m : List B8} (h : ¬ (e.key = k ∧ e.msg = m)) : fnd (e :: t) k m = fnd t k m := by
  unfold fnd
  rw [List.find?_cons, decide_eq_false h]
abbrev rcv (n : Int) : Cav := ⟨false, ⟨7, 0, 0, 0, [], n⟩, 0, [], []⟩
theorem rcv_ok (n : Int) (h0 : 0 ≤ n) (h1 : n ≤ 1000) : cvok (rcv n) := by
  right
  refine ⟨rfl, ?_, rfl, rfl, rfl⟩
  unfold pok
  simp
  omega
theorem cavm_nodew (c : Cav) : nodew ≠ cavm c := fun h => by
  have h1 := congrArg (fun l => l[0]?) h
  unfold cavm cavw nodew at h1
  simp at h1
theorem awake_words {a1 b : Alg} {p q : Pss} {e f : Int} (h1 : (a1, p, e) = pMint ⟨true, ztag, 0, [], []⟩ 1 ztag 1) (h2 : (b, q, f) = pAtt a1 p (rcv 3)) :
    (e = 0 ∧ f = 0 ∧ p.tag = sym 109#8 1 ∧ q.tag = sym 109#8 3 ∧ b.macs.length = 4 ∧ q.cavs.length = 1) ∧ p.cavs.length = 0 ∧ a1.macs.length = 2 := by
  have hm1 : minto 1 1 := by unfold minto; omega
  have hn1 := node_new (a := ⟨true, ztag, 0, [], []⟩) (k := ztag) (m := mintm 1) rfl rfl (by have := mintm_len (n := 1) (by omega); omega) (by simp) (by
    show fnd [_] _ _ = none
    rw [fnd_cons_ne (fun h => zero_sym _ _ h.1)]
    rfl)
  unfold pMint at h1
  rw [if_pos hm1] at h1
  simp only [show (1 : Int).toNat = 1 from rfl] at h1
  rw [hn1] at h1
  simp only [List.nil_append, List.length_nil, Nat.zero_add, ne_eq, not_true_eq_false, ↓reduceIte] at h1
  injection h1 with h1 h3
  injection h3 with h3 h4
  subst h1 h3 h4
  have hk := rcv_ok 3 (by omega) (by omega)
  have hr : roomc [] (rcv 3) := by unfold roomc; simp
  have hn2 := node_new (a := ⟨true, ztag, 0, [⟨ztag, mintm 1, sym 109#8 ((1 : Nat) : Int)⟩, ⟨sym 109#8 ((1 : Nat) : Int), nodew, sym 109#8 ((1 + 1 : Nat) : Int)⟩], []⟩) (k := sym 109#8 ((1 : Nat) : Int)) (m := cavm (rcv 3)) rfl (by
    rw [fnd_cons_ne (fun h => zero_sym _ _ h.1), fnd_cons_ne (fun h => cavm_nodew _ h.2)]
    rfl) (by have := cavm_len hk; omega) (by simp) (by
    show fnd (_ :: _ :: [_]) _ _ = none
    rw [fnd_cons_ne (fun h => zero_sym _ _ h.1), fnd_cons_ne (fun h => sym_ne2 (by simp) (by simp) (by simp) (by simp) (by simp) h.1), fnd_cons_ne (fun h => sym_ne2 (by simp) (by simp) (by simp) (by simp) (by simp) h.1)]
    rfl)
  unfold pAtt at h2
  rw [if_pos hk, if_pos hr] at h2
  simp only [List.cons_append, List.nil_append] at h2
  rw [hn2] at h2
  simp only [ne_eq, not_true_eq_false, ↓reduceIte] at h2
  injection h2 with h2 h3
  injection h3 with h3 h4
  subst h2 h3 h4
  exact ⟨⟨rfl, rfl, rfl, rfl, rfl, rfl⟩, rfl, rfl⟩
end Sh
end Go.Proofs.YtodmfippjcfbbaaDoor
namespace Go.Proofs.YtodmfippjcfbbaaDoor
open Go Go.RowKit Sh Leaf

set_option linter.unusedSimpArgs false in
set_option linter.unusedVariables false in
set_option maxRecDepth 100000 in
set_option maxHeartbeats 4000000 in
theorem crides (n : Int) (w : World) (Q : Nat → Prop) :
    Calls Tryd.prog 45 #[.int .i64 n] w fun e w' => (∃ v, e = .returned v ∧ CavV w' Q v (rcv n)) ∧ Below w.heap.size w w' := by
  obtain ⟨p, hp⟩ : ∃ p, p = w.alloc (.cells (cvrow false ⟨7, 0, 0, 0, [], n⟩ 0 (.slice none 0 0) (.slice none 0 0)) 62) := ⟨_, rfl⟩
  have hr : CvRow p w.heap.size false ⟨7, 0, 0, 0, [], n⟩ 0 (.slice none 0 0) (.slice none 0 0) := by rw [hp]; exact Whole.here _ _ _
  have hb : Below w.heap.size w p := by rw [hp]; exact (Below.refl _ _).alloc (Nat.le_refl _) _
  have hlit : cvrow false ⟨7, 0, 0, 0, [], n⟩ 0 (.slice none 0 0) (.slice none 0 0) = #[.bool false, .int .i64 7, .int .u64 0, .int .i64 0, .int .i64 0, .string { data := #[] }, .int .i64 n, .int .i64 0, .slice none 0 0, .slice none 0 0] := by
    unfold cvrow
    rw [← sof_none]
    rfl
  have HR := Lib.hid hr
  have HB := Lib.hid hb
  have HP := Lib.hid hp
  have HLIT := Lib.hid hlit
  clear hr hb hp hlit
  go_enter Tryd.func45, Tryd.ntmps45
  go_wp2_with fail
  rw [← HLIT.out, ← HP.out]
  refine bodyPost_ret (results_cav Tryd.results45 _ rfl HR.out) rfl ?_
  exact ⟨⟨_, rfl, none, 0, none, 0, rfl, Bytes.nil _ _, Bytes.nil _ _, by unfold Cwf; simp⟩, HB.out⟩
end Go.Proofs.YtodmfippjcfbbaaDoor
