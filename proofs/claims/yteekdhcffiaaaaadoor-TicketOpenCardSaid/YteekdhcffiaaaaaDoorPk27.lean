/-
  AlgRKey
  KLw
  AlgKey
  KFrA
-/
import Derived.Deep.RegionHeld3
import Derived.Deep.CutBlock
import Derived.Deep.DeepCutAuto
import Derived.Test.YteekdhcffiaaaaaDoorKSq
import Derived.Test.YteekdhcffiaaaaaDoorPk24
import Derived.Test.YteekdhcffiaaaaaDoorPk26
import Derived.Test.YteekdhcffiaaaaaDoorPk25
import Derived.Test.YteekdhcffiaaaaaDoorPk3
import Derived.Test.YteekdhcffiaaaaaDoorPk8
namespace Go.Proofs.YteekdhcffiaaaaaDoor
open Go Go.RowKit Sh Leaf

theorem alv_zero (w : World) (Q : Nat → Prop) : AlV w Q (.agg zar) zalg := ⟨none, 0, none, 0, by rw [zar_eq]; rfl, Macs.nil _ _, Bxs.nil _ _, ⟨by simp, by simp, by simp, by simp, by simp⟩⟩
theorem bv107 : bv 107#8 = 107 := bv_lit 107 (by omega)
theorem bv98 : bv 98#8 = 98 := bv_lit 98 (by omega)
abbrev AlgR (w' : World) (Q : Nat → Prop) (e : Ending) (r : Alg × List B8 × Int) : Prop := ∃ v, e = .returned (.tuple #[v, tagv r.2.1, .int .i64 r.2.2]) ∧ AlV w' Q v r.1
set_option linter.unusedSimpArgs false in
set_option maxRecDepth 100000 in
set_option maxHeartbeats 4000000 in
theorem rkey {w : World} {Q : Nat → Prop} {x : Value} {a : Alg} (hx : AlV w Q x a) :
    Calls Tryd.prog 22 #[x] w fun e w' => AlgR w' Q e (aKey a) ∧ Below w.heap.size w w' := by
  obtain ⟨Am, cm, Ab, cb, rfl, hM, hBx, hA⟩ := hx
  obtain ⟨p, hp⟩ : ∃ p, p = ((w.alloc (.cells (alc a.free a.seed a.fresh (.slice Am a.macs.length cm) (.slice Ab a.boxes.length cb)) 32)).alloc (.cells zar 32)).alloc (.cells ztr 28) := ⟨_, rfl⟩
  have hr : ALRow p w.heap.size a.free a.seed a.fresh (.slice Am a.macs.length cm) (.slice Ab a.boxes.length cb) := by rw [hp]; exact ((Whole.here _ _ _).alloc _).alloc _
  have h1 : Whole p (w.heap.size + 1) 32 zar := by rw [hp]; exact (Whole.at_ _ _ _ _ (by simp)).alloc _
  have h2 : Whole p (w.heap.size + 1 + 1) 28 ztr := by rw [hp]; exact Whole.at_ _ _ _ _ (by simp)
  have hb : Below w.heap.size w p := by rw [hp]; exact (((Below.refl _ _).alloc (Nat.le_refl _) _).alloc (by simp) _).alloc (by simp; omega) _
  have hps : w.heap.size + 1 + 1 < p.heap.size := h2.lt
  have hfl := hA.lo
  have hfh := hA.hi
  obtain ⟨fr, hfr⟩ : ∃ f, f = a.fresh := ⟨_, rfl⟩
  rw [← hfr] at hr hp hfl hfh ⊢
  obtain ⟨c0, c33, c34, c35⟩ := ALRow.cells hr
  have HM := Lib.hid hM
  have HBX := Lib.hid hBx
  have HR := Lib.hid hr
  have H1 := Lib.hid h1
  have H2 := Lib.hid h2
  have HB := Lib.hid hb
  have HA := Lib.hid hA
  have HFR := Lib.hid hfr
  have hf33 := ALRow.frees hr 33
  clear hM hBx hr h1 h2 hb hA hfr
  go_enter Tryd.func22, Tryd.ntmps22
  go_upto_region 1 with fail
  rw [zar_lit, ztr_lit, ← hp]
  clear hp
  by_cases hbig : (65536 : Int) ≤ fr
  · skip
    have HK : Hid (aKey a = (zalg, ztag, 2)) := Lib.hid (by unfold aKey; rw [if_pos (by rw [← HFR.out]; exact hbig)])
    go_wp2_with (first
      | (with_reducible refine wpList_store_alg rfl _ _ rfl (g := w.heap.size + 1) rfl rfl H1.out zar_size rfl (by with_unfolding_all rfl) ?_)
      | (with_reducible refine wpList_store_tag rfl _ _ rfl (g := w.heap.size + 1 + 1) rfl rfl (Whole.setRow_far H2.out (by omega) _) ztr_size rfl (by with_unfolding_all rfl) ?_))
    rw [zar_lit, ztr_lit]
    have e1 := Whole.setRow_far (Whole.setRow H1.out zar) (g' := w.heap.size + 1 + 1) (by omega) ztr
    have e2 := Whole.setRow (Whole.setRow_far H2.out (g' := w.heap.size + 1) (by omega) zar) ztr
    refine bodyPost_ret (results_alg3 Tryd.results22 _ rfl rfl _ rfl zar_size ztr_size e1 e2) rfl ?_
    show AlgR _ Q _ (aKey a) ∧ _
    rw [HK.out]
    exact ⟨⟨_, by rw [ztr_eq]; rfl, alv_zero _ _⟩, below_setRow (below_setRow HB.out (by omega) _) (by omega) _⟩
  have hw1 : IntKind.i64.wrap (fr + 1) = fr + 1 := by rw [IntKind.wrap_i64]; omega
  have HK : Hid (aKey a = ({ a with fresh := fr + 1 }, if a.free = true then sym 107#8 (fr + 1) else (der a.seed frs (fr + 1)).1, 0)) := Lib.hid (by unfold aKey; rw [HFR.out, if_neg (by rw [← HFR.out]; exact hbig)])
  obtain ⟨F, hF⟩ : ∃ f, f = a.free := ⟨_, rfl⟩
  have HFF := Lib.hid hF
  rw [← hF] at c0
  go_upto_region 4 with fail
  obtain ⟨q, hq⟩ : ∃ q, q = p.setCell ⟨w.heap.size, 33, none⟩ (.int .i64 (fr + 1)) := ⟨_, rfl⟩
  have hr : ALRow q w.heap.size a.free a.seed (fr + 1) (.slice Am a.macs.length cm) (.slice Ab a.boxes.length cb) := by rw [hq]; exact ALRow.set33 HR.out _
  have h1 : Whole q (w.heap.size + 1) 32 zar := by rw [hq]; exact Whole.far H1.out (by show w.heap.size + 1 ≠ w.heap.size; omega) _
  have h2 : Whole q (w.heap.size + 1 + 1) 28 ztr := by rw [hq]; exact Whole.far H2.out (by show w.heap.size + 1 + 1 ≠ w.heap.size; omega) _
  have hb : Below w.heap.size w q := by rw [hq]; exact HB.out.setCell (p := ⟨w.heap.size, 33, none⟩) (Nat.le_refl _) _
  rw [← hq]
  have hqs : w.heap.size + 1 + 1 < q.heap.size := h2.lt
  clear hq hf33 c0 c33 c34 c35 hps HR H1 H2 HB
  rw [← hF] at hr
  have HR := Lib.hid hr
  have H1 := Lib.hid h1
  have H2 := Lib.hid h2
  have HB := Lib.hid hb
  obtain ⟨c0, c33, c34, c35⟩ := ALRow.cells hr
  have hsd := ALRow.seed hr HA.out.seed
  clear hr h1 h2 hb hF
  cases F
  rotate_left
  · skip
    obtain ⟨E, hE⟩ : ∃ E, E = sym 107#8 (fr + 1) := ⟨_, rfl⟩
    have hEl : E.length = 32 := by rw [hE]; exact sym_length _ _
    have HE := Lib.hid hE
    have hcc : ∀ W, Below q.heap.size q W → (fun W => W.rangeAt w.heap.size 0 (alcl true a.seed (fr + 1) (.slice Am a.macs.length cm) (.slice Ab a.boxes.length cb)) ∧ W.cell? ⟨w.heap.size, 33, none⟩ = some (.int .i64 (fr + 1))) W := fun W hb => (fun h => ⟨Whole.range h, (ALRow.cells h).2.1⟩) (Whole.below HR.out hb (by omega))
    have HCC := Lib.hid hcc
    clear hcc hE hsd c33 c34 c35
    go_upto_region 5 with fail
    clear c0
    refine wp_region_held_drew (S := fun W => W.rangeAt w.heap.size 0 (alcl true a.seed (fr + 1) (.slice Am a.macs.length cm) (.slice Ab a.boxes.length cb)) ∧ W.cell? ⟨w.heap.size, 33, none⟩ = some (.int .i64 (fr + 1))) (by kernel_rfl) (HCC.out _ (Below.drew (Below.refl _ _))) (fun hHeld => ?_)
    apply wpT (i := 0) rfl (by kernel_rfl)
    case hQ => exact fun _ _ _ h => h
    case hS => exact hHeld
    case hy => exact yieldsIf_load_mid (by rfl) 32 _ rfl w.heap.size (0) rfl (alcl true a.seed (fr + 1) (.slice Am a.macs.length cm) (.slice Ab a.boxes.length cb)) _ (fun w hS => hS.1) Tryd.underlying32 rfl (by rw [algSize, alcl_length])
    (try simp only [sq])
    apply wpT (i := 1) rfl (by kernel_rfl)
    case hQ => exact fun _ _ _ h => h
    case hS => exact hHeld
    case hy => (refine Or.inl ⟨by rfl, ?_⟩; intro w hSw; (try go_split_ands); go_simp; (try with_reducible rfl))
    (try simp only [sq])
    apply wpT (i := 2) rfl (by kernel_rfl)
    case hQ => exact fun _ _ _ h => h
    case hS => exact hHeld
    case hy => (refine Or.inl ⟨by rfl, ?_⟩; intro w hSw; (try go_split_ands); go_simp; (try with_reducible rfl))
    (try simp only [sq])
    refine wpAnyH_ready (rs := [3]) (by kernel_rfl) (by simp) ?_
    refine AllReadyH.cons rfl (fun KK hKK => ?_) AllReadyH.nil
    (try simp only [sq])
    go_simp
    go_at_call 32
    have hsy := rsymbol 107#8 (fr + 1) q.drew
    rw [bv107, ← HE.out] at hsy
    refine hsy.mono ?_
    rintro e w1 ⟨rfl, hw1⟩
    have b1 : Below q.heap.size q w1 := ((Below.refl _ _).drew).trans hw1
    have hs1 : ALRow w1 w.heap.size true a.seed (fr + 1) (.slice Am a.macs.length cm) (.slice Ab a.boxes.length cb) := Whole.below HR.out b1 (by omega)
    have h11 := Whole.below H1.out b1 (by omega)
    have h21 := Whole.below H2.out b1 (by omega)
    have bb1 : Below w.heap.size w w1 := HB.out.trans (b1.mono (by omega))
    clear hsy
    refine hKK.out _ _ (HCC.out _ b1) (fun hHeld => ?_)
    clear hKK KK
    (try simp only [sq])
    refine wpAnyH_ready (rs := [4]) (by kernel_rfl) (by simp) ?_
    refine AllReadyH.cons rfl (fun KK hKK => ?_) AllReadyH.nil
    (try simp only [sq])
    obtain ⟨X2, hX2⟩ : ∃ x, x = w1.setRow (w.heap.size + 1) ((alcl true a.seed (fr + 1) (.slice Am a.macs.length cm) (.slice Ab a.boxes.length cb)).toArray) := ⟨_, rfl⟩
    have hsX2 : ALRow X2 w.heap.size true a.seed (fr + 1) (.slice Am a.macs.length cm) (.slice Ab a.boxes.length cb) := by rw [hX2]; exact Whole.setRow_far hs1 (by omega) _
    have e1 : Whole X2 (w.heap.size + 1) 32 (alc true a.seed (fr + 1) (.slice Am a.macs.length cm) (.slice Ab a.boxes.length cb)) := by rw [hX2]; exact Whole.setRow h11 _
    have h2X2 : Whole X2 (w.heap.size + 1 + 1) 28 ztr := by rw [hX2]; exact Whole.setRow_far h21 (by omega) _
    have bbX2 : Below w.heap.size w X2 := by rw [hX2]; exact below_setRow bb1 (by omega) _
    rw [if_pos (by kernel_rfl)]
    refine wp_store_row 32 _ _ rfl (w.heap.size + 1) _ rfl rfl 32 _ h11 (by rw [algSize, List.size_toArray, alcl_length]) (by rw [zar_size, List.size_toArray, alcl_length]) (alc_one _ _ _ _ _ _ _ _ _) ?_
    rw [← hX2]
    clear hX2
    refine hKK.out _ _ (⟨Whole.range hsX2, (ALRow.cells hsX2).2.1⟩) (fun hHeld => ?_)
    clear hKK KK
    (try simp only [sq])
    refine wpAnyH_ready (rs := [5]) (by kernel_rfl) (by simp) ?_
    refine AllReadyH.cons rfl (fun KK hKK => ?_) AllReadyH.nil
    (try simp only [sq])
    have e1o := e1
    clear e1
    obtain ⟨X3, hX3⟩ : ∃ x, x = X2.setRow (w.heap.size + 1 + 1) (((E).map byt).toArray) := ⟨_, rfl⟩
    have hsX3 : ALRow X3 w.heap.size true a.seed (fr + 1) (.slice Am a.macs.length cm) (.slice Ab a.boxes.length cb) := by rw [hX3]; exact Whole.setRow_far hsX2 (by omega) _
    have e1 : Whole X3 (w.heap.size + 1) 32 (alc true a.seed (fr + 1) (.slice Am a.macs.length cm) (.slice Ab a.boxes.length cb)) := by rw [hX3]; exact Whole.setRow_far e1o (by omega) _
    have e2 : TGRow X3 (w.heap.size + 1 + 1) (E) := by rw [hX3]; exact Whole.setRow h2X2 _
    have bbX3 : Below w.heap.size w X3 := by rw [hX3]; exact below_setRow bbX2 (by omega) _
    rw [if_pos (by kernel_rfl)]
    refine wp_store_row 28 _ _ rfl (w.heap.size + 1 + 1) _ rfl rfl 28 _ h2X2 (by rw [tagSize, tag_size (hEl)]) (by rw [ztr_size, tag_size (hEl)]) (tag_one _) ?_
    rw [← hX3]
    clear hX3
    refine hKK.out _ _ (⟨Whole.range hsX3, (ALRow.cells hsX3).2.1⟩) (fun hHeld => ?_)
    clear hKK KK
    (try simp only [sq])
    apply wpT (i := 6) rfl (by kernel_rfl)
    case hQ => exact fun _ _ _ h => h
    case hS => exact hHeld
    case hy => (refine Or.inl ⟨by rfl, ?_⟩; intro w hSw; (try go_split_ands); go_simp; (try with_reducible rfl))
    (try simp only [sq])
    refine wpAnyH_done (by kernel_rfl) ?_ _
    go_wp2_with fail
    have hbf := bbX3
    refine bodyPost_ret (results_alg3 Tryd.results22 _ rfl rfl _ rfl (alc_size _ _ _ _ _) (tag_size (hEl)) e1 e2) rfl ?_
    show AlgR _ Q _ (aKey a) ∧ _
    rw [HK.out, if_pos HFF.out.symm, ← HE.out]
    refine ⟨⟨_, rfl, ?_⟩, hbf⟩
    exact ⟨Am, cm, Ab, cb, by rw [← HFF.out], HM.out.below hbf (Nat.le_refl _), HBX.out.below hbf (Nat.le_refl _), ⟨HA.out.seed, by show 0 ≤ fr + 1; omega, by show fr + 1 ≤ 100000; omega, HA.out.macs, HA.out.boxes⟩⟩
  · skip
    have hder := der_frs (K := a.seed) (z := fr + 1) (by omega) (by omega)
    obtain ⟨E, hE⟩ : ∃ E, E = hmac a.seed (purp frs (fr + 1).toNat) := ⟨_, rfl⟩
    have hEl : E.length = 32 := by rw [hE]; exact hmac_length _ _
    have hde : der a.seed frs (fr + 1) = (E, 0) := by rw [hder.2, hE]
    have hcl := ref_derive a.seed HA.out.seed frs (by decide) (fr + 1) q
    rw [hde] at hcl
    have HDE := Lib.hid hde
    have hsl : (a.seed.map byt).length = 32 := by rw [List.length_map]; exact HA.out.seed
    clear hder hE hde
    go_wp2_with (first
      | (with_reducible refine wpList_load_mid rfl 28 _ rfl w.heap.size 1 rfl _ _ hsd Tryd.underlying28 rfl (by rw [tagSize, hsl]) ?_))
    refine hcl.mono ?_
    rintro e w1 ⟨rfl, hw1⟩
    have hs1 : ALRow w1 w.heap.size false a.seed (fr + 1) (.slice Am a.macs.length cm) (.slice Ab a.boxes.length cb) := Whole.below HR.out hw1 (by omega)
    have h11 := Whole.below H1.out hw1 (by omega)
    have h21 := Whole.below H2.out hw1 (by omega)
    have bb1 : Below w.heap.size w w1 := HB.out.trans (hw1.mono (by omega))
    have hws : q.heap.size ≤ w1.heap.size := hw1.size
    have HS1 := Lib.hid hs1
    have H11 := Lib.hid h11
    have H21 := Lib.hid h21
    have BB1 := Lib.hid bb1
    clear hcl hw1 hs1 h11 h21 bb1 hsd c0 c33 c34 c35 HR H1 H2 HB
    go_wp2_with (first
      | (with_reducible refine wpList_store_tag rfl _ _ rfl (g := w1.heap.size) rfl rfl (Whole.here w1 _ _) rfl (tag_size hEl) (tag_one _) ?_))
    rw [ztr_lit]
    obtain ⟨u, hu⟩ : ∃ x, x = (w1.alloc (.cells ztr 28)).setRow w1.heap.size (E.map byt).toArray := ⟨_, rfl⟩
    have ht : TGRow u w1.heap.size E := by rw [hu]; exact Whole.setRow (Whole.here _ _ _) _
    have hbu : Below w1.heap.size w1 u := by rw [hu]; exact below_setRow ((Below.refl _ _).alloc (Nat.le_refl _) _) (Nat.le_refl _) _
    rw [← hu]
    clear hu
    have hws2 : w1.heap.size < u.heap.size := ht.lt
    have hru : ALRow u.drew w.heap.size false a.seed (fr + 1) (.slice Am a.macs.length cm) (.slice Ab a.boxes.length cb) := Whole.drew (Whole.below HS1.out hbu (by omega))
    have h1u := Whole.drew (Whole.below H11.out hbu (by omega))
    have h2u := Whole.drew (Whole.below H21.out hbu (by omega))
    have htd : TGRow u.drew w1.heap.size E := Whole.drew ht
    have bbu : Below w.heap.size w u.drew := (BB1.out.trans (hbu.mono (by omega))).drew
    refine wp_region_held_drew (S := fun W => W.rangeAt w.heap.size 0 (alcl false a.seed (fr + 1) (.slice Am a.macs.length cm) (.slice Ab a.boxes.length cb)) ∧ W.rangeAt w1.heap.size 0 (E.map byt)) (by kernel_rfl) (⟨Whole.range hru, TGRow.range htd⟩) (fun hHeld => ?_)
    apply wpT (i := 0) rfl (by kernel_rfl)
    case hQ => exact fun _ _ _ h => h
    case hS => exact hHeld
    case hy => exact yieldsIf_load_mid (by rfl) 32 _ rfl w.heap.size (0) rfl (alcl false a.seed (fr + 1) (.slice Am a.macs.length cm) (.slice Ab a.boxes.length cb)) _ (fun w hS => hS.1) Tryd.underlying32 rfl (by rw [algSize, alcl_length])
    (try simp only [sq])
    apply wpT (i := 1) rfl (by kernel_rfl)
    case hQ => exact fun _ _ _ h => h
    case hS => exact hHeld
    case hy => exact yieldsIf_load_mid (by rfl) 28 _ rfl w1.heap.size (0) rfl (E.map byt) _ (fun w hS => hS.2) Tryd.underlying28 rfl (by rw [tagSize, List.length_map, hEl])
    (try simp only [sq])
    refine wpAnyH_ready (rs := [2]) (by kernel_rfl) (by simp) ?_
    refine AllReadyH.cons rfl (fun KK hKK => ?_) AllReadyH.nil
    (try simp only [sq])
    obtain ⟨X1, hX1⟩ : ∃ x, x = u.drew.setRow (w.heap.size + 1) ((alcl false a.seed (fr + 1) (.slice Am a.macs.length cm) (.slice Ab a.boxes.length cb)).toArray) := ⟨_, rfl⟩
    have hsX1 : ALRow X1 w.heap.size false a.seed (fr + 1) (.slice Am a.macs.length cm) (.slice Ab a.boxes.length cb) := by rw [hX1]; exact Whole.setRow_far hru (by omega) _
    have e1 : Whole X1 (w.heap.size + 1) 32 (alc false a.seed (fr + 1) (.slice Am a.macs.length cm) (.slice Ab a.boxes.length cb)) := by rw [hX1]; exact Whole.setRow h1u _
    have h2X1 : Whole X1 (w.heap.size + 1 + 1) 28 ztr := by rw [hX1]; exact Whole.setRow_far h2u (by omega) _
    have bbX1 : Below w.heap.size w X1 := by rw [hX1]; exact below_setRow bbu (by omega) _
    have htX1 : TGRow X1 w1.heap.size (E) := by rw [hX1]; exact Whole.setRow_far htd (by omega) _
    rw [if_pos (by kernel_rfl)]
    refine wp_store_row 32 _ _ rfl (w.heap.size + 1) _ rfl rfl 32 _ h1u (by rw [algSize, List.size_toArray, alcl_length]) (by rw [zar_size, List.size_toArray, alcl_length]) (alc_one _ _ _ _ _ _ _ _ _) ?_
    rw [← hX1]
    clear hX1
    refine hKK.out _ _ (⟨Whole.range hsX1, TGRow.range htX1⟩) (fun hHeld => ?_)
    clear hKK KK
    (try simp only [sq])
    refine wpAnyH_ready (rs := [3]) (by kernel_rfl) (by simp) ?_
    refine AllReadyH.cons rfl (fun KK hKK => ?_) AllReadyH.nil
    (try simp only [sq])
    have e1o := e1
    clear e1
    obtain ⟨X2, hX2⟩ : ∃ x, x = X1.setRow (w.heap.size + 1 + 1) (((E).map byt).toArray) := ⟨_, rfl⟩
    have hsX2 : ALRow X2 w.heap.size false a.seed (fr + 1) (.slice Am a.macs.length cm) (.slice Ab a.boxes.length cb) := by rw [hX2]; exact Whole.setRow_far hsX1 (by omega) _
    have e1 : Whole X2 (w.heap.size + 1) 32 (alc false a.seed (fr + 1) (.slice Am a.macs.length cm) (.slice Ab a.boxes.length cb)) := by rw [hX2]; exact Whole.setRow_far e1o (by omega) _
    have e2 : TGRow X2 (w.heap.size + 1 + 1) (E) := by rw [hX2]; exact Whole.setRow h2X1 _
    have bbX2 : Below w.heap.size w X2 := by rw [hX2]; exact below_setRow bbX1 (by omega) _
    have htX2 : TGRow X2 w1.heap.size (E) := by rw [hX2]; exact Whole.setRow_far htX1 (by omega) _
    rw [if_pos (by kernel_rfl)]
    refine wp_store_row 28 _ _ rfl (w.heap.size + 1 + 1) _ rfl rfl 28 _ h2X1 (by rw [tagSize, tag_size (hEl)]) (by rw [ztr_size, tag_size (hEl)]) (tag_one _) ?_
    rw [← hX2]
    clear hX2
    refine hKK.out _ _ (⟨Whole.range hsX2, TGRow.range htX2⟩) (fun hHeld => ?_)
    clear hKK KK
    (try simp only [sq])
    apply wpT (i := 4) rfl (by kernel_rfl)
    case hQ => exact fun _ _ _ h => h
    case hS => exact hHeld
    case hy => (refine Or.inl ⟨by rfl, ?_⟩; intro w hSw; (try go_split_ands); go_simp; (try with_reducible rfl))
    (try simp only [sq])
    refine wpAnyH_done (by kernel_rfl) ?_ _
    go_wp2_with fail
    have hbf := bbX2
    refine bodyPost_ret (results_alg3 Tryd.results22 _ rfl rfl _ rfl (alc_size _ _ _ _ _) (tag_size (hEl)) e1 e2) rfl ?_
    show AlgR _ Q _ (aKey a) ∧ _
    rw [HK.out, if_neg (by rw [← HFF.out]; exact Bool.false_ne_true), HDE.out]
    refine ⟨⟨_, rfl, ?_⟩, hbf⟩
    exact ⟨Am, cm, Ab, cb, by rw [← HFF.out], HM.out.below hbf (Nat.le_refl _), HBX.out.below hbf (Nat.le_refl _), ⟨HA.out.seed, by show 0 ≤ fr + 1; omega, by show fr + 1 ≤ 100000; omega, HA.out.macs, HA.out.boxes⟩⟩
end Go.Proofs.YteekdhcffiaaaaaDoor
namespace Go.Proofs.YteekdhcffiaaaaaDoor
open Go Go.RowKit Sh Leaf

def Off (S : List Nat) (b : Nat) : Prop := ∀ x ∈ S, b ≠ x
theorem off_cons {S : List Nat} {b G : Nat} (h : Off S b) (hG : b ≠ G) : Off (G :: S) b := fun x hx => by
  rcases List.mem_cons.1 hx with e | hx
  · rw [e]; exact hG
  · exact h x hx
theorem off_one {b g : Nat} (h : b ≠ g) : Off [g] b := fun x hx => by rw [List.mem_singleton.1 hx]; exact h
section
variable {W W' : World} {S : List Nat} {x v : Value} {a : Alg} {l : List B8} {g G N : Nat}
theorem AlV.grow (h : AlV W (Off S) x a) (hG : W.heap.size ≤ G) : AlV W (Off (G :: S)) x a := h.mono fun b hb hq => off_cons hq (by omega)
theorem AlV.fresh (h : AlV W (fun b => Off S b ∨ N ≤ b) x a) (hN : ∀ y ∈ S, y < N) : AlV W (Off S) x a := h.mono fun b _ hq => hq.elim id fun hq y hy => by have := hN y hy; omega
theorem AlV.none (h : AlV W (fun _ => False) x a) : AlV W (Off S) x a := h.mono fun _ _ hq => hq.elim
theorem AlV.store (h : AlV W (Off S) x a) (hG : G ∈ S) (cs : Array Value) : AlV (W.setRow G cs) (Off S) x a := h.keep (by simp) fun _ _ hq => setRow_other _ _ _ _ (hq G hG)
theorem AlV.turn (h : AlV W (Off S) x a) (ht : Turn g W W') (hg : g ∈ S) (hs : W.heap.size ≤ W'.heap.size) : AlV W' (Off S) x a := h.oth ht.2.2 hs fun _ hq => hq g hg
theorem Bytes.grow (h : Bytes W (Off S) v l) (hG : W.heap.size ≤ G) : Bytes W (Off (G :: S)) v l := h.mono fun b hb hq => off_cons hq (by omega)
theorem Bytes.fresh (h : Bytes W (fun b => N ≤ b) v l) (hN : ∀ y ∈ S, y < N) : Bytes W (Off S) v l := h.mono fun b _ hq y hy => by have := hN y hy; omega
theorem Bytes.store (h : Bytes W (Off S) v l) (hG : G ∈ S) (cs : Array Value) : Bytes (W.setRow G cs) (Off S) v l := h.keep fun _ _ hq => setRow_other _ _ _ _ (hq G hG)
theorem Bytes.turn (h : Bytes W (Off S) v l) (ht : Turn g W W') (hg : g ∈ S) : Bytes W' (Off S) v l := h.oth ht.2.2 fun _ hq => hq g hg
end
theorem Turn.size {g : Nat} {w w' : World} (h : Turn g w w') : w.heap.size ≤ w'.heap.size := h.2.1.size
theorem Deck.store {g G : Nat} {w : World} (h : Deck g w) (hG : g < G) (cs : Array Value) : Deck g (w.setRow G cs) := h.below (B := G) (below_setRow (Below.refl _ _) (Nat.le_refl _) _) hG
theorem base_turn {g : Nat} {B : Nat} {w0 w w' : World} (h : Below B w0 w) (ht : Turn g w w') (hg : B ≤ g) : Below B w0 w' := h.trans (ht.2.1.mono hg)
section
variable {w : World} {Q : Nat → Prop} {x : Value} {a : Alg} {K m : List B8}
theorem key_ok {a : Alg} (h : a.fresh < 1000) : (aKey a).2.2 = 0 := by
  unfold aKey
  rw [if_neg (by omega)]
theorem key_len (a : Alg) : (aKey a).2.1.length = 32 := by
  unfold aKey
  split
  · exact List.length_replicate
  show (if a.free = true then sym 107#8 (a.fresh + 1) else (der a.seed frs (a.fresh + 1)).1).length = 32
  split
  · exact sym_length _ _
  · unfold der
    rw [if_pos frs_ok]
    split
    · exact List.length_replicate
    · exact hmac_length _ _
end
theorem tag_sz {l : List B8} (h : l.length = 32) : (Tryd.prog.info? 28).map (·.size) = some (l.map byt).length := by rw [tagSize, List.length_map, h]
theorem key_free {a : Alg} (h : a.free = true) (hf : a.fresh < 1000) : aKey a = ({ a with fresh := a.fresh + 1 }, sym 107#8 (a.fresh + 1), 0) := by
  unfold aKey
  rw [if_neg (by omega), if_pos h]
theorem sym_ne2 {k : B8} {z z' : Int} (h : z ≠ z') (h0 : 0 ≤ z) (h1 : z < 100000) (h2 : 0 ≤ z') (h3 : z' < 100000) : sym k z ≠ sym k z' := fun e => by
  have := (sym_inj e).2
  unfold u64n at this
  omega
theorem eql_tag {K L : List B8} {D : Bool} (hK : K.length = 32) (hL : L.length = 32) (h : decide (K = L) = D) (w : World) : (binOp .eql 28 (tagv K) (tagv L)).run Tryd.prog w = .ok (.bool D) w := by rw [run_eql_tag hK hL, h]
theorem neq_tag {K L : List B8} {D : Bool} (hK : K.length = 32) (hL : L.length = 32) (h : (!decide (K = L)) = D) (w : World) : (binOp .neq 28 (tagv K) (tagv L)).run Tryd.prog w = .ok (.bool D) w := by rw [run_neq_tag hK hL, h]
def tg1 (x : B8) : List B8 := x :: List.replicate 31 0
theorem tg1_len (x : B8) : (tg1 x).length = 32 := rfl
set_option maxRecDepth 100000 in
theorem built_tag0 : Tryd.prog.built 28 [] = some (ztag.map byt).toArray := by
  rw [← zeroTag]
  kernel_rfl
set_option maxRecDepth 100000 in
theorem built_tag1 (z : Int) : Tryd.prog.built 28 [(0, .int .u8 z)] = some (Value.int .u8 z :: List.replicate 31 (Value.int .u8 0)).toArray := by kernel_rfl
theorem wpList_build_tag0 {w : World} {ops : Array Oper} {rest : List Oper} {o : Oper} {a : Act} {Q : Exit → Act → World → Prop} (hgd : o.guard = none) (ho : o.op = .build 28 #[])
    (h : wpList Tryd.prog ops Q rest (a.put o.dst (tagv ztag)) w) : wpList Tryd.prog ops Q (o :: rest) a w :=
  wpList_build_as hgd 28 _ ho _ (by simp only [List.map_toArray, List.map_nil]; exact built_tag0) h
theorem wpList_build_tag1 {w : World} {ops : Array Oper} {rest : List Oper} {o : Oper} {a : Act} {Q : Exit → Act → World → Prop} (hgd : o.guard = none) (x : Operand) (ho : o.op = .build 28 #[(0, x)])
    {z : Int} (b : B8) (hb : Value.int .u8 z = byt b) (hx : a.eval x = .int .u8 z) (h : wpList Tryd.prog ops Q rest (a.put o.dst (tagv (tg1 b))) w) : wpList Tryd.prog ops Q (o :: rest) a w := by
  refine wpList_build_as hgd 28 _ ho _ ?_ h
  have e : (#[(0, x)].map fun (i, x) => (i, a.eval x)).toList = [(0, byt b)] := by simp [hx, hb]
  rw [e]
  unfold byt
  rw [built_tag1]
  unfold tg1
  rw [List.map_cons, List.map_replicate]
  rw [bv_zero]
theorem below_mark (W : World) (cs : Array Value) (t : TypeId) (fr : Nat × Nat) : Below W.heap.size W (W.alloc (.cells cs t fr)) := (Below.refl _ _).alloc (Nat.le_refl _) _
end Go.Proofs.YteekdhcffiaaaaaDoor
namespace Go.Proofs.YteekdhcffiaaaaaDoor
open Go Go.RowKit Sh Leaf

set_option linter.unusedSimpArgs false in
set_option maxRecDepth 100000 in
set_option maxHeartbeats 4000000 in
theorem pkey {w : World} {Q : Nat → Prop} {x : Value} {a : Alg} (hx : AlV w Q x a) (hT : Tables w) :
    Calls Tryd.prog 27 #[x] w fun e w' => AlgR w' Q e (aKey a) ∧ Below w.heap.size w w' := by
  obtain ⟨Am, cm, Ab, cb, rfl, hM, hBx, hA⟩ := hx
  obtain ⟨p, hp⟩ : ∃ p, p = ((w.alloc (.cells (alc a.free a.seed a.fresh (.slice Am a.macs.length cm) (.slice Ab a.boxes.length cb)) 32)).alloc (.cells zar 32)).alloc (.cells ztr 28) := ⟨_, rfl⟩
  have hr : ALRow p w.heap.size a.free a.seed a.fresh (.slice Am a.macs.length cm) (.slice Ab a.boxes.length cb) := by rw [hp]; exact ((Whole.here _ _ _).alloc _).alloc _
  have h1 : Whole p (w.heap.size + 1) 32 zar := by rw [hp]; exact (Whole.at_ _ _ _ _ (by simp)).alloc _
  have h2 : Whole p (w.heap.size + 1 + 1) 28 ztr := by rw [hp]; exact Whole.at_ _ _ _ _ (by simp)
  have hb : Below w.heap.size w p := by rw [hp]; exact (((Below.refl _ _).alloc (Nat.le_refl _) _).alloc (by simp) _).alloc (by simp; omega) _
  have hps : w.heap.size + 1 + 1 < p.heap.size := h2.lt
  have hfl := hA.lo
  have hfh := hA.hi
  obtain ⟨fr, hfr⟩ : ∃ f, f = a.fresh := ⟨_, rfl⟩
  rw [← hfr] at hr hp hfl hfh ⊢
  obtain ⟨c0, c33, c34, c35⟩ := ALRow.cells hr
  have HM := Lib.hid hM
  have HBX := Lib.hid hBx
  have HR := Lib.hid hr
  have H1 := Lib.hid h1
  have H2 := Lib.hid h2
  have HB := Lib.hid hb
  have HA := Lib.hid hA
  have HFR := Lib.hid hfr
  have hf33 := ALRow.frees hr 33
  clear hM hBx hr h1 h2 hb hA hfr
  go_enter Tryd.func27, Tryd.ntmps27
  go_upto_region 1 with fail
  rw [zar_lit, ztr_lit, ← hp]
  clear hp
  by_cases hbig : (65536 : Int) ≤ fr
  · skip
    have HK : Hid (aKey a = (zalg, ztag, 2)) := Lib.hid (by unfold aKey; rw [if_pos (by rw [← HFR.out]; exact hbig)])
    go_wp2_with (first
      | (with_reducible refine wpList_store_alg rfl _ _ rfl (g := w.heap.size + 1) rfl rfl H1.out zar_size rfl (by with_unfolding_all rfl) ?_)
      | (with_reducible refine wpList_store_tag rfl _ _ rfl (g := w.heap.size + 1 + 1) rfl rfl (Whole.setRow_far H2.out (by omega) _) ztr_size rfl (by with_unfolding_all rfl) ?_))
    rw [zar_lit, ztr_lit]
    have e1 := Whole.setRow_far (Whole.setRow H1.out zar) (g' := w.heap.size + 1 + 1) (by omega) ztr
    have e2 := Whole.setRow (Whole.setRow_far H2.out (g' := w.heap.size + 1) (by omega) zar) ztr
    refine bodyPost_ret (results_alg3 Tryd.results27 _ rfl rfl _ rfl zar_size ztr_size e1 e2) rfl ?_
    show AlgR _ Q _ (aKey a) ∧ _
    rw [HK.out]
    exact ⟨⟨_, by rw [ztr_eq]; rfl, alv_zero _ _⟩, below_setRow (below_setRow HB.out (by omega) _) (by omega) _⟩
  have hw1 : IntKind.i64.wrap (fr + 1) = fr + 1 := by rw [IntKind.wrap_i64]; omega
  have HK : Hid (aKey a = ({ a with fresh := fr + 1 }, if a.free = true then sym 107#8 (fr + 1) else (der a.seed frs (fr + 1)).1, 0)) := Lib.hid (by unfold aKey; rw [HFR.out, if_neg (by rw [← HFR.out]; exact hbig)])
  obtain ⟨F, hF⟩ : ∃ f, f = a.free := ⟨_, rfl⟩
  have HFF := Lib.hid hF
  rw [← hF] at c0
  go_upto_region 4 with fail
  obtain ⟨q, hq⟩ : ∃ q, q = p.setCell ⟨w.heap.size, 33, none⟩ (.int .i64 (fr + 1)) := ⟨_, rfl⟩
  have hr : ALRow q w.heap.size a.free a.seed (fr + 1) (.slice Am a.macs.length cm) (.slice Ab a.boxes.length cb) := by rw [hq]; exact ALRow.set33 HR.out _
  have h1 : Whole q (w.heap.size + 1) 32 zar := by rw [hq]; exact Whole.far H1.out (by show w.heap.size + 1 ≠ w.heap.size; omega) _
  have h2 : Whole q (w.heap.size + 1 + 1) 28 ztr := by rw [hq]; exact Whole.far H2.out (by show w.heap.size + 1 + 1 ≠ w.heap.size; omega) _
  have hb : Below w.heap.size w q := by rw [hq]; exact HB.out.setCell (p := ⟨w.heap.size, 33, none⟩) (Nat.le_refl _) _
  rw [← hq]
  have hqs : w.heap.size + 1 + 1 < q.heap.size := h2.lt
  clear hq hf33 c0 c33 c34 c35 hps HR H1 H2 HB
  rw [← hF] at hr
  have HR := Lib.hid hr
  have H1 := Lib.hid h1
  have H2 := Lib.hid h2
  have HB := Lib.hid hb
  obtain ⟨c0, c33, c34, c35⟩ := ALRow.cells hr
  have hsd := ALRow.seed hr HA.out.seed
  clear hr h1 h2 hb hF
  cases F
  rotate_left
  · skip
    obtain ⟨E, hE⟩ : ∃ E, E = sym 107#8 (fr + 1) := ⟨_, rfl⟩
    have hEl : E.length = 32 := by rw [hE]; exact sym_length _ _
    have HE := Lib.hid hE
    have hcc : ∀ W, Below q.heap.size q W → (fun W => W.rangeAt w.heap.size 0 (alcl true a.seed (fr + 1) (.slice Am a.macs.length cm) (.slice Ab a.boxes.length cb)) ∧ W.cell? ⟨w.heap.size, 33, none⟩ = some (.int .i64 (fr + 1))) W := fun W hb => (fun h => ⟨Whole.range h, (ALRow.cells h).2.1⟩) (Whole.below HR.out hb (by omega))
    have HCC := Lib.hid hcc
    clear hcc hE hsd c33 c34 c35
    go_upto_region 5 with fail
    clear c0
    refine wp_region_held_drew (S := fun W => W.rangeAt w.heap.size 0 (alcl true a.seed (fr + 1) (.slice Am a.macs.length cm) (.slice Ab a.boxes.length cb)) ∧ W.cell? ⟨w.heap.size, 33, none⟩ = some (.int .i64 (fr + 1))) (by kernel_rfl) (HCC.out _ (Below.drew (Below.refl _ _))) (fun hHeld => ?_)
    apply wpAnyH_take (i := 0) rfl (by kernel_rfl) (by kernel_rfl) (by kernel_rfl)
    case hQ => exact fun _ _ _ h => h
    case hS => exact hHeld
    case hy => exact yieldsIf_load_mid (by rfl) 32 _ rfl w.heap.size (0) rfl (alcl true a.seed (fr + 1) (.slice Am a.macs.length cm) (.slice Ab a.boxes.length cb)) _ (fun w hS => hS.1) Tryd.underlying32 rfl (by rw [algSize, alcl_length])
    (try simp only [List.getElem_toArray, List.getElem_cons_zero, Act.put, List.setIfInBounds_toArray, List.set_cons_zero, List.set_cons_succ])
    apply wpAnyH_take (i := 1) rfl (by kernel_rfl) (by kernel_rfl) (by kernel_rfl)
    case hQ => exact fun _ _ _ h => h
    case hS => exact hHeld
    case hy => (refine Or.inl ⟨by rfl, ?_⟩; intro w hSw; (try go_split_ands); go_simp; (try with_reducible rfl))
    (try simp only [List.getElem_toArray, List.getElem_cons_succ, List.getElem_cons_zero, Act.put, List.setIfInBounds_toArray, List.set_cons_zero, List.set_cons_succ])
    apply wpAnyH_take (i := 2) rfl (by kernel_rfl) (by kernel_rfl) (by kernel_rfl)
    case hQ => exact fun _ _ _ h => h
    case hS => exact hHeld
    case hy => (refine Or.inl ⟨by rfl, ?_⟩; intro w hSw; (try go_split_ands); go_simp; (try with_reducible rfl))
    (try simp only [List.getElem_toArray, List.getElem_cons_succ, List.getElem_cons_zero, Act.put, List.setIfInBounds_toArray, List.set_cons_zero, List.set_cons_succ])
    refine wpAnyH_ready (rs := [3]) (by kernel_rfl) (by simp) ?_
    refine AllReadyH.cons rfl (fun KK hKK => ?_) AllReadyH.nil
    (try simp only [List.getElem_toArray, List.getElem_cons_succ, List.getElem_cons_zero])
    go_simp
    go_at_call 44
    have hsy := symbol 107#8 (fr + 1) q.drew
    rw [bv107, ← HE.out] at hsy
    refine hsy.mono ?_
    rintro e w1 ⟨rfl, hw1⟩
    have b1 : Below q.heap.size q w1 := ((Below.refl _ _).drew).trans hw1
    have hs1 : ALRow w1 w.heap.size true a.seed (fr + 1) (.slice Am a.macs.length cm) (.slice Ab a.boxes.length cb) := Whole.below HR.out b1 (by omega)
    have h11 := Whole.below H1.out b1 (by omega)
    have h21 := Whole.below H2.out b1 (by omega)
    have bb1 : Below w.heap.size w w1 := HB.out.trans (b1.mono (by omega))
    clear hsy
    refine hKK.out _ _ (HCC.out _ b1) (fun hHeld => ?_)
    clear hKK KK
    (try simp only [List.getElem_toArray, List.getElem_cons_succ, List.getElem_cons_zero, Act.put, List.setIfInBounds_toArray, List.set_cons_zero, List.set_cons_succ])
    refine wpAnyH_ready (rs := [4]) (by kernel_rfl) (by simp) ?_
    refine AllReadyH.cons rfl (fun KK hKK => ?_) AllReadyH.nil
    (try simp only [List.getElem_toArray, List.getElem_cons_succ, List.getElem_cons_zero])
    obtain ⟨X2, hX2⟩ : ∃ x, x = w1.setRow (w.heap.size + 1) ((alcl true a.seed (fr + 1) (.slice Am a.macs.length cm) (.slice Ab a.boxes.length cb)).toArray) := ⟨_, rfl⟩
    have hsX2 : ALRow X2 w.heap.size true a.seed (fr + 1) (.slice Am a.macs.length cm) (.slice Ab a.boxes.length cb) := by rw [hX2]; exact Whole.setRow_far hs1 (by omega) _
    have e1 : Whole X2 (w.heap.size + 1) 32 (alc true a.seed (fr + 1) (.slice Am a.macs.length cm) (.slice Ab a.boxes.length cb)) := by rw [hX2]; exact Whole.setRow h11 _
    have h2X2 : Whole X2 (w.heap.size + 1 + 1) 28 ztr := by rw [hX2]; exact Whole.setRow_far h21 (by omega) _
    have bbX2 : Below w.heap.size w X2 := by rw [hX2]; exact below_setRow bb1 (by omega) _
    rw [if_pos (by kernel_rfl)]
    refine wp_store_row 32 _ _ rfl (w.heap.size + 1) _ rfl rfl 32 _ h11 (by rw [algSize, List.size_toArray, alcl_length]) (by rw [zar_size, List.size_toArray, alcl_length]) (alc_one _ _ _ _ _ _ _ _ _) ?_
    rw [← hX2]
    clear hX2
    refine hKK.out _ _ (⟨Whole.range hsX2, (ALRow.cells hsX2).2.1⟩) (fun hHeld => ?_)
    clear hKK KK
    (try simp only [List.getElem_toArray, List.getElem_cons_succ, List.getElem_cons_zero, Act.put, List.setIfInBounds_toArray, List.set_cons_zero, List.set_cons_succ])
    refine wpAnyH_ready (rs := [5]) (by kernel_rfl) (by simp) ?_
    refine AllReadyH.cons rfl (fun KK hKK => ?_) AllReadyH.nil
    (try simp only [List.getElem_toArray, List.getElem_cons_succ, List.getElem_cons_zero])
    have e1o := e1
    clear e1
    obtain ⟨X3, hX3⟩ : ∃ x, x = X2.setRow (w.heap.size + 1 + 1) (((E).map byt).toArray) := ⟨_, rfl⟩
    have hsX3 : ALRow X3 w.heap.size true a.seed (fr + 1) (.slice Am a.macs.length cm) (.slice Ab a.boxes.length cb) := by rw [hX3]; exact Whole.setRow_far hsX2 (by omega) _
    have e1 : Whole X3 (w.heap.size + 1) 32 (alc true a.seed (fr + 1) (.slice Am a.macs.length cm) (.slice Ab a.boxes.length cb)) := by rw [hX3]; exact Whole.setRow_far e1o (by omega) _
    have e2 : TGRow X3 (w.heap.size + 1 + 1) (E) := by rw [hX3]; exact Whole.setRow h2X2 _
    have bbX3 : Below w.heap.size w X3 := by rw [hX3]; exact below_setRow bbX2 (by omega) _
    rw [if_pos (by kernel_rfl)]
    refine wp_store_row 28 _ _ rfl (w.heap.size + 1 + 1) _ rfl rfl 28 _ h2X2 (by rw [tagSize, tag_size (hEl)]) (by rw [ztr_size, tag_size (hEl)]) (tag_one _) ?_
    rw [← hX3]
    clear hX3
    refine hKK.out _ _ (⟨Whole.range hsX3, (ALRow.cells hsX3).2.1⟩) (fun hHeld => ?_)
    clear hKK KK
    (try simp only [List.getElem_toArray, List.getElem_cons_succ, List.getElem_cons_zero, Act.put, List.setIfInBounds_toArray, List.set_cons_zero, List.set_cons_succ])
    apply wpAnyH_take (i := 6) rfl (by kernel_rfl) (by kernel_rfl) (by kernel_rfl)
    case hQ => exact fun _ _ _ h => h
    case hS => exact hHeld
    case hy => (refine Or.inl ⟨by rfl, ?_⟩; intro w hSw; (try go_split_ands); go_simp; (try with_reducible rfl))
    (try simp only [List.getElem_toArray, List.getElem_cons_succ, List.getElem_cons_zero, Act.put, List.setIfInBounds_toArray, List.set_cons_zero, List.set_cons_succ])
    refine wpAnyH_done (by kernel_rfl) ?_ _
    go_wp2_with fail
    have hbf := bbX3
    refine bodyPost_ret (results_alg3 Tryd.results27 _ rfl rfl _ rfl (alc_size _ _ _ _ _) (tag_size (hEl)) e1 e2) rfl ?_
    show AlgR _ Q _ (aKey a) ∧ _
    rw [HK.out, if_pos HFF.out.symm, ← HE.out]
    refine ⟨⟨_, rfl, ?_⟩, hbf⟩
    exact ⟨Am, cm, Ab, cb, by rw [← HFF.out], HM.out.below hbf (Nat.le_refl _), HBX.out.below hbf (Nat.le_refl _), ⟨HA.out.seed, by show 0 ≤ fr + 1; omega, by show fr + 1 ≤ 100000; omega, HA.out.macs, HA.out.boxes⟩⟩
  · skip
    have hder := der_frs (K := a.seed) (z := fr + 1) (by omega) (by omega)
    obtain ⟨E, hE⟩ : ∃ E, E = hmac a.seed (purp frs (fr + 1).toNat) := ⟨_, rfl⟩
    have hEl : E.length = 32 := by rw [hE]; exact hmac_length _ _
    have hde : der a.seed frs (fr + 1) = (E, 0) := by rw [hder.2, hE]
    have hcl := derive a.seed HA.out.seed frs (by decide) (fr + 1) q (hT.below (Nat.le_refl _) HB.out)
    rw [hde] at hcl
    have HDE := Lib.hid hde
    have hsl : (a.seed.map byt).length = 32 := by rw [List.length_map]; exact HA.out.seed
    clear hder hE hde
    go_wp2_with (first
      | (with_reducible refine wpList_load_mid rfl 28 _ rfl w.heap.size 1 rfl _ _ hsd Tryd.underlying28 rfl (by rw [tagSize, hsl]) ?_))
    refine hcl.mono ?_
    rintro e w1 ⟨rfl, hw1⟩
    have hs1 : ALRow w1 w.heap.size false a.seed (fr + 1) (.slice Am a.macs.length cm) (.slice Ab a.boxes.length cb) := Whole.below HR.out hw1 (by omega)
    have h11 := Whole.below H1.out hw1 (by omega)
    have h21 := Whole.below H2.out hw1 (by omega)
    have bb1 : Below w.heap.size w w1 := HB.out.trans (hw1.mono (by omega))
    have hws : q.heap.size ≤ w1.heap.size := hw1.size
    have HS1 := Lib.hid hs1
    have H11 := Lib.hid h11
    have H21 := Lib.hid h21
    have BB1 := Lib.hid bb1
    clear hcl hw1 hs1 h11 h21 bb1 hsd c0 c33 c34 c35 HR H1 H2 HB
    go_wp2_with (first
      | (with_reducible refine wpList_store_tag rfl _ _ rfl (g := w1.heap.size) rfl rfl (Whole.here w1 _ _) rfl (tag_size hEl) (tag_one _) ?_))
    rw [ztr_lit]
    obtain ⟨u, hu⟩ : ∃ x, x = (w1.alloc (.cells ztr 28)).setRow w1.heap.size (E.map byt).toArray := ⟨_, rfl⟩
    have ht : TGRow u w1.heap.size E := by rw [hu]; exact Whole.setRow (Whole.here _ _ _) _
    have hbu : Below w1.heap.size w1 u := by rw [hu]; exact below_setRow ((Below.refl _ _).alloc (Nat.le_refl _) _) (Nat.le_refl _) _
    rw [← hu]
    clear hu
    have hws2 : w1.heap.size < u.heap.size := ht.lt
    have hru : ALRow u.drew w.heap.size false a.seed (fr + 1) (.slice Am a.macs.length cm) (.slice Ab a.boxes.length cb) := Whole.drew (Whole.below HS1.out hbu (by omega))
    have h1u := Whole.drew (Whole.below H11.out hbu (by omega))
    have h2u := Whole.drew (Whole.below H21.out hbu (by omega))
    have htd : TGRow u.drew w1.heap.size E := Whole.drew ht
    have bbu : Below w.heap.size w u.drew := (BB1.out.trans (hbu.mono (by omega))).drew
    refine wp_region_held_drew (S := fun W => W.rangeAt w.heap.size 0 (alcl false a.seed (fr + 1) (.slice Am a.macs.length cm) (.slice Ab a.boxes.length cb)) ∧ W.rangeAt w1.heap.size 0 (E.map byt)) (by kernel_rfl) (⟨Whole.range hru, TGRow.range htd⟩) (fun hHeld => ?_)
    apply wpAnyH_take (i := 0) rfl (by kernel_rfl) (by kernel_rfl) (by kernel_rfl)
    case hQ => exact fun _ _ _ h => h
    case hS => exact hHeld
    case hy => exact yieldsIf_load_mid (by rfl) 32 _ rfl w.heap.size (0) rfl (alcl false a.seed (fr + 1) (.slice Am a.macs.length cm) (.slice Ab a.boxes.length cb)) _ (fun w hS => hS.1) Tryd.underlying32 rfl (by rw [algSize, alcl_length])
    (try simp only [List.getElem_toArray, List.getElem_cons_zero, Act.put, List.setIfInBounds_toArray, List.set_cons_zero, List.set_cons_succ])
    apply wpAnyH_take (i := 1) rfl (by kernel_rfl) (by kernel_rfl) (by kernel_rfl)
    case hQ => exact fun _ _ _ h => h
    case hS => exact hHeld
    case hy => exact yieldsIf_load_mid (by rfl) 28 _ rfl w1.heap.size (0) rfl (E.map byt) _ (fun w hS => hS.2) Tryd.underlying28 rfl (by rw [tagSize, List.length_map, hEl])
    (try simp only [List.getElem_toArray, List.getElem_cons_succ, List.getElem_cons_zero, Act.put, List.setIfInBounds_toArray, List.set_cons_zero, List.set_cons_succ])
    refine wpAnyH_ready (rs := [2]) (by kernel_rfl) (by simp) ?_
    refine AllReadyH.cons rfl (fun KK hKK => ?_) AllReadyH.nil
    (try simp only [List.getElem_toArray, List.getElem_cons_succ, List.getElem_cons_zero])
    obtain ⟨X1, hX1⟩ : ∃ x, x = u.drew.setRow (w.heap.size + 1) ((alcl false a.seed (fr + 1) (.slice Am a.macs.length cm) (.slice Ab a.boxes.length cb)).toArray) := ⟨_, rfl⟩
    have hsX1 : ALRow X1 w.heap.size false a.seed (fr + 1) (.slice Am a.macs.length cm) (.slice Ab a.boxes.length cb) := by rw [hX1]; exact Whole.setRow_far hru (by omega) _
    have e1 : Whole X1 (w.heap.size + 1) 32 (alc false a.seed (fr + 1) (.slice Am a.macs.length cm) (.slice Ab a.boxes.length cb)) := by rw [hX1]; exact Whole.setRow h1u _
    have h2X1 : Whole X1 (w.heap.size + 1 + 1) 28 ztr := by rw [hX1]; exact Whole.setRow_far h2u (by omega) _
    have bbX1 : Below w.heap.size w X1 := by rw [hX1]; exact below_setRow bbu (by omega) _
    have htX1 : TGRow X1 w1.heap.size (E) := by rw [hX1]; exact Whole.setRow_far htd (by omega) _
    rw [if_pos (by kernel_rfl)]
    refine wp_store_row 32 _ _ rfl (w.heap.size + 1) _ rfl rfl 32 _ h1u (by rw [algSize, List.size_toArray, alcl_length]) (by rw [zar_size, List.size_toArray, alcl_length]) (alc_one _ _ _ _ _ _ _ _ _) ?_
    rw [← hX1]
    clear hX1
    refine hKK.out _ _ (⟨Whole.range hsX1, TGRow.range htX1⟩) (fun hHeld => ?_)
    clear hKK KK
    (try simp only [List.getElem_toArray, List.getElem_cons_succ, List.getElem_cons_zero, Act.put, List.setIfInBounds_toArray, List.set_cons_zero, List.set_cons_succ])
    refine wpAnyH_ready (rs := [3]) (by kernel_rfl) (by simp) ?_
    refine AllReadyH.cons rfl (fun KK hKK => ?_) AllReadyH.nil
    (try simp only [List.getElem_toArray, List.getElem_cons_succ, List.getElem_cons_zero])
    have e1o := e1
    clear e1
    obtain ⟨X2, hX2⟩ : ∃ x, x = X1.setRow (w.heap.size + 1 + 1) (((E).map byt).toArray) := ⟨_, rfl⟩
    have hsX2 : ALRow X2 w.heap.size false a.seed (fr + 1) (.slice Am a.macs.length cm) (.slice Ab a.boxes.length cb) := by rw [hX2]; exact Whole.setRow_far hsX1 (by omega) _
    have e1 : Whole X2 (w.heap.size + 1) 32 (alc false a.seed (fr + 1) (.slice Am a.macs.length cm) (.slice Ab a.boxes.length cb)) := by rw [hX2]; exact Whole.setRow_far e1o (by omega) _
    have e2 : TGRow X2 (w.heap.size + 1 + 1) (E) := by rw [hX2]; exact Whole.setRow h2X1 _
    have bbX2 : Below w.heap.size w X2 := by rw [hX2]; exact below_setRow bbX1 (by omega) _
    have htX2 : TGRow X2 w1.heap.size (E) := by rw [hX2]; exact Whole.setRow_far htX1 (by omega) _
    rw [if_pos (by kernel_rfl)]
    refine wp_store_row 28 _ _ rfl (w.heap.size + 1 + 1) _ rfl rfl 28 _ h2X1 (by rw [tagSize, tag_size (hEl)]) (by rw [ztr_size, tag_size (hEl)]) (tag_one _) ?_
    rw [← hX2]
    clear hX2
    refine hKK.out _ _ (⟨Whole.range hsX2, TGRow.range htX2⟩) (fun hHeld => ?_)
    clear hKK KK
    (try simp only [List.getElem_toArray, List.getElem_cons_succ, List.getElem_cons_zero, Act.put, List.setIfInBounds_toArray, List.set_cons_zero, List.set_cons_succ])
    apply wpAnyH_take (i := 4) rfl (by kernel_rfl) (by kernel_rfl) (by kernel_rfl)
    case hQ => exact fun _ _ _ h => h
    case hS => exact hHeld
    case hy => (refine Or.inl ⟨by rfl, ?_⟩; intro w hSw; (try go_split_ands); go_simp; (try with_reducible rfl))
    (try simp only [List.getElem_toArray, List.getElem_cons_succ, List.getElem_cons_zero, Act.put, List.setIfInBounds_toArray, List.set_cons_zero, List.set_cons_succ])
    refine wpAnyH_done (by kernel_rfl) ?_ _
    go_wp2_with fail
    have hbf := bbX2
    refine bodyPost_ret (results_alg3 Tryd.results27 _ rfl rfl _ rfl (alc_size _ _ _ _ _) (tag_size (hEl)) e1 e2) rfl ?_
    show AlgR _ Q _ (aKey a) ∧ _
    rw [HK.out, if_neg (by rw [← HFF.out]; exact Bool.false_ne_true), HDE.out]
    refine ⟨⟨_, rfl, ?_⟩, hbf⟩
    exact ⟨Am, cm, Ab, cb, by rw [← HFF.out], HM.out.below hbf (Nat.le_refl _), HBX.out.below hbf (Nat.le_refl _), ⟨HA.out.seed, by show 0 ≤ fr + 1; omega, by show fr + 1 ≤ 100000; omega, HA.out.macs, HA.out.boxes⟩⟩
end Go.Proofs.YteekdhcffiaaaaaDoor
namespace Go.Proofs.YteekdhcffiaaaaaDoor
open Go Go.RowKit Sh Leaf

set_option maxRecDepth 100000 in
theorem built_free (f : Bool) : Tryd.prog.built 32 [(0, .bool f)] = some (Value.bool f :: (List.replicate 32 (Value.int .u8 0) ++ ([.int .i64 0, .slice none 0 0, .slice none 0 0] : List Value))).toArray := by kernel_rfl
theorem wpList_build_free {w : World} {ops : Array Oper} {rest : List Oper} {o : Oper} {a : Act} {Q : Exit → Act → World → Prop} (hgd : o.guard = none) (x : Operand) (ho : o.op = .build 32 #[(0, x)])
    (f : Bool) (hx : a.eval x = .bool f) (h : wpList Tryd.prog ops Q rest (a.put o.dst (.agg (alc f ztag 0 (.slice none 0 0) (.slice none 0 0)))) w) : wpList Tryd.prog ops Q (o :: rest) a w := by
  refine wpList_build_as hgd 32 _ ho _ ?_ h
  have e : (#[(0, x)].map fun (i, x) => (i, a.eval x)).toList = [(0, .bool f)] := by simp [hx]
  rw [e, built_free]
  unfold alc alcl
  rw [p32_eq (by simp), List.map_replicate]
  unfold byt
  rw [bv_zero]
abbrev freeA : Alg := ⟨true, ztag, 0, [], []⟩
theorem free_av (w : World) (Q : Nat → Prop) : AlV w Q (.agg (alc true ztag 0 (.slice none 0 0) (.slice none 0 0))) freeA := ⟨none, 0, none, 0, rfl, Macs.nil _ _, Bxs.nil _ _, ⟨by simp, by simp, by simp, by simp, by simp⟩⟩
end Go.Proofs.YteekdhcffiaaaaaDoor
