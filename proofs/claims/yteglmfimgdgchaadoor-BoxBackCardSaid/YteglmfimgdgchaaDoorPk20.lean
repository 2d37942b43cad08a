/-
  Key (the reference).
  Look (the reference).
  Look (the program).
  For the laws over algebras: what stays under the steps of a law (Off: outside of blocks listed); loads, builds and comparisons of tags as a law has them.
  Key (the program).
  Plain words of the law of free algebras.
-/
import Derived.Deep.RegionHeld3
import Derived.Deep.CutBlock
import Derived.Deep.DeepCutAuto
import Derived.Test.YteglmfimgdgchaaDoorPk15
import Derived.Test.YteglmfimgdgchaaDoorPk19
import Derived.Test.YteglmfimgdgchaaDoorPk8
import Derived.Test.YteglmfimgdgchaaDoorPk3
namespace Go.Proofs.YteglmfimgdgchaaDoor
open Go Go.RowKit Sh Leaf

theorem alv_zero (w : World) (Q : Nat → Prop) : AlV w Q (.agg zar) zalg := ⟨none, 0, none, 0, by rw [zar_eq]; rfl, Macs.nil _ _, Bxs.nil _ _, ⟨by simp, by simp, by simp, by simp, by simp⟩⟩
theorem bv107 : bv 107#8 = 107 := bv_lit 107 (by omega)
theorem bv109 : bv 109#8 = 109 := bv_lit 109 (by omega)
theorem bv98 : bv 98#8 = 98 := bv_lit 98 (by omega)
/-- What a call leaves that gives an algebra, a tag and an error. -/
abbrev AlgR (w' : World) (Q : Nat → Prop) (e : Ending) (r : Alg × List B8 × Int) : Prop := ∃ v, e = .returned (.tuple #[v, tagv r.2.1, .int .i64 r.2.2]) ∧ AlV w' Q v r.1
set_option linter.unusedSimpArgs false in
set_option maxRecDepth 100000 in
set_option maxHeartbeats 4000000 in
theorem rkey {w : World} {Q : Nat → Prop} {x : Value} {a : Alg} (hx : AlV w Q x a) :
    Calls Tryd.prog 16 #[x] w fun e w' => AlgR w' Q e (aKey a) ∧ Below w.heap.size w w' := by
  obtain ⟨Am, cm, Ab, cb, rfl, hM, hBx, hA⟩ := hx
  obtain ⟨p, hp⟩ : ∃ p, p = ((w.alloc (.cells (alc a.free a.seed a.fresh (.slice Am a.macs.length cm) (.slice Ab a.boxes.length cb)) 28)).alloc (.cells zar 28)).alloc (.cells ztr 23) := ⟨_, rfl⟩
  have hr : ALRow p w.heap.size a.free a.seed a.fresh (.slice Am a.macs.length cm) (.slice Ab a.boxes.length cb) := by rw [hp]; exact ((Whole.here _ _ _).alloc _).alloc _
  have h1 : Whole p (w.heap.size + 1) 28 zar := by rw [hp]; exact (Whole.at_ _ _ _ _ (by simp)).alloc _
  have h2 : Whole p (w.heap.size + 1 + 1) 23 ztr := by rw [hp]; exact Whole.at_ _ _ _ _ (by simp)
  have hb : Below w.heap.size w p := by rw [hp]; exact (((Below.refl _ _).alloc (Nat.le_refl _) _).alloc (by simp) _).alloc (by simp; omega) _
  have hps : w.heap.size + 1 + 1 < p.heap.size := h2.lt
  have hfl := hA.lo
  have hfh := hA.hi
  obtain ⟨fr, hfr⟩ : ∃ f, f = a.fresh := ⟨_, rfl⟩
  rw [← hfr] at hr hp hfl hfh ⊢
  obtain ⟨c0, c33, c34, c35⟩ := ALRow.cells hr
  have HM := Lib.hid hM
  have HBX := Lib.hid hBx
  have HR := Lib.hid hr
  have H1 := Lib.hid h1
  have H2 := Lib.hid h2
  have HB := Lib.hid hb
  have HA := Lib.hid hA
  have HFR := Lib.hid hfr
  have hf33 := ALRow.frees hr 33
  clear hM hBx hr h1 h2 hb hA hfr
  go_enter Tryd.func16, Tryd.ntmps16
  go_upto_region 1 with fail
  rw [zar_lit, ztr_lit, ← hp]
  clear hp
  by_cases hbig : (65536 : Int) ≤ fr
  · skip
    have HK : Hid (aKey a = (zalg, ztag, 2)) := Lib.hid (by unfold aKey; rw [if_pos (by rw [← HFR.out]; exact hbig)])
    go_wp2_with (first
      | (with_reducible refine wpList_store_alg rfl _ _ rfl (g := w.heap.size + 1) rfl rfl H1.out zar_size rfl (by with_unfolding_all rfl) ?_)
      | (with_reducible refine wpList_store_tag rfl _ _ rfl (g := w.heap.size + 1 + 1) rfl rfl (Whole.setRow_far H2.out (by omega) _) ztr_size rfl (by with_unfolding_all rfl) ?_))
    rw [zar_lit, ztr_lit]
    have e1 := Whole.setRow_far (Whole.setRow H1.out zar) (g' := w.heap.size + 1 + 1) (by omega) ztr
    have e2 := Whole.setRow (Whole.setRow_far H2.out (g' := w.heap.size + 1) (by omega) zar) ztr
    refine bodyPost_ret (results_alg3 Tryd.results16 _ rfl rfl _ rfl zar_size ztr_size e1 e2) rfl ?_
    show AlgR _ Q _ (aKey a) ∧ _
    rw [HK.out]
    exact ⟨⟨_, by rw [ztr_eq]; rfl, alv_zero _ _⟩, below_setRow (below_setRow HB.out (by omega) _) (by omega) _⟩
  have hw1 : IntKind.i64.wrap (fr + 1) = fr + 1 := by rw [IntKind.wrap_i64]; omega
  have HK : Hid (aKey a = ({ a with fresh := fr + 1 }, if a.free = true then sym 107#8 (fr + 1) else (der a.seed frs (fr + 1)).1, 0)) := Lib.hid (by unfold aKey; rw [HFR.out, if_neg (by rw [← HFR.out]; exact hbig)])
  obtain ⟨F, hF⟩ : ∃ f, f = a.free := ⟨_, rfl⟩
  have HFF := Lib.hid hF
  rw [← hF] at c0
  go_upto_region 4 with fail
  obtain ⟨q, hq⟩ : ∃ q, q = p.setCell ⟨w.heap.size, 33, none⟩ (.int .i64 (fr + 1)) := ⟨_, rfl⟩
  have hr : ALRow q w.heap.size a.free a.seed (fr + 1) (.slice Am a.macs.length cm) (.slice Ab a.boxes.length cb) := by rw [hq]; exact ALRow.set33 HR.out _
  have h1 : Whole q (w.heap.size + 1) 28 zar := by rw [hq]; exact Whole.far H1.out (by show w.heap.size + 1 ≠ w.heap.size; omega) _
  have h2 : Whole q (w.heap.size + 1 + 1) 23 ztr := by rw [hq]; exact Whole.far H2.out (by show w.heap.size + 1 + 1 ≠ w.heap.size; omega) _
  have hb : Below w.heap.size w q := by rw [hq]; exact HB.out.setCell (p := ⟨w.heap.size, 33, none⟩) (Nat.le_refl _) _
  rw [← hq]
  have hqs : w.heap.size + 1 + 1 < q.heap.size := h2.lt
  clear hq hf33 c0 c33 c34 c35 hps HR H1 H2 HB
  rw [← hF] at hr
  have HR := Lib.hid hr
  have H1 := Lib.hid h1
  have H2 := Lib.hid h2
  have HB := Lib.hid hb
  obtain ⟨c0, c33, c34, c35⟩ := ALRow.cells hr
  have hsd := ALRow.seed hr HA.out.seed
  clear hr h1 h2 hb hF
  cases F
  rotate_left
  · skip
    obtain ⟨E, hE⟩ : ∃ E, E = sym 107#8 (fr + 1) := ⟨_, rfl⟩
    have hEl : E.length = 32 := by rw [hE]; exact sym_length _ _
    have HE := Lib.hid hE
    have hcc : ∀ W, Below q.heap.size q W → (fun W => W.rangeAt w.heap.size 0 (alcl true a.seed (fr + 1) (.slice Am a.macs.length cm) (.slice Ab a.boxes.length cb)) ∧ W.cell? ⟨w.heap.size, 33, none⟩ = some (.int .i64 (fr + 1))) W := fun W hb => (fun h => ⟨Whole.range h, (ALRow.cells h).2.1⟩) (Whole.below HR.out hb (by omega))
    have HCC := Lib.hid hcc
    clear hcc hE hsd c33 c34 c35
    go_upto_region 5 with fail
    clear c0
    refine wp_region_held_drew (S := fun W => W.rangeAt w.heap.size 0 (alcl true a.seed (fr + 1) (.slice Am a.macs.length cm) (.slice Ab a.boxes.length cb)) ∧ W.cell? ⟨w.heap.size, 33, none⟩ = some (.int .i64 (fr + 1))) (by kernel_rfl) (HCC.out _ (Below.drew (Below.refl _ _))) (fun hHeld => ?_)
    apply wpAnyH_take (i := 0) rfl (by kernel_rfl) (by kernel_rfl) (by kernel_rfl)
    case hQ => exact fun _ _ _ h => h
    case hS => exact hHeld
    case hy => exact yieldsIf_load_mid (by rfl) 28 _ rfl w.heap.size (0) rfl (alcl true a.seed (fr + 1) (.slice Am a.macs.length cm) (.slice Ab a.boxes.length cb)) _ (fun w hS => hS.1) Tryd.underlying28 rfl (by rw [algSize, alcl_length])
    (try simp only [List.getElem_toArray, List.getElem_cons_zero, Act.put, List.setIfInBounds_toArray, List.set_cons_zero, List.set_cons_succ])
    apply wpAnyH_take (i := 1) rfl (by kernel_rfl) (by kernel_rfl) (by kernel_rfl)
    case hQ => exact fun _ _ _ h => h
    case hS => exact hHeld
    case hy => (refine Or.inl ⟨by rfl, ?_⟩; intro w hSw; (try go_split_ands); go_simp; (try with_reducible rfl))
    (try simp only [List.getElem_toArray, List.getElem_cons_succ, List.getElem_cons_zero, Act.put, List.setIfInBounds_toArray, List.set_cons_zero, List.set_cons_succ])
    apply wpAnyH_take (i := 2) rfl (by kernel_rfl) (by kernel_rfl) (by kernel_rfl)
    case hQ => exact fun _ _ _ h => h
    case hS => exact hHeld
    case hy => (refine Or.inl ⟨by rfl, ?_⟩; intro w hSw; (try go_split_ands); go_simp; (try with_reducible rfl))
    (try simp only [List.getElem_toArray, List.getElem_cons_succ, List.getElem_cons_zero, Act.put, List.setIfInBounds_toArray, List.set_cons_zero, List.set_cons_succ])
    refine wpAnyH_ready (rs := [3]) (by kernel_rfl) (by simp) ?_
    refine AllReadyH.cons rfl (fun KK hKK => ?_) AllReadyH.nil
    (try simp only [List.getElem_toArray, List.getElem_cons_succ, List.getElem_cons_zero])
    go_simp
    go_at_call 21
    have hsy := rsymbol 107#8 (fr + 1) q.drew
    rw [bv107, ← HE.out] at hsy
    refine hsy.mono ?_
    rintro e w1 ⟨rfl, hw1⟩
    have b1 : Below q.heap.size q w1 := ((Below.refl _ _).drew).trans hw1
    have hs1 : ALRow w1 w.heap.size true a.seed (fr + 1) (.slice Am a.macs.length cm) (.slice Ab a.boxes.length cb) := Whole.below HR.out b1 (by omega)
    have h11 := Whole.below H1.out b1 (by omega)
    have h21 := Whole.below H2.out b1 (by omega)
    have bb1 : Below w.heap.size w w1 := HB.out.trans (b1.mono (by omega))
    clear hsy
    refine hKK.out _ _ (HCC.out _ b1) (fun hHeld => ?_)
    clear hKK KK
    (try simp only [List.getElem_toArray, List.getElem_cons_succ, List.getElem_cons_zero, Act.put, List.setIfInBounds_toArray, List.set_cons_zero, List.set_cons_succ])
    refine wpAnyH_ready (rs := [4]) (by kernel_rfl) (by simp) ?_
    refine AllReadyH.cons rfl (fun KK hKK => ?_) AllReadyH.nil
    (try simp only [List.getElem_toArray, List.getElem_cons_succ, List.getElem_cons_zero])
    obtain ⟨X2, hX2⟩ : ∃ x, x = w1.setRow (w.heap.size + 1) ((alcl true a.seed (fr + 1) (.slice Am a.macs.length cm) (.slice Ab a.boxes.length cb)).toArray) := ⟨_, rfl⟩
    have hsX2 : ALRow X2 w.heap.size true a.seed (fr + 1) (.slice Am a.macs.length cm) (.slice Ab a.boxes.length cb) := by rw [hX2]; exact Whole.setRow_far hs1 (by omega) _
    have e1 : Whole X2 (w.heap.size + 1) 28 (alc true a.seed (fr + 1) (.slice Am a.macs.length cm) (.slice Ab a.boxes.length cb)) := by rw [hX2]; exact Whole.setRow h11 _
    have h2X2 : Whole X2 (w.heap.size + 1 + 1) 23 ztr := by rw [hX2]; exact Whole.setRow_far h21 (by omega) _
    have bbX2 : Below w.heap.size w X2 := by rw [hX2]; exact below_setRow bb1 (by omega) _
    rw [if_pos (by kernel_rfl)]
    refine wp_store_row 28 _ _ rfl (w.heap.size + 1) _ rfl rfl 28 _ h11 (by rw [algSize, List.size_toArray, alcl_length]) (by rw [zar_size, List.size_toArray, alcl_length]) (alc_one _ _ _ _ _ _ _ _ _) ?_
    rw [← hX2]
    clear hX2
    refine hKK.out _ _ (⟨Whole.range hsX2, (ALRow.cells hsX2).2.1⟩) (fun hHeld => ?_)
    clear hKK KK
    (try simp only [List.getElem_toArray, List.getElem_cons_succ, List.getElem_cons_zero, Act.put, List.setIfInBounds_toArray, List.set_cons_zero, List.set_cons_succ])
    refine wpAnyH_ready (rs := [5]) (by kernel_rfl) (by simp) ?_
    refine AllReadyH.cons rfl (fun KK hKK => ?_) AllReadyH.nil
    (try simp only [List.getElem_toArray, List.getElem_cons_succ, List.getElem_cons_zero])
    have e1o := e1
    clear e1
    obtain ⟨X3, hX3⟩ : ∃ x, x = X2.setRow (w.heap.size + 1 + 1) (((E).map byt).toArray) := ⟨_, rfl⟩
    have hsX3 : ALRow X3 w.heap.size true a.seed (fr + 1) (.slice Am a.macs.length cm) (.slice Ab a.boxes.length cb) := by rw [hX3]; exact Whole.setRow_far hsX2 (by omega) _
    have e1 : Whole X3 (w.heap.size + 1) 28 (alc true a.seed (fr + 1) (.slice Am a.macs.length cm) (.slice Ab a.boxes.length cb)) := by rw [hX3]; exact Whole.setRow_far e1o (by omega) _
    have e2 : TGRow X3 (w.heap.size + 1 + 1) (E) := by rw [hX3]; exact Whole.setRow h2X2 _
    have bbX3 : Below w.heap.size w X3 := by rw [hX3]; exact below_setRow bbX2 (by omega) _
    rw [if_pos (by kernel_rfl)]
    refine wp_store_row 23 _ _ rfl (w.heap.size + 1 + 1) _ rfl rfl 23 _ h2X2 (by rw [tagSize, tag_size (hEl)]) (by rw [ztr_size, tag_size (hEl)]) (tag_one _) ?_
    rw [← hX3]
    clear hX3
    refine hKK.out _ _ (⟨Whole.range hsX3, (ALRow.cells hsX3).2.1⟩) (fun hHeld => ?_)
    clear hKK KK
    (try simp only [List.getElem_toArray, List.getElem_cons_succ, List.getElem_cons_zero, Act.put, List.setIfInBounds_toArray, List.set_cons_zero, List.set_cons_succ])
    apply wpAnyH_take (i := 6) rfl (by kernel_rfl) (by kernel_rfl) (by kernel_rfl)
    case hQ => exact fun _ _ _ h => h
    case hS => exact hHeld
    case hy => (refine Or.inl ⟨by rfl, ?_⟩; intro w hSw; (try go_split_ands); go_simp; (try with_reducible rfl))
    (try simp only [List.getElem_toArray, List.getElem_cons_succ, List.getElem_cons_zero, Act.put, List.setIfInBounds_toArray, List.set_cons_zero, List.set_cons_succ])
    refine wpAnyH_done (by kernel_rfl) ?_ _
    go_wp2_with fail
    have hbf := bbX3
    refine bodyPost_ret (results_alg3 Tryd.results16 _ rfl rfl _ rfl (alc_size _ _ _ _ _) (tag_size (hEl)) e1 e2) rfl ?_
    show AlgR _ Q _ (aKey a) ∧ _
    rw [HK.out, if_pos HFF.out.symm, ← HE.out]
    refine ⟨⟨_, rfl, ?_⟩, hbf⟩
    exact ⟨Am, cm, Ab, cb, by rw [← HFF.out], HM.out.below hbf (Nat.le_refl _), HBX.out.below hbf (Nat.le_refl _), ⟨HA.out.seed, by show 0 ≤ fr + 1; omega, by show fr + 1 ≤ 100000; omega, HA.out.macs, HA.out.boxes⟩⟩
  · skip
    have hder := der_frs (K := a.seed) (z := fr + 1) (by omega) (by omega)
    obtain ⟨E, hE⟩ : ∃ E, E = hmac a.seed (purp frs (fr + 1).toNat) := ⟨_, rfl⟩
    have hEl : E.length = 32 := by rw [hE]; exact hmac_length _ _
    have hde : der a.seed frs (fr + 1) = (E, 0) := by rw [hder.2, hE]
    have hcl := ref_derive a.seed HA.out.seed frs (by decide) (fr + 1) q
    rw [hde] at hcl
    have HDE := Lib.hid hde
    have hsl : (a.seed.map byt).length = 32 := by rw [List.length_map]; exact HA.out.seed
    clear hder hE hde
    go_wp2_with (first
      | (with_reducible refine wpList_load_mid rfl 23 _ rfl w.heap.size 1 rfl _ _ hsd Tryd.underlying23 rfl (by rw [tagSize, hsl]) ?_))
    refine hcl.mono ?_
    rintro e w1 ⟨rfl, hw1⟩
    have hs1 : ALRow w1 w.heap.size false a.seed (fr + 1) (.slice Am a.macs.length cm) (.slice Ab a.boxes.length cb) := Whole.below HR.out hw1 (by omega)
    have h11 := Whole.below H1.out hw1 (by omega)
    have h21 := Whole.below H2.out hw1 (by omega)
    have bb1 : Below w.heap.size w w1 := HB.out.trans (hw1.mono (by omega))
    have hws : q.heap.size ≤ w1.heap.size := hw1.size
    have HS1 := Lib.hid hs1
    have H11 := Lib.hid h11
    have H21 := Lib.hid h21
    have BB1 := Lib.hid bb1
    clear hcl hw1 hs1 h11 h21 bb1 hsd c0 c33 c34 c35 HR H1 H2 HB
    go_wp2_with (first
      | (with_reducible refine wpList_store_tag rfl _ _ rfl (g := w1.heap.size) rfl rfl (Whole.here w1 _ _) rfl (tag_size hEl) (tag_one _) ?_))
    rw [ztr_lit]
    obtain ⟨u, hu⟩ : ∃ x, x = (w1.alloc (.cells ztr 23)).setRow w1.heap.size (E.map byt).toArray := ⟨_, rfl⟩
    have ht : TGRow u w1.heap.size E := by rw [hu]; exact Whole.setRow (Whole.here _ _ _) _
    have hbu : Below w1.heap.size w1 u := by rw [hu]; exact below_setRow ((Below.refl _ _).alloc (Nat.le_refl _) _) (Nat.le_refl _) _
    rw [← hu]
    clear hu
    have hws2 : w1.heap.size < u.heap.size := ht.lt
    have hru : ALRow u.drew w.heap.size false a.seed (fr + 1) (.slice Am a.macs.length cm) (.slice Ab a.boxes.length cb) := Whole.drew (Whole.below HS1.out hbu (by omega))
    have h1u := Whole.drew (Whole.below H11.out hbu (by omega))
    have h2u := Whole.drew (Whole.below H21.out hbu (by omega))
    have htd : TGRow u.drew w1.heap.size E := Whole.drew ht
    have bbu : Below w.heap.size w u.drew := (BB1.out.trans (hbu.mono (by omega))).drew
    refine wp_region_held_drew (S := fun W => W.rangeAt w.heap.size 0 (alcl false a.seed (fr + 1) (.slice Am a.macs.length cm) (.slice Ab a.boxes.length cb)) ∧ W.rangeAt w1.heap.size 0 (E.map byt)) (by kernel_rfl) (⟨Whole.range hru, TGRow.range htd⟩) (fun hHeld => ?_)
    apply wpAnyH_take (i := 0) rfl (by kernel_rfl) (by kernel_rfl) (by kernel_rfl)
    case hQ => exact fun _ _ _ h => h
    case hS => exact hHeld
    case hy => exact yieldsIf_load_mid (by rfl) 28 _ rfl w.heap.size (0) rfl (alcl false a.seed (fr + 1) (.slice Am a.macs.length cm) (.slice Ab a.boxes.length cb)) _ (fun w hS => hS.1) Tryd.underlying28 rfl (by rw [algSize, alcl_length])
    (try simp only [List.getElem_toArray, List.getElem_cons_zero, Act.put, List.setIfInBounds_toArray, List.set_cons_zero, List.set_cons_succ])
    apply wpAnyH_take (i := 1) rfl (by kernel_rfl) (by kernel_rfl) (by kernel_rfl)
    case hQ => exact fun _ _ _ h => h
    case hS => exact hHeld
    case hy => exact yieldsIf_load_mid (by rfl) 23 _ rfl w1.heap.size (0) rfl (E.map byt) _ (fun w hS => hS.2) Tryd.underlying23 rfl (by rw [tagSize, List.length_map, hEl])
    (try simp only [List.getElem_toArray, List.getElem_cons_succ, List.getElem_cons_zero, Act.put, List.setIfInBounds_toArray, List.set_cons_zero, List.set_cons_succ])
    refine wpAnyH_ready (rs := [2]) (by kernel_rfl) (by simp) ?_
    refine AllReadyH.cons rfl (fun KK hKK => ?_) AllReadyH.nil
    (try simp only [List.getElem_toArray, List.getElem_cons_succ, List.getElem_cons_zero])
    obtain ⟨X1, hX1⟩ : ∃ x, x = u.drew.setRow (w.heap.size + 1) ((alcl false a.seed (fr + 1) (.slice Am a.macs.length cm) (.slice Ab a.boxes.length cb)).toArray) := ⟨_, rfl⟩
    have hsX1 : ALRow X1 w.heap.size false a.seed (fr + 1) (.slice Am a.macs.length cm) (.slice Ab a.boxes.length cb) := by rw [hX1]; exact Whole.setRow_far hru (by omega) _
    have e1 : Whole X1 (w.heap.size + 1) 28 (alc false a.seed (fr + 1) (.slice Am a.macs.length cm) (.slice Ab a.boxes.length cb)) := by rw [hX1]; exact Whole.setRow h1u _
    have h2X1 : Whole X1 (w.heap.size + 1 + 1) 23 ztr := by rw [hX1]; exact Whole.setRow_far h2u (by omega) _
    have bbX1 : Below w.heap.size w X1 := by rw [hX1]; exact below_setRow bbu (by omega) _
    have htX1 : TGRow X1 w1.heap.size (E) := by rw [hX1]; exact Whole.setRow_far htd (by omega) _
    rw [if_pos (by kernel_rfl)]
    refine wp_store_row 28 _ _ rfl (w.heap.size + 1) _ rfl rfl 28 _ h1u (by rw [algSize, List.size_toArray, alcl_length]) (by rw [zar_size, List.size_toArray, alcl_length]) (alc_one _ _ _ _ _ _ _ _ _) ?_
    rw [← hX1]
    clear hX1
    refine hKK.out _ _ (⟨Whole.range hsX1, TGRow.range htX1⟩) (fun hHeld => ?_)
    clear hKK KK
    (try simp only [List.getElem_toArray, List.getElem_cons_succ, List.getElem_cons_zero, Act.put, List.setIfInBounds_toArray, List.set_cons_zero, List.set_cons_succ])
    refine wpAnyH_ready (rs := [3]) (by kernel_rfl) (by simp) ?_
    refine AllReadyH.cons rfl (fun KK hKK => ?_) AllReadyH.nil
    (try simp only [List.getElem_toArray, List.getElem_cons_succ, List.getElem_cons_zero])
    have e1o := e1
    clear e1
    obtain ⟨X2, hX2⟩ : ∃ x, x = X1.setRow (w.heap.size + 1 + 1) (((E).map byt).toArray) := ⟨_, rfl⟩
    have hsX2 : ALRow X2 w.heap.size false a.seed (fr + 1) (.slice Am a.macs.length cm) (.slice Ab a.boxes.length cb) := by rw [hX2]; exact Whole.setRow_far hsX1 (by omega) _
    have e1 : Whole X2 (w.heap.size + 1) 28 (alc false a.seed (fr + 1) (.slice Am a.macs.length cm) (.slice Ab a.boxes.length cb)) := by rw [hX2]; exact Whole.setRow_far e1o (by omega) _
    have e2 : TGRow X2 (w.heap.size + 1 + 1) (E) := by rw [hX2]; exact Whole.setRow h2X1 _
    have bbX2 : Below w.heap.size w X2 := by rw [hX2]; exact below_setRow bbX1 (by omega) _
    have htX2 : TGRow X2 w1.heap.size (E) := by rw [hX2]; exact Whole.setRow_far htX1 (by omega) _
    rw [if_pos (by kernel_rfl)]
    refine wp_store_row 23 _ _ rfl (w.heap.size + 1 + 1) _ rfl rfl 23 _ h2X1 (by rw [tagSize, tag_size (hEl)]) (by rw [ztr_size, tag_size (hEl)]) (tag_one _) ?_
    rw [← hX2]
    clear hX2
    refine hKK.out _ _ (⟨Whole.range hsX2, TGRow.range htX2⟩) (fun hHeld => ?_)
    clear hKK KK
    (try simp only [List.getElem_toArray, List.getElem_cons_succ, List.getElem_cons_zero, Act.put, List.setIfInBounds_toArray, List.set_cons_zero, List.set_cons_succ])
    apply wpAnyH_take (i := 4) rfl (by kernel_rfl) (by kernel_rfl) (by kernel_rfl)
    case hQ => exact fun _ _ _ h => h
    case hS => exact hHeld
    case hy => (refine Or.inl ⟨by rfl, ?_⟩; intro w hSw; (try go_split_ands); go_simp; (try with_reducible rfl))
    (try simp only [List.getElem_toArray, List.getElem_cons_succ, List.getElem_cons_zero, Act.put, List.setIfInBounds_toArray, List.set_cons_zero, List.set_cons_succ])
    refine wpAnyH_done (by kernel_rfl) ?_ _
    go_wp2_with fail
    have hbf := bbX2
    refine bodyPost_ret (results_alg3 Tryd.results16 _ rfl rfl _ rfl (alc_size _ _ _ _ _) (tag_size (hEl)) e1 e2) rfl ?_
    show AlgR _ Q _ (aKey a) ∧ _
    rw [HK.out, if_neg (by rw [← HFF.out]; exact Bool.false_ne_true), HDE.out]
    refine ⟨⟨_, rfl, ?_⟩, hbf⟩
    exact ⟨Am, cm, Ab, cb, by rw [← HFF.out], HM.out.below hbf (Nat.le_refl _), HBX.out.below hbf (Nat.le_refl _), ⟨HA.out.seed, by show 0 ≤ fr + 1; omega, by show fr + 1 ≤ 100000; omega, HA.out.macs, HA.out.boxes⟩⟩
end Go.Proofs.YteglmfimgdgchaaDoor
namespace Go.Proofs.YteglmfimgdgchaaDoor
open Go Go.RowKit Sh Leaf

/-- A tag and whether. -/
abbrev lres (r : List B8 × Bool) : Value := .tuple #[tagv r.1, .bool r.2]
set_option linter.unusedSimpArgs false in
set_option maxRecDepth 100000 in
set_option maxHeartbeats 4000000 in
theorem rlook {w : World} {Q Q2 : Nat → Prop} {x : Value} {B : Option Addr} {d : Nat} {a : Alg} {K m : List B8} (hx : AlV w Q x a) (hK : K.length = 32) (hm : Bytes w Q2 (.slice B m.length d) m) (hml : m.length ≤ 100000) :
    Calls Tryd.prog 29 #[x, .agg (K.map byt).toArray, .slice B m.length d] w fun e w' => e = .returned (lres (aLook a K m)) ∧ Below w.heap.size w w' := by
  have hx0 := hx
  obtain ⟨Am, cm, Ab, cb, rfl, hM, hBx, hA⟩ := hx
  obtain ⟨p, hp⟩ : ∃ p, p = ((w.alloc (.cells (alc a.free a.seed a.fresh (.slice Am a.macs.length cm) (.slice Ab a.boxes.length cb)) 28)).alloc (.cells (K.map byt).toArray 23)).alloc (.cells ztr 23) := ⟨_, rfl⟩
  have hr : ALRow p w.heap.size a.free a.seed a.fresh (.slice Am a.macs.length cm) (.slice Ab a.boxes.length cb) := by rw [hp]; exact ((Whole.here _ _ _).alloc _).alloc _
  have hk : TGRow p (w.heap.size + 1) K := by rw [hp]; exact (Whole.at_ _ _ _ _ (by simp)).alloc _
  have hz : TGRow p (w.heap.size + 1 + 1) ztag := by rw [hp]; exact ztr_row (Whole.at_ _ _ _ _ (by simp))
  have hb : Below w.heap.size w p := by rw [hp]; exact (((Below.refl _ _).alloc (Nat.le_refl _) _).alloc (by simp) _).alloc (by simp; omega) _
  have hps : w.heap.size + 1 + 1 < p.heap.size := hz.lt
  obtain ⟨R, hR⟩ : ∃ R, R = aLook a K m := ⟨_, rfl⟩
  rw [← hR]
  have hRR := hR
  unfold aLook at hRR
  have hmp := hm.below hb (Nat.le_refl _)
  obtain ⟨c0, c33, c34, c35⟩ := ALRow.cells hr
  have HZ := Lib.hid hz
  have HB := Lib.hid hb
  have HM := Lib.hid hmp
  have hal := hA.macs
  clear hR
  obtain ⟨F, hF⟩ : ∃ f, f = a.free := ⟨_, rfl⟩
  rw [← hF] at c0 hRR
  have HFF := Lib.hid hF
  clear hF
  have hcl := rentry (hx0.below hb (Nat.le_refl _)) hK hmp hml
  have HR := Lib.hid hr
  have HK := Lib.hid hk
  have HTL : Hid (∀ e ∈ a.macs, e.tag.length = 32) := Lib.hid (Macs.tags hM)
  have hl32 := fun t => fnd_len (t := t) (l := a.macs) (k := K) (m := m)
  clear hx0 hM hBx hA hr hk hz hb hm hmp hal
  cases F
  · rw [if_neg (by simp)] at hRR
    clear hcl hl32
    by_cases hbig : 4096 < m.length
    · rw [if_pos hbig] at hRR
      subst hRR
      have hb1 : (4096 : Int) < (m.length : Int) := by omega
      go_enter Tryd.func29, Tryd.ntmps29
      go_upto_region 1 with fail
      rw [ztr_lit, ← hp]
      clear hp
      go_wp2_with (with_reducible refine wpList_store_tag rfl _ _ rfl (g := w.heap.size + 1 + 1) rfl rfl HZ.out (tag_size (by simp)) rfl (by with_unfolding_all rfl) ?_)
      rw [ztr_lit]
      have h3 := ztr_row (Whole.setRow HZ.out ztr)
      refine bodyPost_ret (results_tag2 (g := w.heap.size + 1 + 1) Tryd.results29 _ rfl _ rfl (tag_size (by simp)) h3) rfl ⟨rfl, below_setRow HB.out (by omega) _⟩
    · rw [if_neg hbig] at hRR
      have hb1 : ¬ (4096 : Int) < (m.length : Int) := by omega
      obtain ⟨E, hE⟩ : ∃ E, E = hmac K m := ⟨_, rfl⟩
      have hEl : E.length = 32 := by rw [hE]; exact hmac_length _ _
      rw [← hE] at hRR
      subst hRR
      have hby := Whole.bytes HK.out (by omega)
      rw [hK] at hby
      have hcl := ref_hmac _ _ K m _ _ p hby HM.out (by omega) (by omega)
      rw [← hE] at hcl
      have hst := fun g W => run_sliceAt_whole (P := Tryd.prog) (t := 23) (e := 5) (n := 32) Tryd.underlying23 (by kernel_rfl) g W
      clear hE hbig hby
      go_enter Tryd.func29, Tryd.ntmps29
      go_upto_region 1 with fail
      rw [ztr_lit, ← hp]
      clear hp
      go_wp2_with fail
      refine hcl.mono ?_
      rintro e w1 ⟨rfl, hb1'⟩
      have HZ1 := Lib.hid (Whole.below HZ.out hb1' hps)
      have HBF : Hid (Below w.heap.size w w1) := Lib.hid (HB.out.trans (hb1'.mono HB.out.size))
      clear hcl hb1' hst
      go_wp2_with (with_reducible refine wpList_store_tag rfl _ _ rfl (g := w.heap.size + 1 + 1) rfl rfl HZ1.out (tag_size (by simp)) (tag_size hEl) (tag_one _) ?_)
      have h3 := Whole.setRow HZ1.out (E.map byt).toArray
      refine bodyPost_ret (results_tag2 (g := w.heap.size + 1 + 1) Tryd.results29 _ rfl _ rfl (tag_size hEl) h3) rfl ⟨rfl, below_setRow HBF.out (by omega) _⟩
  · rw [if_pos rfl] at hRR
    obtain ⟨f, hf⟩ : ∃ f, f = fnd a.macs K m := ⟨_, rfl⟩
    rw [← hf] at hRR hcl
    have hRe : R = (f.getD ztag, f.isSome) := by rw [hRR]; cases f <;> rfl
    have hfl : (f.getD ztag).length = 32 := by
      cases f with
      | none => rfl
      | some t => exact hl32 t hf.symm HTL.out
    obtain ⟨E, hE⟩ : ∃ E, E = f.getD ztag := ⟨_, rfl⟩
    obtain ⟨V, hV⟩ : ∃ V, V = f.isSome := ⟨_, rfl⟩
    unfold fres at hcl
    rw [← hE, ← hV] at hRe hcl
    rw [← hE] at hfl
    subst hRe
    clear hRR hf hl32 hE hV
    go_enter Tryd.func29, Tryd.ntmps29
    go_upto_region 1 with fail
    rw [ztr_lit, ← hp]
    clear hp
    go_wp2_with (first
      | (with_reducible refine wpList_load_alg rfl _ rfl rfl HR.out (alc_size _ _ _ _ _) ?_)
      | (with_reducible refine wpList_load_tag rfl _ rfl rfl HK.out (tag_size hK) ?_))
    refine hcl.mono ?_
    rintro e w1 ⟨rfl, hb1'⟩
    have HZ1 := Lib.hid (Whole.below HZ.out hb1' hps)
    have HBF : Hid (Below w.heap.size w w1) := Lib.hid (HB.out.trans (hb1'.mono HB.out.size))
    clear hcl hb1'
    go_wp2_with (with_reducible refine wpList_store_tag rfl _ _ rfl (g := w.heap.size + 1 + 1) rfl rfl HZ1.out (tag_size (by simp)) (tag_size hfl) (tag_one _) ?_)
    have h3 := Whole.setRow HZ1.out (E.map byt).toArray
    refine bodyPost_ret (results_tag2 (g := w.heap.size + 1 + 1) Tryd.results29 _ rfl _ rfl (tag_size hfl) h3) rfl ⟨rfl, below_setRow HBF.out (by omega) _⟩
end Go.Proofs.YteglmfimgdgchaaDoor
namespace Go.Proofs.YteglmfimgdgchaaDoor
open Go Go.RowKit Sh Leaf

set_option linter.unusedSimpArgs false in
set_option maxRecDepth 100000 in
set_option maxHeartbeats 4000000 in
theorem plook {w : World} {Q Q2 : Nat → Prop} {x : Value} {B : Option Addr} {d : Nat} {a : Alg} {K m : List B8} (hx : AlV w Q x a) (hK : K.length = 32) (hm : Bytes w Q2 (.slice B m.length d) m) (hml : m.length ≤ 100000) (hT : Tables w) :
    Calls Tryd.prog 28 #[x, .agg (K.map byt).toArray, .slice B m.length d] w fun e w' => e = .returned (lres (aLook a K m)) ∧ Below w.heap.size w w' := by
  have hx0 := hx
  obtain ⟨Am, cm, Ab, cb, rfl, hM, hBx, hA⟩ := hx
  obtain ⟨p, hp⟩ : ∃ p, p = ((w.alloc (.cells (alc a.free a.seed a.fresh (.slice Am a.macs.length cm) (.slice Ab a.boxes.length cb)) 28)).alloc (.cells (K.map byt).toArray 23)).alloc (.cells ztr 23) := ⟨_, rfl⟩
  have hr : ALRow p w.heap.size a.free a.seed a.fresh (.slice Am a.macs.length cm) (.slice Ab a.boxes.length cb) := by rw [hp]; exact ((Whole.here _ _ _).alloc _).alloc _
  have hk : TGRow p (w.heap.size + 1) K := by rw [hp]; exact (Whole.at_ _ _ _ _ (by simp)).alloc _
  have hz : TGRow p (w.heap.size + 1 + 1) ztag := by rw [hp]; exact ztr_row (Whole.at_ _ _ _ _ (by simp))
  have hb : Below w.heap.size w p := by rw [hp]; exact (((Below.refl _ _).alloc (Nat.le_refl _) _).alloc (by simp) _).alloc (by simp; omega) _
  have hps : w.heap.size + 1 + 1 < p.heap.size := hz.lt
  obtain ⟨R, hR⟩ : ∃ R, R = aLook a K m := ⟨_, rfl⟩
  rw [← hR]
  have hRR := hR
  unfold aLook at hRR
  have hmp := hm.below hb (Nat.le_refl _)
  obtain ⟨c0, c33, c34, c35⟩ := ALRow.cells hr
  have HZ := Lib.hid hz
  have HB := Lib.hid hb
  have HM := Lib.hid hmp
  have hal := hA.macs
  clear hR
  obtain ⟨F, hF⟩ : ∃ f, f = a.free := ⟨_, rfl⟩
  rw [← hF] at c0 hRR
  have HFF := Lib.hid hF
  clear hF
  have hT1 := Lib.hid (hT.below (Nat.le_refl _) hb)
  have hcl := arecorded (hM.below hb (Nat.le_refl _)) hal hK hmp
  have HR := Lib.hid hr
  have HK := Lib.hid hk
  have HTL : Hid (∀ e ∈ a.macs, e.tag.length = 32) := Lib.hid (Macs.tags hM)
  have hl32 := fun t => fnd_len (t := t) (l := a.macs) (k := K) (m := m)
  clear hx0 hM hBx hA hr hk hz hb hm hmp hal
  cases F
  · rw [if_neg (by simp)] at hRR
    clear hcl hl32
    by_cases hbig : 4096 < m.length
    · rw [if_pos hbig] at hRR
      subst hRR
      have hb1 : (4096 : Int) < (m.length : Int) := by omega
      go_enter Tryd.func28, Tryd.ntmps28
      go_upto_region 1 with fail
      rw [ztr_lit, ← hp]
      clear hp
      go_wp2_with (with_reducible refine wpList_store_tag rfl _ _ rfl (g := w.heap.size + 1 + 1) rfl rfl HZ.out (tag_size (by simp)) rfl (by with_unfolding_all rfl) ?_)
      rw [ztr_lit]
      have h3 := ztr_row (Whole.setRow HZ.out ztr)
      refine bodyPost_ret (results_tag2 (g := w.heap.size + 1 + 1) Tryd.results28 _ rfl _ rfl (tag_size (by simp)) h3) rfl ⟨rfl, below_setRow HB.out (by omega) _⟩
    · rw [if_neg hbig] at hRR
      have hb1 : ¬ (4096 : Int) < (m.length : Int) := by omega
      obtain ⟨E, hE⟩ : ∃ E, E = hmac K m := ⟨_, rfl⟩
      have hEl : E.length = 32 := by rw [hE]; exact hmac_length _ _
      rw [← hE] at hRR
      subst hRR
      have hby := Whole.bytes HK.out (by omega)
      rw [hK] at hby
      have hcl := hof _ _ K m _ _ p hby HM.out hT1.out (by omega) (by omega)
      rw [← hE] at hcl
      have hst := fun g W => run_sliceAt_whole (P := Tryd.prog) (t := 23) (e := 5) (n := 32) Tryd.underlying23 (by kernel_rfl) g W
      clear hE hbig hby
      go_enter Tryd.func28, Tryd.ntmps28
      go_upto_region 1 with fail
      rw [ztr_lit, ← hp]
      clear hp
      go_wp2_with fail
      refine hcl.mono ?_
      rintro e w1 ⟨rfl, hb1'⟩
      have HZ1 := Lib.hid (Whole.below HZ.out hb1' hps)
      have HBF : Hid (Below w.heap.size w w1) := Lib.hid (HB.out.trans (hb1'.mono HB.out.size))
      clear hcl hb1' hst
      go_wp2_with (with_reducible refine wpList_store_tag rfl _ _ rfl (g := w.heap.size + 1 + 1) rfl rfl HZ1.out (tag_size (by simp)) (tag_size hEl) (tag_one _) ?_)
      have h3 := Whole.setRow HZ1.out (E.map byt).toArray
      refine bodyPost_ret (results_tag2 (g := w.heap.size + 1 + 1) Tryd.results28 _ rfl _ rfl (tag_size hEl) h3) rfl ⟨rfl, below_setRow HBF.out (by omega) _⟩
  · rw [if_pos rfl] at hRR
    obtain ⟨f, hf⟩ : ∃ f, f = fnd a.macs K m := ⟨_, rfl⟩
    rw [← hf] at hRR hcl
    have hRe : R = (f.getD ztag, f.isSome) := by rw [hRR]; cases f <;> rfl
    have hfl : (f.getD ztag).length = 32 := by
      cases f with
      | none => rfl
      | some t => exact hl32 t hf.symm HTL.out
    obtain ⟨E, hE⟩ : ∃ E, E = f.getD ztag := ⟨_, rfl⟩
    obtain ⟨V, hV⟩ : ∃ V, V = f.isSome := ⟨_, rfl⟩
    unfold fres at hcl
    rw [← hE, ← hV] at hRe hcl
    rw [← hE] at hfl
    subst hRe
    clear hRR hf hl32 hE hV
    go_enter Tryd.func28, Tryd.ntmps28
    go_upto_region 1 with fail
    rw [ztr_lit, ← hp]
    clear hp
    go_wp2_with (first
      | (with_reducible refine wpList_load_alg rfl _ rfl rfl HR.out (alc_size _ _ _ _ _) ?_)
      | (with_reducible refine wpList_load_tag rfl _ rfl rfl HK.out (tag_size hK) ?_))
    refine hcl.mono ?_
    rintro e w1 ⟨rfl, hb1'⟩
    have HZ1 := Lib.hid (Whole.below HZ.out hb1' hps)
    have HBF : Hid (Below w.heap.size w w1) := Lib.hid (HB.out.trans (hb1'.mono HB.out.size))
    clear hcl hb1'
    go_wp2_with (with_reducible refine wpList_store_tag rfl _ _ rfl (g := w.heap.size + 1 + 1) rfl rfl HZ1.out (tag_size (by simp)) (tag_size hfl) (tag_one _) ?_)
    have h3 := Whole.setRow HZ1.out (E.map byt).toArray
    refine bodyPost_ret (results_tag2 (g := w.heap.size + 1 + 1) Tryd.results28 _ rfl _ rfl (tag_size hfl) h3) rfl ⟨rfl, below_setRow HBF.out (by omega) _⟩
end Go.Proofs.YteglmfimgdgchaaDoor
namespace Go.Proofs.YteglmfimgdgchaaDoor
open Go Go.RowKit Sh Leaf

/-- Outside of these blocks. -/
def Off (S : List Nat) (b : Nat) : Prop := ∀ x ∈ S, b ≠ x
theorem off_cons {S : List Nat} {b G : Nat} (h : Off S b) (hG : b ≠ G) : Off (G :: S) b := fun x hx => by
  rcases List.mem_cons.1 hx with e | hx
  · rw [e]; exact hG
  · exact h x hx
theorem off_one {b g : Nat} (h : b ≠ g) : Off [g] b := fun x hx => by rw [List.mem_singleton.1 hx]; exact h
section
variable {W W' : World} {S : List Nat} {x v : Value} {a : Alg} {l : List B8} {g G N : Nat}
theorem AlV.grow (h : AlV W (Off S) x a) (hG : W.heap.size ≤ G) : AlV W (Off (G :: S)) x a := h.mono fun b hb hq => off_cons hq (by omega)
theorem AlV.fresh (h : AlV W (fun b => Off S b ∨ N ≤ b) x a) (hN : ∀ y ∈ S, y < N) : AlV W (Off S) x a := h.mono fun b _ hq => hq.elim id fun hq y hy => by have := hN y hy; omega
theorem AlV.none (h : AlV W (fun _ => False) x a) : AlV W (Off S) x a := h.mono fun _ _ hq => hq.elim
theorem AlV.store (h : AlV W (Off S) x a) (hG : G ∈ S) (cs : Array Value) : AlV (W.setRow G cs) (Off S) x a := h.keep (by simp) fun _ _ hq => setRow_other _ _ _ _ (hq G hG)
theorem AlV.turn (h : AlV W (Off S) x a) (ht : Turn g W W') (hg : g ∈ S) (hs : W.heap.size ≤ W'.heap.size) : AlV W' (Off S) x a := h.oth ht.2.2 hs fun _ hq => hq g hg
theorem Bytes.grow (h : Bytes W (Off S) v l) (hG : W.heap.size ≤ G) : Bytes W (Off (G :: S)) v l := h.mono fun b hb hq => off_cons hq (by omega)
theorem Bytes.fresh (h : Bytes W (fun b => N ≤ b) v l) (hN : ∀ y ∈ S, y < N) : Bytes W (Off S) v l := h.mono fun b _ hq y hy => by have := hN y hy; omega
theorem Bytes.store (h : Bytes W (Off S) v l) (hG : G ∈ S) (cs : Array Value) : Bytes (W.setRow G cs) (Off S) v l := h.keep fun _ _ hq => setRow_other _ _ _ _ (hq G hG)
theorem Bytes.turn (h : Bytes W (Off S) v l) (ht : Turn g W W') (hg : g ∈ S) : Bytes W' (Off S) v l := h.oth ht.2.2 fun _ hq => hq g hg
end
theorem Turn.size {g : Nat} {w w' : World} (h : Turn g w w') : w.heap.size ≤ w'.heap.size := h.2.1.size
theorem Deck.store {g G : Nat} {w : World} (h : Deck g w) (hG : g < G) (cs : Array Value) : Deck g (w.setRow G cs) := h.below (B := G) (below_setRow (Below.refl _ _) (Nat.le_refl _) _) hG
theorem base_turn {g : Nat} {B : Nat} {w0 w w' : World} (h : Below B w0 w) (ht : Turn g w w') (hg : B ≤ g) : Below B w0 w' := h.trans (ht.2.1.mono hg)
section
variable {w : World} {Q : Nat → Prop} {x : Value} {a : Alg} {K m : List B8}
theorem mac_le (a : Alg) (K m : List B8) : (aMac a K m).1.macs.length ≤ a.macs.length + 1 := by
  unfold aMac
  split
  · exact Nat.zero_le _
  split
  · exact Nat.le_succ _
  split
  · exact Nat.zero_le _
  · show (a.macs ++ [_]).length ≤ _
    rw [List.length_append]; simp
theorem mac_ge {a : Alg} {K m : List B8} (hm : m.length ≤ 4096) (ha : a.macs.length < 1000) : a.macs.length ≤ (aMac a K m).1.macs.length := by
  unfold aMac
  rw [if_neg (by omega)]
  split
  · exact Nat.le_refl _
  rw [if_neg (by omega)]
  show _ ≤ (a.macs ++ [_]).length
  rw [List.length_append]; simp
theorem mac_ok {a : Alg} {K m : List B8} (hm : m.length ≤ 4096) (ha : a.macs.length < 1000) : (aMac a K m).2.2 = 0 := by
  unfold aMac
  rw [if_neg (by omega)]
  split
  · rfl
  · rw [if_neg (by omega)]
theorem key_macs (a : Alg) : (aKey a).1.macs.length ≤ a.macs.length := by
  unfold aKey
  split
  · exact Nat.zero_le _
  · exact Nat.le_refl _
theorem key_ok {a : Alg} (h : a.fresh < 1000) : (aKey a).2.2 = 0 := by
  unfold aKey
  rw [if_neg (by omega)]
theorem AlV.mac_len (h : AlV w Q x a) (K m : List B8) : (aMac a K m).2.1.length = 32 := by
  obtain ⟨_, _, _, _, _, hM, _, _⟩ := h
  unfold aMac
  split
  · exact List.length_replicate
  split
  · rename_i t ht
    unfold fnd at ht
    obtain ⟨e, he, rfl⟩ := Option.map_eq_some_iff.1 ht
    exact hM.tags e (List.mem_of_find?_eq_some he)
  split
  · exact List.length_replicate
  · exact ntag_length _ _ _
theorem AlV.look_len (h : AlV w Q x a) (K m : List B8) : (aLook a K m).1.length = 32 := by
  obtain ⟨_, _, _, _, _, hM, _, _⟩ := h
  unfold aLook
  split
  · split
    · rename_i t ht
      unfold fnd at ht
      obtain ⟨e, he, rfl⟩ := Option.map_eq_some_iff.1 ht
      exact hM.tags e (List.mem_of_find?_eq_some he)
    · exact List.length_replicate
  split
  · exact List.length_replicate
  · exact hmac_length _ _
theorem key_len (a : Alg) : (aKey a).2.1.length = 32 := by
  unfold aKey
  split
  · exact List.length_replicate
  show (if a.free = true then sym 107#8 (a.fresh + 1) else (der a.seed frs (a.fresh + 1)).1).length = 32
  split
  · exact sym_length _ _
  · unfold der
    rw [if_pos frs_ok]
    split
    · exact List.length_replicate
    · exact hmac_length _ _
end
theorem tag_sz {l : List B8} (h : l.length = 32) : (Tryd.prog.info? 23).map (·.size) = some (l.map byt).length := by rw [tagSize, List.length_map, h]
theorem alg_sz (fr : Bool) (sd : List B8) (n : Int) (vm vb : Value) : (Tryd.prog.info? 28).map (·.size) = some (alcl fr sd n vm vb).length := by rw [algSize, alcl_length]
theorem key_free {a : Alg} (h : a.free = true) (hf : a.fresh < 1000) : aKey a = ({ a with fresh := a.fresh + 1 }, sym 107#8 (a.fresh + 1), 0) := by
  unfold aKey
  rw [if_neg (by omega), if_pos h]
theorem sym_ne1 {k k' : B8} {z z' : Int} (h : k ≠ k') : sym k z ≠ sym k' z' := fun e => h (sym_inj e).1
theorem sym_ne2 {k : B8} {z z' : Int} (h : z ≠ z') (h0 : 0 ≤ z) (h1 : z < 100000) (h2 : 0 ≤ z') (h3 : z' < 100000) : sym k z ≠ sym k z' := fun e => by
  have := (sym_inj e).2
  unfold u64n at this
  omega
/-- Tags compared. -/
theorem eql_tag {K L : List B8} {D : Bool} (hK : K.length = 32) (hL : L.length = 32) (h : decide (K = L) = D) (w : World) : (binOp .eql 23 (tagv K) (tagv L)).run Tryd.prog w = .ok (.bool D) w := by rw [run_eql_tag hK hL, h]
theorem neq_tag {K L : List B8} {D : Bool} (hK : K.length = 32) (hL : L.length = 32) (h : (!decide (K = L)) = D) (w : World) : (binOp .neq 23 (tagv K) (tagv L)).run Tryd.prog w = .ok (.bool D) w := by rw [run_neq_tag hK hL, h]
/-- The tag whose first byte is x, and the rest zero. -/
def tg1 (x : B8) : List B8 := x :: List.replicate 31 0
theorem tg1_len (x : B8) : (tg1 x).length = 32 := rfl
set_option maxRecDepth 100000 in
theorem built_tag0 : Tryd.prog.built 23 [] = some (ztag.map byt).toArray := by
  rw [← zeroTag]
  kernel_rfl
set_option maxRecDepth 100000 in
theorem built_tag1 (z : Int) : Tryd.prog.built 23 [(0, .int .u8 z)] = some (Value.int .u8 z :: List.replicate 31 (Value.int .u8 0)).toArray := by kernel_rfl
theorem wpList_build_tag0 {w : World} {ops : Array Oper} {rest : List Oper} {o : Oper} {a : Act} {Q : Exit → Act → World → Prop} (hgd : o.guard = none) (ho : o.op = .build 23 #[])
    (h : wpList Tryd.prog ops Q rest (a.put o.dst (tagv ztag)) w) : wpList Tryd.prog ops Q (o :: rest) a w :=
  wpList_build_as hgd 23 _ ho _ (by simp only [List.map_toArray, List.map_nil]; exact built_tag0) h
theorem wpList_build_tag1 {w : World} {ops : Array Oper} {rest : List Oper} {o : Oper} {a : Act} {Q : Exit → Act → World → Prop} (hgd : o.guard = none) (x : Operand) (ho : o.op = .build 23 #[(0, x)])
    {z : Int} (b : B8) (hb : Value.int .u8 z = byt b) (hx : a.eval x = .int .u8 z) (h : wpList Tryd.prog ops Q rest (a.put o.dst (tagv (tg1 b))) w) : wpList Tryd.prog ops Q (o :: rest) a w := by
  refine wpList_build_as hgd 23 _ ho _ ?_ h
  have e : (#[(0, x)].map fun (i, x) => (i, a.eval x)).toList = [(0, byt b)] := by simp [hx, hb]
  rw [e]
  unfold byt
  rw [built_tag1]
  unfold tg1
  rw [List.map_cons, List.map_replicate]
  rw [bv_zero]
/-- One constant byte, converted. -/
theorem one_const (W : World) (x : B8) (z : Int) (hz : Value.int .u8 z = byt x) : Bytes (W.alloc (.cells #[.int .u8 z] 5 (1, 2))) (fun b => W.heap.size ≤ b) (.slice (some ⟨W.heap.size, 0, none⟩) 1 1) [x] :=
  (own_const W W.heap.size (Nat.le_refl _) [x] #[.int .u8 z] 1 (by rw [hz]; rfl) rfl (by omega)).bytes
theorem below_mark (W : World) (cs : Array Value) (t : TypeId) (fr : Nat × Nat) : Below W.heap.size W (W.alloc (.cells cs t fr)) := (Below.refl _ _).alloc (Nat.le_refl _) _
theorem byt1 : Value.int .u8 1 = byt 1#8 := (byt_lit 1 (by omega)).symm
theorem byt2 : Value.int .u8 2 = byt 2#8 := (byt_lit 2 (by omega)).symm
theorem byt120 : Value.int .u8 120 = byt 120#8 := (byt_lit 120 (by omega)).symm
theorem byt121 : Value.int .u8 121 = byt 121#8 := (byt_lit 121 (by omega)).symm
/-- One byte in a block of its own. -/
theorem bytes_here (w : World) (x : B8) : Bytes (w.alloc (.cells #[byt x] 5)) (fun b => w.heap.size ≤ b) (.slice (some ⟨w.heap.size, 0, none⟩) 1 1) [x] := Bytes.of_own (l := [x]) (own_lit w w.heap.size [x] (Nat.le_refl _) (by simp))
end Go.Proofs.YteglmfimgdgchaaDoor
namespace Go.Proofs.YteglmfimgdgchaaDoor
open Go Go.RowKit Sh Leaf

set_option linter.unusedSimpArgs false in
set_option maxRecDepth 100000 in
set_option maxHeartbeats 4000000 in
theorem pkey {w : World} {Q : Nat → Prop} {x : Value} {a : Alg} (hx : AlV w Q x a) (hT : Tables w) :
    Calls Tryd.prog 15 #[x] w fun e w' => AlgR w' Q e (aKey a) ∧ Below w.heap.size w w' := by
  obtain ⟨Am, cm, Ab, cb, rfl, hM, hBx, hA⟩ := hx
  obtain ⟨p, hp⟩ : ∃ p, p = ((w.alloc (.cells (alc a.free a.seed a.fresh (.slice Am a.macs.length cm) (.slice Ab a.boxes.length cb)) 28)).alloc (.cells zar 28)).alloc (.cells ztr 23) := ⟨_, rfl⟩
  have hr : ALRow p w.heap.size a.free a.seed a.fresh (.slice Am a.macs.length cm) (.slice Ab a.boxes.length cb) := by rw [hp]; exact ((Whole.here _ _ _).alloc _).alloc _
  have h1 : Whole p (w.heap.size + 1) 28 zar := by rw [hp]; exact (Whole.at_ _ _ _ _ (by simp)).alloc _
  have h2 : Whole p (w.heap.size + 1 + 1) 23 ztr := by rw [hp]; exact Whole.at_ _ _ _ _ (by simp)
  have hb : Below w.heap.size w p := by rw [hp]; exact (((Below.refl _ _).alloc (Nat.le_refl _) _).alloc (by simp) _).alloc (by simp; omega) _
  have hps : w.heap.size + 1 + 1 < p.heap.size := h2.lt
  have hfl := hA.lo
  have hfh := hA.hi
  obtain ⟨fr, hfr⟩ : ∃ f, f = a.fresh := ⟨_, rfl⟩
  rw [← hfr] at hr hp hfl hfh ⊢
  obtain ⟨c0, c33, c34, c35⟩ := ALRow.cells hr
  have HM := Lib.hid hM
  have HBX := Lib.hid hBx
  have HR := Lib.hid hr
  have H1 := Lib.hid h1
  have H2 := Lib.hid h2
  have HB := Lib.hid hb
  have HA := Lib.hid hA
  have HFR := Lib.hid hfr
  have hf33 := ALRow.frees hr 33
  clear hM hBx hr h1 h2 hb hA hfr
  go_enter Tryd.func15, Tryd.ntmps15
  go_upto_region 1 with fail
  rw [zar_lit, ztr_lit, ← hp]
  clear hp
  by_cases hbig : (65536 : Int) ≤ fr
  · skip
    have HK : Hid (aKey a = (zalg, ztag, 2)) := Lib.hid (by unfold aKey; rw [if_pos (by rw [← HFR.out]; exact hbig)])
    go_wp2_with (first
      | (with_reducible refine wpList_store_alg rfl _ _ rfl (g := w.heap.size + 1) rfl rfl H1.out zar_size rfl (by with_unfolding_all rfl) ?_)
      | (with_reducible refine wpList_store_tag rfl _ _ rfl (g := w.heap.size + 1 + 1) rfl rfl (Whole.setRow_far H2.out (by omega) _) ztr_size rfl (by with_unfolding_all rfl) ?_))
    rw [zar_lit, ztr_lit]
    have e1 := Whole.setRow_far (Whole.setRow H1.out zar) (g' := w.heap.size + 1 + 1) (by omega) ztr
    have e2 := Whole.setRow (Whole.setRow_far H2.out (g' := w.heap.size + 1) (by omega) zar) ztr
    refine bodyPost_ret (results_alg3 Tryd.results15 _ rfl rfl _ rfl zar_size ztr_size e1 e2) rfl ?_
    show AlgR _ Q _ (aKey a) ∧ _
    rw [HK.out]
    exact ⟨⟨_, by rw [ztr_eq]; rfl, alv_zero _ _⟩, below_setRow (below_setRow HB.out (by omega) _) (by omega) _⟩
  have hw1 : IntKind.i64.wrap (fr + 1) = fr + 1 := by rw [IntKind.wrap_i64]; omega
  have HK : Hid (aKey a = ({ a with fresh := fr + 1 }, if a.free = true then sym 107#8 (fr + 1) else (der a.seed frs (fr + 1)).1, 0)) := Lib.hid (by unfold aKey; rw [HFR.out, if_neg (by rw [← HFR.out]; exact hbig)])
  obtain ⟨F, hF⟩ : ∃ f, f = a.free := ⟨_, rfl⟩
  have HFF := Lib.hid hF
  rw [← hF] at c0
  go_upto_region 4 with fail
  obtain ⟨q, hq⟩ : ∃ q, q = p.setCell ⟨w.heap.size, 33, none⟩ (.int .i64 (fr + 1)) := ⟨_, rfl⟩
  have hr : ALRow q w.heap.size a.free a.seed (fr + 1) (.slice Am a.macs.length cm) (.slice Ab a.boxes.length cb) := by rw [hq]; exact ALRow.set33 HR.out _
  have h1 : Whole q (w.heap.size + 1) 28 zar := by rw [hq]; exact Whole.far H1.out (by show w.heap.size + 1 ≠ w.heap.size; omega) _
  have h2 : Whole q (w.heap.size + 1 + 1) 23 ztr := by rw [hq]; exact Whole.far H2.out (by show w.heap.size + 1 + 1 ≠ w.heap.size; omega) _
  have hb : Below w.heap.size w q := by rw [hq]; exact HB.out.setCell (p := ⟨w.heap.size, 33, none⟩) (Nat.le_refl _) _
  rw [← hq]
  have hqs : w.heap.size + 1 + 1 < q.heap.size := h2.lt
  clear hq hf33 c0 c33 c34 c35 hps HR H1 H2 HB
  rw [← hF] at hr
  have HR := Lib.hid hr
  have H1 := Lib.hid h1
  have H2 := Lib.hid h2
  have HB := Lib.hid hb
  obtain ⟨c0, c33, c34, c35⟩ := ALRow.cells hr
  have hsd := ALRow.seed hr HA.out.seed
  clear hr h1 h2 hb hF
  cases F
  rotate_left
  · skip
    obtain ⟨E, hE⟩ : ∃ E, E = sym 107#8 (fr + 1) := ⟨_, rfl⟩
    have hEl : E.length = 32 := by rw [hE]; exact sym_length _ _
    have HE := Lib.hid hE
    have hcc : ∀ W, Below q.heap.size q W → (fun W => W.rangeAt w.heap.size 0 (alcl true a.seed (fr + 1) (.slice Am a.macs.length cm) (.slice Ab a.boxes.length cb)) ∧ W.cell? ⟨w.heap.size, 33, none⟩ = some (.int .i64 (fr + 1))) W := fun W hb => (fun h => ⟨Whole.range h, (ALRow.cells h).2.1⟩) (Whole.below HR.out hb (by omega))
    have HCC := Lib.hid hcc
    clear hcc hE hsd c33 c34 c35
    go_upto_region 5 with fail
    clear c0
    refine wp_region_held_drew (S := fun W => W.rangeAt w.heap.size 0 (alcl true a.seed (fr + 1) (.slice Am a.macs.length cm) (.slice Ab a.boxes.length cb)) ∧ W.cell? ⟨w.heap.size, 33, none⟩ = some (.int .i64 (fr + 1))) (by kernel_rfl) (HCC.out _ (Below.drew (Below.refl _ _))) (fun hHeld => ?_)
    apply wpAnyH_take (i := 0) rfl (by kernel_rfl) (by kernel_rfl) (by kernel_rfl)
    case hQ => exact fun _ _ _ h => h
    case hS => exact hHeld
    case hy => exact yieldsIf_load_mid (by rfl) 28 _ rfl w.heap.size (0) rfl (alcl true a.seed (fr + 1) (.slice Am a.macs.length cm) (.slice Ab a.boxes.length cb)) _ (fun w hS => hS.1) Tryd.underlying28 rfl (by rw [algSize, alcl_length])
    (try simp only [List.getElem_toArray, List.getElem_cons_zero, Act.put, List.setIfInBounds_toArray, List.set_cons_zero, List.set_cons_succ])
    apply wpAnyH_take (i := 1) rfl (by kernel_rfl) (by kernel_rfl) (by kernel_rfl)
    case hQ => exact fun _ _ _ h => h
    case hS => exact hHeld
    case hy => (refine Or.inl ⟨by rfl, ?_⟩; intro w hSw; (try go_split_ands); go_simp; (try with_reducible rfl))
    (try simp only [List.getElem_toArray, List.getElem_cons_succ, List.getElem_cons_zero, Act.put, List.setIfInBounds_toArray, List.set_cons_zero, List.set_cons_succ])
    apply wpAnyH_take (i := 2) rfl (by kernel_rfl) (by kernel_rfl) (by kernel_rfl)
    case hQ => exact fun _ _ _ h => h
    case hS => exact hHeld
    case hy => (refine Or.inl ⟨by rfl, ?_⟩; intro w hSw; (try go_split_ands); go_simp; (try with_reducible rfl))
    (try simp only [List.getElem_toArray, List.getElem_cons_succ, List.getElem_cons_zero, Act.put, List.setIfInBounds_toArray, List.set_cons_zero, List.set_cons_succ])
    refine wpAnyH_ready (rs := [3]) (by kernel_rfl) (by simp) ?_
    refine AllReadyH.cons rfl (fun KK hKK => ?_) AllReadyH.nil
    (try simp only [List.getElem_toArray, List.getElem_cons_succ, List.getElem_cons_zero])
    go_simp
    go_at_call 20
    have hsy := symbol 107#8 (fr + 1) q.drew
    rw [bv107, ← HE.out] at hsy
    refine hsy.mono ?_
    rintro e w1 ⟨rfl, hw1⟩
    have b1 : Below q.heap.size q w1 := ((Below.refl _ _).drew).trans hw1
    have hs1 : ALRow w1 w.heap.size true a.seed (fr + 1) (.slice Am a.macs.length cm) (.slice Ab a.boxes.length cb) := Whole.below HR.out b1 (by omega)
    have h11 := Whole.below H1.out b1 (by omega)
    have h21 := Whole.below H2.out b1 (by omega)
    have bb1 : Below w.heap.size w w1 := HB.out.trans (b1.mono (by omega))
    clear hsy
    refine hKK.out _ _ (HCC.out _ b1) (fun hHeld => ?_)
    clear hKK KK
    (try simp only [List.getElem_toArray, List.getElem_cons_succ, List.getElem_cons_zero, Act.put, List.setIfInBounds_toArray, List.set_cons_zero, List.set_cons_succ])
    refine wpAnyH_ready (rs := [4]) (by kernel_rfl) (by simp) ?_
    refine AllReadyH.cons rfl (fun KK hKK => ?_) AllReadyH.nil
    (try simp only [List.getElem_toArray, List.getElem_cons_succ, List.getElem_cons_zero])
    obtain ⟨X2, hX2⟩ : ∃ x, x = w1.setRow (w.heap.size + 1) ((alcl true a.seed (fr + 1) (.slice Am a.macs.length cm) (.slice Ab a.boxes.length cb)).toArray) := ⟨_, rfl⟩
    have hsX2 : ALRow X2 w.heap.size true a.seed (fr + 1) (.slice Am a.macs.length cm) (.slice Ab a.boxes.length cb) := by rw [hX2]; exact Whole.setRow_far hs1 (by omega) _
    have e1 : Whole X2 (w.heap.size + 1) 28 (alc true a.seed (fr + 1) (.slice Am a.macs.length cm) (.slice Ab a.boxes.length cb)) := by rw [hX2]; exact Whole.setRow h11 _
    have h2X2 : Whole X2 (w.heap.size + 1 + 1) 23 ztr := by rw [hX2]; exact Whole.setRow_far h21 (by omega) _
    have bbX2 : Below w.heap.size w X2 := by rw [hX2]; exact below_setRow bb1 (by omega) _
    rw [if_pos (by kernel_rfl)]
    refine wp_store_row 28 _ _ rfl (w.heap.size + 1) _ rfl rfl 28 _ h11 (by rw [algSize, List.size_toArray, alcl_length]) (by rw [zar_size, List.size_toArray, alcl_length]) (alc_one _ _ _ _ _ _ _ _ _) ?_
    rw [← hX2]
    clear hX2
    refine hKK.out _ _ (⟨Whole.range hsX2, (ALRow.cells hsX2).2.1⟩) (fun hHeld => ?_)
    clear hKK KK
    (try simp only [List.getElem_toArray, List.getElem_cons_succ, List.getElem_cons_zero, Act.put, List.setIfInBounds_toArray, List.set_cons_zero, List.set_cons_succ])
    refine wpAnyH_ready (rs := [5]) (by kernel_rfl) (by simp) ?_
    refine AllReadyH.cons rfl (fun KK hKK => ?_) AllReadyH.nil
    (try simp only [List.getElem_toArray, List.getElem_cons_succ, List.getElem_cons_zero])
    have e1o := e1
    clear e1
    obtain ⟨X3, hX3⟩ : ∃ x, x = X2.setRow (w.heap.size + 1 + 1) (((E).map byt).toArray) := ⟨_, rfl⟩
    have hsX3 : ALRow X3 w.heap.size true a.seed (fr + 1) (.slice Am a.macs.length cm) (.slice Ab a.boxes.length cb) := by rw [hX3]; exact Whole.setRow_far hsX2 (by omega) _
    have e1 : Whole X3 (w.heap.size + 1) 28 (alc true a.seed (fr + 1) (.slice Am a.macs.length cm) (.slice Ab a.boxes.length cb)) := by rw [hX3]; exact Whole.setRow_far e1o (by omega) _
    have e2 : TGRow X3 (w.heap.size + 1 + 1) (E) := by rw [hX3]; exact Whole.setRow h2X2 _
    have bbX3 : Below w.heap.size w X3 := by rw [hX3]; exact below_setRow bbX2 (by omega) _
    rw [if_pos (by kernel_rfl)]
    refine wp_store_row 23 _ _ rfl (w.heap.size + 1 + 1) _ rfl rfl 23 _ h2X2 (by rw [tagSize, tag_size (hEl)]) (by rw [ztr_size, tag_size (hEl)]) (tag_one _) ?_
    rw [← hX3]
    clear hX3
    refine hKK.out _ _ (⟨Whole.range hsX3, (ALRow.cells hsX3).2.1⟩) (fun hHeld => ?_)
    clear hKK KK
    (try simp only [List.getElem_toArray, List.getElem_cons_succ, List.getElem_cons_zero, Act.put, List.setIfInBounds_toArray, List.set_cons_zero, List.set_cons_succ])
    apply wpAnyH_take (i := 6) rfl (by kernel_rfl) (by kernel_rfl) (by kernel_rfl)
    case hQ => exact fun _ _ _ h => h
    case hS => exact hHeld
    case hy => (refine Or.inl ⟨by rfl, ?_⟩; intro w hSw; (try go_split_ands); go_simp; (try with_reducible rfl))
    (try simp only [List.getElem_toArray, List.getElem_cons_succ, List.getElem_cons_zero, Act.put, List.setIfInBounds_toArray, List.set_cons_zero, List.set_cons_succ])
    refine wpAnyH_done (by kernel_rfl) ?_ _
    go_wp2_with fail
    have hbf := bbX3
    refine bodyPost_ret (results_alg3 Tryd.results15 _ rfl rfl _ rfl (alc_size _ _ _ _ _) (tag_size (hEl)) e1 e2) rfl ?_
    show AlgR _ Q _ (aKey a) ∧ _
    rw [HK.out, if_pos HFF.out.symm, ← HE.out]
    refine ⟨⟨_, rfl, ?_⟩, hbf⟩
    exact ⟨Am, cm, Ab, cb, by rw [← HFF.out], HM.out.below hbf (Nat.le_refl _), HBX.out.below hbf (Nat.le_refl _), ⟨HA.out.seed, by show 0 ≤ fr + 1; omega, by show fr + 1 ≤ 100000; omega, HA.out.macs, HA.out.boxes⟩⟩
  · skip
    have hder := der_frs (K := a.seed) (z := fr + 1) (by omega) (by omega)
    obtain ⟨E, hE⟩ : ∃ E, E = hmac a.seed (purp frs (fr + 1).toNat) := ⟨_, rfl⟩
    have hEl : E.length = 32 := by rw [hE]; exact hmac_length _ _
    have hde : der a.seed frs (fr + 1) = (E, 0) := by rw [hder.2, hE]
    have hcl := derive a.seed HA.out.seed frs (by decide) (fr + 1) q (hT.below (Nat.le_refl _) HB.out)
    rw [hde] at hcl
    have HDE := Lib.hid hde
    have hsl : (a.seed.map byt).length = 32 := by rw [List.length_map]; exact HA.out.seed
    clear hder hE hde
    go_wp2_with (first
      | (with_reducible refine wpList_load_mid rfl 23 _ rfl w.heap.size 1 rfl _ _ hsd Tryd.underlying23 rfl (by rw [tagSize, hsl]) ?_))
    refine hcl.mono ?_
    rintro e w1 ⟨rfl, hw1⟩
    have hs1 : ALRow w1 w.heap.size false a.seed (fr + 1) (.slice Am a.macs.length cm) (.slice Ab a.boxes.length cb) := Whole.below HR.out hw1 (by omega)
    have h11 := Whole.below H1.out hw1 (by omega)
    have h21 := Whole.below H2.out hw1 (by omega)
    have bb1 : Below w.heap.size w w1 := HB.out.trans (hw1.mono (by omega))
    have hws : q.heap.size ≤ w1.heap.size := hw1.size
    have HS1 := Lib.hid hs1
    have H11 := Lib.hid h11
    have H21 := Lib.hid h21
    have BB1 := Lib.hid bb1
    clear hcl hw1 hs1 h11 h21 bb1 hsd c0 c33 c34 c35 HR H1 H2 HB
    go_wp2_with (first
      | (with_reducible refine wpList_store_tag rfl _ _ rfl (g := w1.heap.size) rfl rfl (Whole.here w1 _ _) rfl (tag_size hEl) (tag_one _) ?_))
    rw [ztr_lit]
    obtain ⟨u, hu⟩ : ∃ x, x = (w1.alloc (.cells ztr 23)).setRow w1.heap.size (E.map byt).toArray := ⟨_, rfl⟩
    have ht : TGRow u w1.heap.size E := by rw [hu]; exact Whole.setRow (Whole.here _ _ _) _
    have hbu : Below w1.heap.size w1 u := by rw [hu]; exact below_setRow ((Below.refl _ _).alloc (Nat.le_refl _) _) (Nat.le_refl _) _
    rw [← hu]
    clear hu
    have hws2 : w1.heap.size < u.heap.size := ht.lt
    have hru : ALRow u.drew w.heap.size false a.seed (fr + 1) (.slice Am a.macs.length cm) (.slice Ab a.boxes.length cb) := Whole.drew (Whole.below HS1.out hbu (by omega))
    have h1u := Whole.drew (Whole.below H11.out hbu (by omega))
    have h2u := Whole.drew (Whole.below H21.out hbu (by omega))
    have htd : TGRow u.drew w1.heap.size E := Whole.drew ht
    have bbu : Below w.heap.size w u.drew := (BB1.out.trans (hbu.mono (by omega))).drew
    refine wp_region_held_drew (S := fun W => W.rangeAt w.heap.size 0 (alcl false a.seed (fr + 1) (.slice Am a.macs.length cm) (.slice Ab a.boxes.length cb)) ∧ W.rangeAt w1.heap.size 0 (E.map byt)) (by kernel_rfl) (⟨Whole.range hru, TGRow.range htd⟩) (fun hHeld => ?_)
    apply wpAnyH_take (i := 0) rfl (by kernel_rfl) (by kernel_rfl) (by kernel_rfl)
    case hQ => exact fun _ _ _ h => h
    case hS => exact hHeld
    case hy => exact yieldsIf_load_mid (by rfl) 28 _ rfl w.heap.size (0) rfl (alcl false a.seed (fr + 1) (.slice Am a.macs.length cm) (.slice Ab a.boxes.length cb)) _ (fun w hS => hS.1) Tryd.underlying28 rfl (by rw [algSize, alcl_length])
    (try simp only [List.getElem_toArray, List.getElem_cons_zero, Act.put, List.setIfInBounds_toArray, List.set_cons_zero, List.set_cons_succ])
    apply wpAnyH_take (i := 1) rfl (by kernel_rfl) (by kernel_rfl) (by kernel_rfl)
    case hQ => exact fun _ _ _ h => h
    case hS => exact hHeld
    case hy => exact yieldsIf_load_mid (by rfl) 23 _ rfl w1.heap.size (0) rfl (E.map byt) _ (fun w hS => hS.2) Tryd.underlying23 rfl (by rw [tagSize, List.length_map, hEl])
    (try simp only [List.getElem_toArray, List.getElem_cons_succ, List.getElem_cons_zero, Act.put, List.setIfInBounds_toArray, List.set_cons_zero, List.set_cons_succ])
    refine wpAnyH_ready (rs := [2]) (by kernel_rfl) (by simp) ?_
    refine AllReadyH.cons rfl (fun KK hKK => ?_) AllReadyH.nil
    (try simp only [List.getElem_toArray, List.getElem_cons_succ, List.getElem_cons_zero])
    obtain ⟨X1, hX1⟩ : ∃ x, x = u.drew.setRow (w.heap.size + 1) ((alcl false a.seed (fr + 1) (.slice Am a.macs.length cm) (.slice Ab a.boxes.length cb)).toArray) := ⟨_, rfl⟩
    have hsX1 : ALRow X1 w.heap.size false a.seed (fr + 1) (.slice Am a.macs.length cm) (.slice Ab a.boxes.length cb) := by rw [hX1]; exact Whole.setRow_far hru (by omega) _
    have e1 : Whole X1 (w.heap.size + 1) 28 (alc false a.seed (fr + 1) (.slice Am a.macs.length cm) (.slice Ab a.boxes.length cb)) := by rw [hX1]; exact Whole.setRow h1u _
    have h2X1 : Whole X1 (w.heap.size + 1 + 1) 23 ztr := by rw [hX1]; exact Whole.setRow_far h2u (by omega) _
    have bbX1 : Below w.heap.size w X1 := by rw [hX1]; exact below_setRow bbu (by omega) _
    have htX1 : TGRow X1 w1.heap.size (E) := by rw [hX1]; exact Whole.setRow_far htd (by omega) _
    rw [if_pos (by kernel_rfl)]
    refine wp_store_row 28 _ _ rfl (w.heap.size + 1) _ rfl rfl 28 _ h1u (by rw [algSize, List.size_toArray, alcl_length]) (by rw [zar_size, List.size_toArray, alcl_length]) (alc_one _ _ _ _ _ _ _ _ _) ?_
    rw [← hX1]
    clear hX1
    refine hKK.out _ _ (⟨Whole.range hsX1, TGRow.range htX1⟩) (fun hHeld => ?_)
    clear hKK KK
    (try simp only [List.getElem_toArray, List.getElem_cons_succ, List.getElem_cons_zero, Act.put, List.setIfInBounds_toArray, List.set_cons_zero, List.set_cons_succ])
    refine wpAnyH_ready (rs := [3]) (by kernel_rfl) (by simp) ?_
    refine AllReadyH.cons rfl (fun KK hKK => ?_) AllReadyH.nil
    (try simp only [List.getElem_toArray, List.getElem_cons_succ, List.getElem_cons_zero])
    have e1o := e1
    clear e1
    obtain ⟨X2, hX2⟩ : ∃ x, x = X1.setRow (w.heap.size + 1 + 1) (((E).map byt).toArray) := ⟨_, rfl⟩
    have hsX2 : ALRow X2 w.heap.size false a.seed (fr + 1) (.slice Am a.macs.length cm) (.slice Ab a.boxes.length cb) := by rw [hX2]; exact Whole.setRow_far hsX1 (by omega) _
    have e1 : Whole X2 (w.heap.size + 1) 28 (alc false a.seed (fr + 1) (.slice Am a.macs.length cm) (.slice Ab a.boxes.length cb)) := by rw [hX2]; exact Whole.setRow_far e1o (by omega) _
    have e2 : TGRow X2 (w.heap.size + 1 + 1) (E) := by rw [hX2]; exact Whole.setRow h2X1 _
    have bbX2 : Below w.heap.size w X2 := by rw [hX2]; exact below_setRow bbX1 (by omega) _
    have htX2 : TGRow X2 w1.heap.size (E) := by rw [hX2]; exact Whole.setRow_far htX1 (by omega) _
    rw [if_pos (by kernel_rfl)]
    refine wp_store_row 23 _ _ rfl (w.heap.size + 1 + 1) _ rfl rfl 23 _ h2X1 (by rw [tagSize, tag_size (hEl)]) (by rw [ztr_size, tag_size (hEl)]) (tag_one _) ?_
    rw [← hX2]
    clear hX2
    refine hKK.out _ _ (⟨Whole.range hsX2, TGRow.range htX2⟩) (fun hHeld => ?_)
    clear hKK KK
    (try simp only [List.getElem_toArray, List.getElem_cons_succ, List.getElem_cons_zero, Act.put, List.setIfInBounds_toArray, List.set_cons_zero, List.set_cons_succ])
    apply wpAnyH_take (i := 4) rfl (by kernel_rfl) (by kernel_rfl) (by kernel_rfl)
    case hQ => exact fun _ _ _ h => h
    case hS => exact hHeld
    case hy => (refine Or.inl ⟨by rfl, ?_⟩; intro w hSw; (try go_split_ands); go_simp; (try with_reducible rfl))
    (try simp only [List.getElem_toArray, List.getElem_cons_succ, List.getElem_cons_zero, Act.put, List.setIfInBounds_toArray, List.set_cons_zero, List.set_cons_succ])
    refine wpAnyH_done (by kernel_rfl) ?_ _
    go_wp2_with fail
    have hbf := bbX2
    refine bodyPost_ret (results_alg3 Tryd.results15 _ rfl rfl _ rfl (alc_size _ _ _ _ _) (tag_size (hEl)) e1 e2) rfl ?_
    show AlgR _ Q _ (aKey a) ∧ _
    rw [HK.out, if_neg (by rw [← HFF.out]; exact Bool.false_ne_true), HDE.out]
    refine ⟨⟨_, rfl, ?_⟩, hbf⟩
    exact ⟨Am, cm, Ab, cb, by rw [← HFF.out], HM.out.below hbf (Nat.le_refl _), HBX.out.below hbf (Nat.le_refl _), ⟨HA.out.seed, by show 0 ≤ fr + 1; omega, by show fr + 1 ≤ 100000; omega, HA.out.macs, HA.out.boxes⟩⟩
end Go.Proofs.YteglmfimgdgchaaDoor
namespace Go.Proofs.YteglmfimgdgchaaDoor
open Go Go.RowKit Sh Leaf
/-- What the free algebra of the law answers. -/
theorem free_all {a b c d f h i : Alg} {K L J T U N X Y : List B8} {ek el et eu en : Int} (hb : b = ⟨true, a.seed, 0, [], []⟩) (h1 : (c, K, ek) = aKey b) (h2 : (d, L, el) = aKey c) (h3 : (f, T, et) = aMac d K X) (h4 : (h, U, eu) = aMac f J Y) (h5 : (i, N, en) = aKey h) (hX : X.length ≤ 200) (hY : Y.length ≤ 200) :
    (et = 0 ∧ eu = 0 ∧ en = 0) ∧ decide (T = U) = decide (K = J ∧ X = Y) ∧ (!decide (T = K)) = true ∧ (!decide (T = L)) = true ∧ (!decide (U = K)) = true ∧ (!decide (U = L)) = true ∧ (!decide (N = K)) = true ∧ (!decide (N = T)) = true ∧ (!decide (N = U)) = true := by
  subst hb
  rw [key_free rfl (by show (0 : Int) < 1000; omega)] at h1
  injection h1 with h1 e1; injection e1 with e1 e2
  subst h1 e1 e2
  rw [key_free rfl (by show (0 : Int) + 1 < 1000; omega)] at h2
  injection h2 with h2 e1; injection e1 with e1 e2
  subst h2 e1 e2
  simp only at h3
  have e3 : aMac ⟨true, a.seed, 0 + 1 + 1, [], []⟩ (sym 107#8 (0 + 1)) X = (⟨true, a.seed, 0 + 1 + 1, [⟨sym 107#8 (0 + 1), X, sym 109#8 1⟩], []⟩, sym 109#8 1, 0) := by
    unfold aMac
    rw [if_neg (by omega)]
    rfl
  rw [e3] at h3
  injection h3 with h3 e1; injection e1 with e1 e2
  subst h3 e1 e2
  by_cases hj : sym 107#8 (0 + 1) = J ∧ X = Y
  · have e4 : aMac ⟨true, a.seed, 0 + 1 + 1, [⟨sym 107#8 (0 + 1), X, sym 109#8 1⟩], []⟩ J Y = (⟨true, a.seed, 0 + 1 + 1, [⟨sym 107#8 (0 + 1), X, sym 109#8 1⟩], []⟩, sym 109#8 1, 0) := by
      unfold aMac
      rw [if_neg (by omega)]
      have : fnd [(⟨sym 107#8 (0 + 1), X, sym 109#8 1⟩ : Me)] J Y = some (sym 109#8 1) := by unfold fnd; simp only [List.find?_cons, decide_eq_true hj]; rfl
      simp only [this]
    rw [e4] at h4
    injection h4 with h4 e1; injection e1 with e1 e2
    subst h4 e1 e2
    rw [key_free rfl (by show (0 : Int) + 1 + 1 < 1000; omega)] at h5
    injection h5 with h5 e1; injection e1 with e1 e2
    subst e1 e2
    rw [decide_eq_true hj]
    simp only [Bool.not_eq_true', decide_eq_false_iff_not]
    exact ⟨⟨trivial, trivial, trivial⟩, decide_eq_true trivial, sym_ne1 (by decide), sym_ne1 (by decide), sym_ne1 (by decide), sym_ne1 (by decide), sym_ne2 (by decide) (by decide) (by decide) (by decide) (by decide), sym_ne1 (by decide), sym_ne1 (by decide)⟩
  · have e4 : aMac ⟨true, a.seed, 0 + 1 + 1, [⟨sym 107#8 (0 + 1), X, sym 109#8 1⟩], []⟩ J Y = (⟨true, a.seed, 0 + 1 + 1, [⟨sym 107#8 (0 + 1), X, sym 109#8 1⟩, ⟨J, Y, sym 109#8 2⟩], []⟩, sym 109#8 2, 0) := by
      unfold aMac
      rw [if_neg (by omega)]
      have : fnd [(⟨sym 107#8 (0 + 1), X, sym 109#8 1⟩ : Me)] J Y = none := by unfold fnd; simp only [List.find?_cons, decide_eq_false hj]; rfl
      simp only [this]
      rfl
    rw [e4] at h4
    injection h4 with h4 e1; injection e1 with e1 e2
    subst h4 e1 e2
    rw [key_free rfl (by show (0 : Int) + 1 + 1 < 1000; omega)] at h5
    injection h5 with h5 e1; injection e1 with e1 e2
    subst e1 e2
    rw [decide_eq_false hj]
    simp only [Bool.not_eq_true', decide_eq_false_iff_not]
    exact ⟨⟨trivial, trivial, trivial⟩, sym_ne2 (by decide) (by decide) (by decide) (by decide) (by decide), sym_ne1 (by decide), sym_ne1 (by decide), sym_ne1 (by decide), sym_ne1 (by decide), sym_ne2 (by decide) (by decide) (by decide) (by decide) (by decide), sym_ne1 (by decide), sym_ne1 (by decide)⟩
theorem free_two {a b c d : Alg} {K L : List B8} {ek el : Int} (hb : b = ⟨true, a.seed, 0, [], []⟩) (h1 : (c, K, ek) = aKey b) (h2 : (d, L, el) = aKey c) : ek = 0 ∧ el = 0 ∧ decide (K = L) = false ∧ d.macs.length = 0 := by
  subst hb
  rw [key_free rfl (by show (0 : Int) < 1000; omega)] at h1
  injection h1 with h1 e1; injection e1 with e1 e2
  subst h1 e1 e2
  rw [key_free rfl (by show (0 : Int) + 1 < 1000; omega)] at h2
  injection h2 with h2 e1; injection e1 with e1 e2
  subst h2 e1 e2
  exact ⟨rfl, rfl, decide_eq_false (show sym 107#8 (0 + 1) ≠ sym 107#8 (0 + 1 + 1) from sym_ne2 (by decide) (by decide) (by decide) (by decide) (by decide)), rfl⟩
end Go.Proofs.YteglmfimgdgchaaDoor
