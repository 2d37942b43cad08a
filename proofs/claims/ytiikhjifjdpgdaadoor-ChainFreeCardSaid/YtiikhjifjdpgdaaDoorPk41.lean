/-
  CavEnc
-/
import Derived.Deep.CutBlock
import Derived.Test.YtiikhjifjdpgdaaDoorPk38
import Derived.Test.YtiikhjifjdpgdaaDoorPk40
import Derived.Test.YtiikhjifjdpgdaaDoorPk4
import Derived.Test.YtiikhjifjdpgdaaDoorPk3
namespace Go.Proofs.YtiikhjifjdpgdaaDoor
open Go Go.RowKit Sh Leaf

theorem elem_of {w : World} {Q : Nat → Prop} {v : Value} {l : List B8} (h : Bytes w Q v l) : Elem w w.heap.size v l := h.mono fun _ hb _ => .inl hb
theorem lists_two {w : World} {Q Q' : Nat → Prop} {A1 A2 : Option Addr} {c1 c2 : Nat} {x y : List B8} (hx : Bytes w Q (.slice A1 x.length c1) x) (hy : Bytes w Q' (.slice A2 y.length c2) y) :
    Lists (w.alloc (.cells #[.slice A1 x.length c1, .slice A2 y.length c2] 23)) (.slice (some ⟨w.heap.size, 0, none⟩) 2 2) [x, y] := by
  have he0 : Each w w.heap.size [.slice A1 x.length c1, .slice A2 y.length c2] [x, y] := ((Each.nil _ _).snoc (elem_of hx)).snoc (elem_of hy)
  have hb0 : Below w.heap.size w (w.alloc (.cells #[.slice A1 x.length c1, .slice A2 y.length c2] 23)) := (Below.refl _ _).alloc (Nat.le_refl _) _
  exact Lists.of_own (us := [.slice A1 x.length c1, .slice A2 y.length c2]) (base := w.heap.size) ⟨by simp, .inr ⟨w.heap.size, 2, #[.slice A1 x.length c1, .slice A2 y.length c2], rfl, Nat.le_refl _, heap_alloc_new w _, Nat.le_refl _, by unfold maxLen; omega, by simp, by simp⟩⟩ (he0.keep hb0 (Kb.alloc _ _))
set_option linter.unusedSimpArgs false in
set_option linter.unusedVariables false in
set_option maxRecDepth 100000 in
set_option maxHeartbeats 4000000 in
theorem cencode {w : World} {Q : Nat → Prop} {v : Value} {c : Cav} (h : CavV w Q v c) :
    Calls Tryd.prog 85 #[v] w fun e w' => ∃ v', e = .returned (.tuple #[v', .int .i64 ((ce c).2 : Int)]) ∧ Bytes w' (fun g => w.heap.size ≤ g) v' (ce c).1 ∧ Below w.heap.size w w' := by
  have hV := h
  obtain ⟨th, fi, pa, ti, bo⟩ := c
  obtain ⟨A1, c1, A2, c2, rfl, hB1, hB2, hm, hn, hl1, hl2⟩ := h
  dsimp only at hB1 hB2 hm hn hl1 hl2 hV ⊢
  obtain ⟨p, hp⟩ : ∃ p, p = w.alloc (.cells (cvrow th fi pa (.slice A1 ti.length c1) (.slice A2 bo.length c2)) 59) := ⟨_, rfl⟩
  have hr : CvRow p w.heap.size th fi pa (.slice A1 ti.length c1) (.slice A2 bo.length c2) := by rw [hp]; exact Whole.here _ _ _
  have hb : Below w.heap.size w p := by rw [hp]; exact (Below.refl _ _).alloc (Nat.le_refl _) _
  have hps : w.heap.size < p.heap.size := hr.lt
  have hcl := cvalid (hV.below hb (Nat.le_refl _))
  obtain ⟨R, hR⟩ : ∃ R, R = decide (cvok ⟨th, fi, pa, ti, bo⟩) := ⟨_, rfl⟩
  obtain ⟨E, hE⟩ : ∃ E, E = ce ⟨th, fi, pa, ti, bo⟩ := ⟨_, rfl⟩
  rw [← hR] at hcl
  rw [← hE]
  have HB := Lib.hid hb
  have HR := Lib.hid hr
  have HRD := Lib.hid hR
  have HE := Lib.hid hE
  have HB1 := Lib.hid (hB1.below hb (Nat.le_refl _))
  have HB2 := Lib.hid (hB2.below hb (Nat.le_refl _))
  clear hb hr hR hV hE hB1 hB2
  go_enter Tryd.func85, Tryd.ntmps85
  go_upto_region 1 with fail
  rw [← hp]
  clear hp
  go_wp2_with (with_reducible refine wpList_load_cav rfl _ rfl rfl HR.out ?_)
  refine hcl.mono ?_
  rintro e w1 ⟨rfl, hbw⟩
  clear hcl
  have hsw1 : p.heap.size ≤ w1.heap.size := hbw.size
  have HBW := Lib.hid hbw
  have HR1 := Lib.hid (Whole.below HR.out hbw hps)
  have HG1 := Lib.hid (HB.out.trans (hbw.mono (Nat.le_of_lt hps)))
  clear hbw HR
  cases R
  case false =>
    have hEE : E = ([], 5) := by
      rw [HE.out]
      unfold ce
      exact if_neg (by have := HRD.out; simpa using this)
    have HEE := Lib.hid hEE
    clear hEE
    go_wp2_with fail
    go_ret2
    rw [HEE.out]
    exact ⟨_, rfl, Bytes.nil _ _, HG1.out⟩
  have hok : cvok ⟨th, fi, pa, ti, bo⟩ := by have := HRD.out; simpa using this
  have hEE : E = (cen ⟨th, fi, pa, ti, bo⟩, 0) := by
    rw [HE.out]
    unfold ce
    exact if_pos hok
  have HOK := Lib.hid (cvok_mk.1 hok)
  clear HE HRD hok
  obtain ⟨k0, k7, k8, k9⟩ := CvRow.cells HR1.out
  cases th
  case false =>
    have hed : ed fi = (en fi, 0) := by
      unfold ed
      rcases HOK.out with h | h
      · exact absurd h.1 (by simp)
      · exact if_pos h.2.1
    have hpk : (en fi).length ≤ 30 := by
      rcases HOK.out with h | h
      · exact absurd h.1 (by simp)
      · exact en_len h.2.1
    have hcn : cen ⟨false, fi, pa, ti, bo⟩ = enc 1 ++ en fi := by unfold cen; rw [if_neg (by simp)]
    rw [hcn] at hEE
    have he1 := enc_pos 1
    have he7 := enc_len7 (n := 1) (by omega)
    have ha := append_ok (.slice none 0 0) [] (fun _ => True) 1 w1 (Bytes.nil _ _) (by simp) (by omega)
    rw [List.nil_append] at ha
    obtain ⟨L1, hL1⟩ : ∃ L, L = enc 1 := ⟨_, rfl⟩
    obtain ⟨L2, hL2⟩ : ∃ L, L = en fi := ⟨_, rfl⟩
    have hpe := fun W => pencode fi hm hn W
    rw [hed] at hpe
    rw [← hL1] at ha he1 he7 hEE
    rw [← hL2] at hpe hpk hEE
    have HEE := Lib.hid hEE
    clear hEE hed hcn hL1 hL2 k7 k8 k9 HOK
    go_wp2_with fail
    refine ha.mono ?_
    rintro e w2 ⟨v1, rfl, ho1, hb2⟩
    clear ha
    have h1 := Bytes.of_own ho1
    obtain ⟨Aa, ca, rfl, -⟩ := id h1
    have hsw2 : w1.heap.size ≤ w2.heap.size := hb2.size
    have HR2 := Lib.hid (Whole.below HR1.out hb2 (by omega))
    have HG2 := Lib.hid (HG1.out.trans (hb2.mono (by omega)))
    have H1 := Lib.hid h1
    clear h1 ho1 hb2 k0
    go_wp2_with (with_reducible refine wpList_load_cprd rfl _ rfl rfl HR2.out ?_)
    refine (hpe w2).mono ?_
    rintro e w3 ⟨v2, rfl, h2, hb3⟩
    clear hpe
    obtain ⟨Ab, cb, rfl, -⟩ := id h2
    have hsw3 : w2.heap.size ≤ w3.heap.size := hb3.size
    have HG3 := Lib.hid (HG2.out.trans (hb3.mono (by omega)))
    have H13 := Lib.hid (H1.out.below hb3 (Nat.le_refl _))
    have H2 := Lib.hid h2
    clear h2 hb3
    go_wp2_with fail
    have hW := Whole.here w3 23 #[.slice Aa L1.length ca, .slice Ab L2.length cb]
    refine (concat w3.heap.size _ _ L1 L2 _ _ _ ((hW.cell 0).trans rfl) ((hW.cell 1).trans rfl) (H13.out.alloc _) (H2.out.alloc _) he1 (by omega)).mono ?_
    rintro e w4 ⟨v4, rfl, ho4, hb4⟩
    have HG4 := Lib.hid ((HG3.out.alloc (by omega) _).trans (hb4.mono (by simp; omega)))
    have HV4 := Lib.hid (ho4.mono (Q' := fun g => w.heap.size ≤ g) fun g _ h => by have h : (w3.alloc _).heap.size ≤ g := h; simp at h; omega)
    clear ho4 hb4 hW
    go_wp2_with fail
    go_ret2
    rw [HEE.out]
    exact ⟨v4, rfl, HV4.out, HG4.out⟩
  case true =>
    obtain ⟨-, -, q3, q4, q5, q6, q7, q8⟩ : true = true ∧ fi = .zero ∧ 0 ≤ pa ∧ pa ≤ 7 ∧ 1 ≤ ti.length ∧ ti.length ≤ 1024 ∧ 1 ≤ bo.length ∧ bo.length ≤ 1024 := by
      rcases HOK.out with h | h
      · exact h
      · exact absurd h.1 (by simp)
    obtain ⟨pn, rfl⟩ := Int.eq_ofNat_of_zero_le q3
    have hpn : pn ≤ 7 := by omega
    have hcn : cen ⟨true, fi, (pn : Int), ti, bo⟩ = (enc 2 ++ enc pn) ++ (fld ti ++ fld bo) := by unfold cen; rw [if_pos rfl]; rfl
    have hjn : jn [ti, bo] = (fld ti ++ fld bo, 0) := by
      rw [jn_ok (fun x hx => by simp at hx; rcases hx with rfl | rfl <;> assumption)]
      simp [cat]
    have hlj : (fld ti ++ fld bo).length ≤ 3000 := by
      have := fld_len (x := ti) (by omega)
      have := fld_len (x := bo) (by omega)
      rw [List.length_append]; omega
    rw [hcn] at hEE
    have he1 := enc_pos 2
    have he7 := enc_len7 (n := 2) (by omega)
    have he8 := enc_len7 (n := pn) (by omega)
    have ha := append_ok (.slice none 0 0) [] (fun _ => True) 2 w1 (Bytes.nil _ _) (by simp) (by omega)
    rw [List.nil_append] at ha
    obtain ⟨L1, hL1⟩ : ∃ L, L = enc 2 := ⟨_, rfl⟩
    obtain ⟨L2, hL2⟩ : ∃ L, L = enc pn := ⟨_, rfl⟩
    obtain ⟨L4, hL4⟩ : ∃ L, L = fld ti ++ fld bo := ⟨_, rfl⟩
    obtain ⟨L3, hL3⟩ : ∃ L, L = L1 ++ L2 := ⟨_, rfl⟩
    have hap := fun v Q W hv => append_ok v L1 Q pn W hv (by rw [hL1]; omega) (by omega)
    have hl3 : 0 < L3.length ∧ L3.length ≤ 14 := by rw [hL3, hL1, hL2, List.length_append]; omega
    obtain ⟨hl3a, hl3b⟩ := hl3
    rw [← hL1] at ha he1 he7 hEE
    rw [← hL2] at hap he8 hEE
    rw [← hL3] at hap hEE
    rw [← hL4] at hjn hlj hEE
    have HEE := Lib.hid hEE
    clear hEE
    have hfj := fun v W hv => fjoin v [ti, bo] W hv (by simp)
    rw [hjn] at hfj
    clear hcn hjn hL1 hL2 hL3 hL4 HOK k7 k8 k9 q5 q6 q7 q8 q3 q4
    go_wp2_with fail
    refine ha.mono ?_
    rintro e w2 ⟨v1, rfl, ho1, hb2⟩
    clear ha
    have h1 := Bytes.of_own ho1
    obtain ⟨Aa, ca, rfl, -⟩ := id h1
    have hsw2 : w1.heap.size ≤ w2.heap.size := hb2.size
    have HR2 := Lib.hid (Whole.below HR1.out hb2 (by omega))
    have HG2 := Lib.hid (HG1.out.trans (hb2.mono (by omega)))
    have HB12 := Lib.hid ((HB1.out.below HBW.out (Nat.le_refl _)).below hb2 (Nat.le_refl _))
    have HB22 := Lib.hid ((HB2.out.below HBW.out (Nat.le_refl _)).below hb2 (Nat.le_refl _))
    clear ho1 hb2 k0
    obtain ⟨k0, k7, k8, k9⟩ := CvRow.cells HR2.out
    have ha := hap _ _ _ h1
    clear hap h1 k0 k8 k9
    go_wp2_with fail
    refine ha.mono ?_
    rintro e w3 ⟨v2, rfl, ho2, hb3⟩
    clear ha
    have h2 := Bytes.of_own ho2
    obtain ⟨Ab, cb, rfl, -⟩ := id h2
    have hsw3 : w2.heap.size ≤ w3.heap.size := hb3.size
    have HR3 := Lib.hid (Whole.below HR2.out hb3 (by omega))
    have HG3 := Lib.hid (HG2.out.trans (hb3.mono (by omega)))
    have hB13 := HB12.out.below hb3 (Nat.le_refl _)
    have hB23 := HB22.out.below hb3 (Nat.le_refl _)
    have HH2 := Lib.hid h2
    clear ho2 hb3 k7 h2
    obtain ⟨k0, k7, k8, k9⟩ := CvRow.cells HR3.out
    have ha := hfj _ _ (lists_two hB13 hB23)
    obtain ⟨w4, hw4⟩ : ∃ q, q = w3.alloc (.cells #[.slice A1 ti.length c1, .slice A2 bo.length c2] 23) := ⟨_, rfl⟩
    have hb34 : Below w3.heap.size w3 w4 := by rw [hw4]; exact (Below.refl _ _).alloc (Nat.le_refl _) _
    have hsw4 : w3.heap.size ≤ w4.heap.size := hb34.size
    rw [← hw4] at ha
    have HG4 := Lib.hid (HG3.out.trans (hb34.mono (by omega)))
    have HH24 := Lib.hid (HH2.out.below hb34 (Nat.le_refl _))
    have HW4 := Lib.hid hw4
    clear hfj k0 k7 hB13 hB23 hb34 hw4
    go_wp2_with fail
    rw [← HW4.out]
    refine ha.mono ?_
    rintro e w5 ⟨v5, rfl, h5, hb5⟩
    clear ha k8 k9 HW4
    obtain ⟨Ad, cd, rfl, -⟩ := id h5
    have hsw5 : w4.heap.size ≤ w5.heap.size := hb5.size
    have HG5 := Lib.hid (HG4.out.trans (hb5.mono (by omega)))
    have HH25 := Lib.hid (HH24.out.below hb5 (Nat.le_refl _))
    have H5 := Lib.hid h5
    clear h5 hb5
    go_wp2_with fail
    have hW := Whole.here w5 23 #[.slice Ab L3.length cb, .slice Ad L4.length cd]
    refine (concat w5.heap.size _ _ L3 L4 _ _ _ ((hW.cell 0).trans rfl) ((hW.cell 1).trans rfl) (HH25.out.alloc _) (H5.out.alloc _) hl3a (by omega)).mono ?_
    rintro e w6 ⟨v6, rfl, ho6, hb6⟩
    have HG6 := Lib.hid ((HG5.out.alloc (by omega) _).trans (hb6.mono (by simp; omega)))
    have HV6 := Lib.hid (ho6.mono (Q' := fun g => w.heap.size ≤ g) fun g _ h => by have h : (w5.alloc _).heap.size ≤ g := h; simp at h; omega)
    clear ho6 hb6 hW
    go_wp2_with fail
    go_ret2
    rw [HEE.out]
    exact ⟨v6, rfl, HV6.out, HG6.out⟩
end Go.Proofs.YtiikhjifjdpgdaaDoor
