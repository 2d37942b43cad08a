/-
  The law CaveatUnique.
-/
import Derived.Deep.CutBlock
import Derived.Deep.DeepCutAuto
import Derived.Test.YtknhnkmooaopmaaPk20
namespace Go.Proofs.Ytknhnkmooaopmaa
open Go Go.RowKit Sh Leaf

theorem cuniq_eq {c d : Cav} (hc : cvok c) (hd : cvok d) (mc : Cwf c) (md : Cwf d) : decide (cen c = cen d) = decide (([c] : List Cav) = [d]) := by
  by_cases h : c = d
  · subst h; simp
  · rw [decide_eq_false (fun e => h (cen_inj hc hd (by have := mc.1; simpa using this) (by have := md.1; simpa using this) e)), decide_eq_false (fun e => h (by injection e))]
/-- What the check in the loop asks for. -/
theorem cuniq_ok {l : List B8} {p : Cav} {n : Nat} (h : cdn l = (p, n, 0)) : ce p = (cen p, 0) ∧ n ≤ l.length ∧ cen p = l.take n := by
  obtain ⟨h1, -, h3, h4⟩ := cdn_back h
  exact ⟨by unfold ce; exact if_pos h1, h3, h4⟩
set_option linter.unusedSimpArgs false in
set_option linter.unusedVariables false in
set_option maxRecDepth 100000 in
set_option maxHeartbeats 8000000 in
theorem cuniq_law {Q : Nat → Prop} (A0 : Option Addr) (x : List B8) (c0 : Nat) (A1 : Option Addr) (l1 : List Int) (c1 : Nat) (A2 : Option Addr) (l2 : List Int) (c2 : Nat) (za : Int) (hza : -9223372036854775808 ≤ za ∧ za ≤ 9223372036854775807) (y0 : B8) (w : World) (hB : Bytes w Q (.slice A0 x.length c0) x)
    (hI1 : Ints w (fun b => b < w.heap.size) A1 c1 l1) (hI2 : Ints w (fun b => b < w.heap.size) A2 c2 l2) :
    Calls Try.prog 6 #[.slice A0 x.length c0, .slice A1 l1.length c1, .slice A2 l2.length c2, .int .i64 za, byt y0] w fun e w' => e = .returned (.bool true) ∧ Below w.heap.size w w' := by
  obtain ⟨n1, hn1⟩ : ∃ n, n = l1.length := ⟨_, rfl⟩
  obtain ⟨n2, hn2⟩ : ∃ n, n = l2.length := ⟨_, rfl⟩
  rw [← hn1, ← hn2]
  have HC := (hB.mono (Q' := fun b => b < w.heap.size) fun b hb _ => hb).cut 100
  have E : min (x.length : Int) 100 = ((x.take 100).length : Int) := by rw [List.length_take]; omega
  have hqX : (x.take 100).length ≤ 100 := by simp; omega
  obtain ⟨A9, c9, e9, h1X, h2X, -, -⟩ := id HC
  cases e9
  generalize x.take 100 = X at *
  have h1Xi : (X.length : Int) ≤ (c0 : Int) := by omega
  have HX0 := Lib.hid HC
  have HZA := Lib.hid hza
  have HI1 := Lib.hid hI1
  have HI2 := Lib.hid hI2
  have HN := Lib.hid (And.intro hn1 hn2)
  clear hB HC hI1 hI2 hn1 hn2 hza
  have hdn := dnew A1 _ c1 l1 w HN.out.1 HI1.out
  go_enter Try.func6, Try.ntmps6
  go_upto_region 2 with fail
  clear E h1X h2X h1Xi
  go_wp2_with fail
  refine hdn.mono ?_
  rintro e w0 ⟨rfl, hdk, hbu⟩
  clear hdn
  have hsw0 : w.heap.size < w0.heap.size := hdk.lt
  have HX1 := Lib.hid (HX0.out.below hbu (Nat.le_refl _))
  have HG0 := Lib.hid hbu
  have hcl := dcav w.heap.size w0 hdk
  clear hbu hdk
  go_wp2_with fail
  refine hcl.mono ?_
  rintro e w1 ⟨⟨v, c, rfl, hokc, hV⟩, ht⟩
  clear hcl
  have hsw1 : w0.heap.size ≤ w1.heap.size := ht.2.1.size
  obtain ⟨B1, b1, B2, b2, rfl, hc1, hc2, hwfc⟩ := hV
  have HX2 : Hid (Bytes w1 (fun b => b < w.heap.size) (.slice A0 X.length c0) X) := Lib.hid (HX1.out.oth ht.2.2 fun q hq => by have hq : q < w.heap.size := hq; omega)
  have HG1 := Lib.hid (HG0.out.trans ht.2.1)
  have HB1 := Lib.hid (hc1.mono (Q' := fun _ => True) fun _ _ _ => trivial)
  have HB2 := Lib.hid (hc2.mono (Q' := fun _ => True) fun _ _ _ => trivial)
  have HOC := Lib.hid (And.intro hokc hwfc)
  clear ht hc1 hc2 hokc hwfc
  have hdn := dnew A2 _ c2 l2 w1 HN.out.2 ((HI2.out.below HG1.out).mono (Below.size HG1.out))
  go_wp2_with fail
  refine hdn.mono ?_
  rintro e w2 ⟨rfl, hdk, hbu⟩
  clear hdn
  have hsw2 : w1.heap.size < w2.heap.size := hdk.lt
  have HX3 := Lib.hid (HX2.out.below hbu (Nat.le_refl _))
  have HB12 := Lib.hid (HB1.out.below hbu (Nat.le_refl _))
  have HB22 := Lib.hid (HB2.out.below hbu (Nat.le_refl _))
  have HG2 := Lib.hid (HG1.out.trans (hbu.mono (by omega)))
  have hcl := dcav w1.heap.size w2 hdk
  have hB12 := (HB1.out.mono (Q' := fun q => q < w1.heap.size) fun q hq _ => hq).below hbu (Nat.le_refl _)
  have hB22 := (HB2.out.mono (Q' := fun q => q < w1.heap.size) fun q hq _ => hq).below hbu (Nat.le_refl _)
  have HC12 := Lib.hid hB12
  have HC22 := Lib.hid hB22
  clear hbu hdk hB12 hB22
  go_wp2_with fail
  refine hcl.mono ?_
  rintro e w3 ⟨⟨v, d, rfl, hokd, hV⟩, ht⟩
  clear hcl
  have hsw3 : w2.heap.size ≤ w3.heap.size := ht.2.1.size
  obtain ⟨D1, d1, D2, d2, rfl, hd1, hd2, hwfd⟩ := hV
  have HX4 : Hid (Bytes w3 (fun b => b < w.heap.size) (.slice A0 X.length c0) X) := Lib.hid (HX3.out.oth ht.2.2 fun q hq => by have hq : q < w.heap.size := hq; omega)
  have HG3 := Lib.hid (HG2.out.trans (ht.2.1.mono (by omega)))
  have HB13 : Hid (Bytes w3 (fun _ => True) (.slice B1 c.ticket.length b1) c.ticket) := Lib.hid ((HC12.out.oth ht.2.2 fun q hq => by have hq : q < w1.heap.size := hq; omega).mono fun _ _ _ => trivial)
  have HB23 : Hid (Bytes w3 (fun _ => True) (.slice B2 c.box.length b2) c.box) := Lib.hid ((HC22.out.oth ht.2.2 fun q hq => by have hq : q < w1.heap.size := hq; omega).mono fun _ _ _ => trivial)
  have HD13 := Lib.hid (hd1.mono (Q' := fun _ => True) fun _ _ _ => trivial)
  have HD23 := Lib.hid (hd2.mono (Q' := fun _ => True) fun _ _ _ => trivial)
  have HOD := Lib.hid (And.intro hokd hwfd)
  clear ht hd1 hd2 hokd hwfd HC12 HC22 HB12 HB22 HB1 HB2 HX0 HX1 HX2 HX3
  obtain ⟨w4, hw4⟩ : ∃ q, q = (((w3.alloc (.cells (cvrow false .zero 0 (.slice none 0 0) (.slice none 0 0)) 27)).alloc (.cells (cvrow false .zero 0 (.slice none 0 0) (.slice none 0 0)) 27)).setRow w3.heap.size (cvrow c.third c.first c.party (.slice B1 c.ticket.length b1) (.slice B2 c.box.length b2))).setRow (w3.heap.size + 1) (cvrow d.third d.first d.party (.slice D1 d.ticket.length d1) (.slice D2 d.box.length d2)) := ⟨_, rfl⟩
  have hk0 : Whole ((w3.alloc (.cells (cvrow false .zero 0 (.slice none 0 0) (.slice none 0 0)) 27)).alloc (.cells (cvrow false .zero 0 (.slice none 0 0) (.slice none 0 0)) 27)) w3.heap.size 27 (cvrow false .zero 0 (.slice none 0 0) (.slice none 0 0)) := (Whole.here _ _ _).alloc _
  have hk1 : Whole ((w3.alloc (.cells (cvrow false .zero 0 (.slice none 0 0) (.slice none 0 0)) 27)).alloc (.cells (cvrow false .zero 0 (.slice none 0 0) (.slice none 0 0)) 27)) (w3.heap.size + 1) 27 (cvrow false .zero 0 (.slice none 0 0) (.slice none 0 0)) := Whole.at_ _ _ _ _ (by simp)
  have hk2 := Whole.setRow_far hk1 (by omega : w3.heap.size + 1 ≠ w3.heap.size) (cvrow c.third c.first c.party (.slice B1 c.ticket.length b1) (.slice B2 c.box.length b2))
  have hb4 : Below w3.heap.size w3 w4 := by rw [hw4]; exact below_setRow (below_setRow (((Below.refl _ _).alloc (Nat.le_refl _) _).alloc (by simp) _) (Nat.le_refl _) _) (by omega) _
  have hrc : CvRow w4 w3.heap.size c.third c.first c.party (.slice B1 c.ticket.length b1) (.slice B2 c.box.length b2) := by rw [hw4]; exact Whole.setRow_far (Whole.setRow hk0 _) (by omega) _
  have hrd : CvRow w4 (w3.heap.size + 1) d.third d.first d.party (.slice D1 d.ticket.length d1) (.slice D2 d.box.length d2) := by rw [hw4]; exact Whole.setRow hk2 _
  have hsw4 : w3.heap.size + 1 < w4.heap.size := hrd.lt
  rw [cvrow_zero] at hk0 hk2
  have HK0 := Lib.hid hk0
  have HK2 := Lib.hid hk2
  have HW4 := Lib.hid hw4
  have HRC := Lib.hid hrc
  have HRD := Lib.hid hrd
  have HX4 := Lib.hid (HX4.out.below hb4 (Nat.le_refl _))
  have HG4 := Lib.hid (HG3.out.trans (hb4.mono (by omega)))
  have HB14 := Lib.hid (HB13.out.below hb4 (Nat.le_refl _))
  have HB24 := Lib.hid (HB23.out.below hb4 (Nat.le_refl _))
  have HD14 := Lib.hid (HD13.out.below hb4 (Nat.le_refl _))
  have HD24 := Lib.hid (HD23.out.below hb4 (Nat.le_refl _))
  clear hk0 hk1 hk2 hw4 hrc hrd hb4 HB13 HB23 HD13 HD23
  go_upto_region 3 with (first
    | (refine wpList_store_cav rfl _ _ rfl (g := w3.heap.size) rfl rfl HK0.out (by rfl) ?_)
    | (refine wpList_store_cav rfl _ _ rfl (g := w3.heap.size + 1) rfl rfl HK2.out (by rfl) ?_))
  rw [← cvrow_zero, ← HW4.out]
  clear HW4 HK0 HK2
  have hcec : ce c = (cen c, 0) := by unfold ce; exact if_pos HOC.out.1
  have hced : ce d = (cen d, 0) := by unfold ce; exact if_pos HOD.out.1
  have hcl := cencode (w := w4) (Q := fun _ => True) (c := c) ⟨B1, b1, B2, b2, rfl, HB14.out, HB24.out, HOC.out.2⟩
  rw [hcec] at hcl
  have hcl2 := fun W hW => cencode (w := W) (Q := fun _ => True) (c := d) ⟨D1, d1, D2, d2, rfl, HD14.out.below (B := w4.heap.size) hW (Nat.le_refl _), HD24.out.below (B := w4.heap.size) hW (Nat.le_refl _), HOD.out.2⟩
  rw [hced] at hcl2
  have hlc := cen_len HOC.out.1
  have hld := cen_len HOD.out.1
  have hpc := cen_pos c
  have hcd := cuniq_eq HOC.out.1 HOD.out.1 HOC.out.2 HOD.out.2
  obtain ⟨L1, hL1⟩ : ∃ L, L = cen c := ⟨_, rfl⟩
  obtain ⟨L2, hL2⟩ : ∃ L, L = cen d := ⟨_, rfl⟩
  rw [← hL1] at hcl hlc hpc hcd
  rw [← hL2] at hcl2 hld hcd
  have HCD := Lib.hid hcd
  have HCL2 := Lib.hid hcl2
  clear hcec hced hL1 hL2 hcd hcl2
  go_wp2_with (with_reducible refine wpList_load_cav rfl _ rfl rfl HRC.out ?_)
  refine hcl.mono ?_
  rintro e w5 ⟨v5, rfl, h5, hb5⟩
  clear hcl
  obtain ⟨F1, f1, rfl, -⟩ := id h5
  have hsw5 : w4.heap.size ≤ w5.heap.size := hb5.size
  have HRC5 : Hid (CvRow w5 w3.heap.size c.third c.first c.party (.slice B1 c.ticket.length b1) (.slice B2 c.box.length b2)) := Lib.hid (Whole.below HRC.out hb5 (by omega))
  have HRD5 : Hid (CvRow w5 (w3.heap.size + 1) d.third d.first d.party (.slice D1 d.ticket.length d1) (.slice D2 d.box.length d2)) := Lib.hid (Whole.below HRD.out hb5 (by omega))
  have HX5 := Lib.hid (HX4.out.below hb5 (Nat.le_refl _))
  have HG5 := Lib.hid (HG4.out.trans (hb5.mono (by omega)))
  have HL15 := Lib.hid (h5.mono (Q' := fun _ => True) fun _ _ _ => trivial)
  have HB5 := Lib.hid hb5
  have hcl := HCL2.out w5 hb5
  clear h5 hb5 HRC HRD
  go_wp2_with (with_reducible refine wpList_load_cav rfl _ rfl rfl HRD5.out ?_)
  refine hcl.mono ?_
  rintro e w6 ⟨v6, rfl, h6, hb6⟩
  clear hcl HCL2
  obtain ⟨F2, f2, rfl, -⟩ := id h6
  have hsw6 : w5.heap.size ≤ w6.heap.size := hb6.size
  have HRC6 : Hid (CvRow w6 w3.heap.size c.third c.first c.party (.slice B1 c.ticket.length b1) (.slice B2 c.box.length b2)) := Lib.hid (Whole.below HRC5.out hb6 (by omega))
  have HRD6 : Hid (CvRow w6 (w3.heap.size + 1) d.third d.first d.party (.slice D1 d.ticket.length d1) (.slice D2 d.box.length d2)) := Lib.hid (Whole.below HRD5.out hb6 (by omega))
  have HX6 := Lib.hid (HX5.out.below hb6 (Nat.le_refl _))
  have HG6 := Lib.hid (HG5.out.trans (hb6.mono (by omega)))
  have HL16 := Lib.hid (HL15.out.below hb6 (Nat.le_refl _))
  have HL26 := Lib.hid (h6.mono (Q' := fun _ => True) fun _ _ _ => trivial)
  have hb46 := HB5.out.trans (hb6.mono hsw5)
  have HB16 := Lib.hid (HB14.out.below hb46 (Nat.le_refl _))
  have HB26 := Lib.hid (HB24.out.below hb46 (Nat.le_refl _))
  have HD16 := Lib.hid (HD14.out.below hb46 (Nat.le_refl _))
  have HD26 := Lib.hid (HD24.out.below hb46 (Nat.le_refl _))
  clear h6 hb6 HRC5 HRD5 hb46 HB14 HB24 HD14 HD24 HL15 HX5 HX4
  go_upto_region 5 with fail
  have hL0 : ¬ (L1.length : Int) = 0 := by omega
  have hLn : ¬ L1 = [] := by rintro rfl; simp at hpc
  (try simp only [Act.put])
  go_cut [58] (fun s wx => s = .bool false ∧ Below w6.heap.size w6 wx)
  case first =>
    have hb0 : Below w6.heap.size w6 w6.drew := (Below.refl _ _).drew
    have HCC : Hid (∀ W, Below w6.heap.size w6 W → W.rangeAt w3.heap.size 0 [.bool c.third, .int .i64 c.first.kind, .int .u64 (c.first.mask : Int), .int .i64 c.first.lo, .int .i64 c.first.hi, .string (sof c.first.name), .int .i64 c.first.num, .int .i64 c.party, .slice B1 c.ticket.length b1, .slice B2 c.box.length b2] ∧ W.rangeAt (w3.heap.size + 1) 0 [.bool d.third, .int .i64 d.first.kind, .int .u64 (d.first.mask : Int), .int .i64 d.first.lo, .int .i64 d.first.hi, .string (sof d.first.name), .int .i64 d.first.num, .int .i64 d.party, .slice D1 d.ticket.length d1, .slice D2 d.box.length d2]) := Lib.hid fun W hW => ⟨cav_range (Whole.below HRC6.out hW (by omega)), cav_range (Whole.below HRD6.out hW (by omega))⟩
    have kb : ∀ b : Bool, (b != b) = false := fun b => by cases b <;> rfl
    obtain ⟨R, hR⟩ : ∃ R, R = decide (([c] : List Cav) = [d]) := ⟨_, rfl⟩
    have hRL : decide (L1 = L2) = R := HCD.out.trans hR.symm
    have HRR := Lib.hid (And.intro hR hRL)
    clear hR hRL
    refine wp_region_held_drew (S := fun W : World => W.rangeAt w3.heap.size 0 [.bool c.third, .int .i64 c.first.kind, .int .u64 (c.first.mask : Int), .int .i64 c.first.lo, .int .i64 c.first.hi, .string (sof c.first.name), .int .i64 c.first.num, .int .i64 c.party, .slice B1 c.ticket.length b1, .slice B2 c.box.length b2] ∧ W.rangeAt (w3.heap.size + 1) 0 [.bool d.third, .int .i64 d.first.kind, .int .u64 (d.first.mask : Int), .int .i64 d.first.lo, .int .i64 d.first.hi, .string (sof d.first.name), .int .i64 d.first.num, .int .i64 d.party, .slice D1 d.ticket.length d1, .slice D2 d.box.length d2]) (by kernel_rfl) (HCC.out _ hb0) (fun hHeld => ?_)
    generalize w6.drew = W0 at hb0 hHeld ⊢
    apply wpAnyH_take (i := 0) rfl (by kernel_rfl) (by kernel_rfl) (by kernel_rfl)
    case hQ => exact fun _ _ _ h => h
    case hS => exact hHeld
    case hy => (refine Or.inl ⟨by rfl, ?_⟩; intro w hSw; (try go_split_ands); go_simp; (try with_reducible rfl))
    (try simp only [List.getElem_toArray, List.getElem_cons_zero, Act.put, List.setIfInBounds_toArray, List.set_cons_zero, List.set_cons_succ])
    apply wpAnyH_take (i := 1) rfl (by kernel_rfl) (by kernel_rfl) (by kernel_rfl)
    case hQ => exact fun _ _ _ h => h
    case hS => exact hHeld
    case hy => (refine Or.inl ⟨by rfl, ?_⟩; intro w hSw; (try go_split_ands); go_simp; (try with_reducible rfl))
    (try simp only [List.getElem_toArray, List.getElem_cons_succ, List.getElem_cons_zero, Act.put, List.setIfInBounds_toArray, List.set_cons_zero, List.set_cons_succ])
    apply wpAnyH_take (i := 3) rfl (by kernel_rfl) (by kernel_rfl) (by kernel_rfl)
    case hQ => exact fun _ _ _ h => h
    case hS => exact hHeld
    case hy => exact yieldsIf_load_mid (by rfl) 27 _ rfl w3.heap.size (0) rfl ([.bool c.third, .int .i64 c.first.kind, .int .u64 (c.first.mask : Int), .int .i64 c.first.lo, .int .i64 c.first.hi, .string (sof c.first.name), .int .i64 c.first.num, .int .i64 c.party, .slice B1 c.ticket.length b1, .slice B2 c.box.length b2]) _ (fun w hS => hS.1) Try.underlying27 rfl (by rw [cavSize]; rfl)
    (try simp only [List.getElem_toArray, List.getElem_cons_succ, List.getElem_cons_zero, Act.put, List.setIfInBounds_toArray, List.set_cons_zero, List.set_cons_succ])
    apply wpAnyH_take (i := 5) rfl (by kernel_rfl) (by kernel_rfl) (by kernel_rfl)
    case hQ => exact fun _ _ _ h => h
    case hS => exact hHeld
    case hy => exact yieldsIf_load_mid (by rfl) 27 _ rfl (w3.heap.size + 1) (0) rfl ([.bool d.third, .int .i64 d.first.kind, .int .u64 (d.first.mask : Int), .int .i64 d.first.lo, .int .i64 d.first.hi, .string (sof d.first.name), .int .i64 d.first.num, .int .i64 d.party, .slice D1 d.ticket.length d1, .slice D2 d.box.length d2]) _ (fun w hS => hS.2) Try.underlying27 rfl (by rw [cavSize]; rfl)
    (try simp only [List.getElem_toArray, List.getElem_cons_succ, List.getElem_cons_zero, Act.put, List.setIfInBounds_toArray, List.set_cons_zero, List.set_cons_succ])
    refine wpAnyH_ready (rs := [2, 4, 6]) (by kernel_rfl) (by simp) ?_
    refine AllReadyH.cons rfl (fun KK hKK => ?_) (AllReadyH.cons rfl (fun KK hKK => ?_) (AllReadyH.cons rfl (fun KK hKK => ?_) AllReadyH.nil))
    · (try simp only [List.getElem_toArray, List.getElem_cons_succ, List.getElem_cons_zero])
      go_simp
      go_at_call 21
      refine (same_ _ _ L1 L2 _ _ W0 (HL16.out.below hb0 (Nat.le_refl _)) (HL26.out.below hb0 (Nat.le_refl _)) (by omega) (by omega)).mono ?_
      rintro e V1 ⟨rfl, hv1⟩
      rw [HRR.out.2]
      have hb1 := hb0.trans (hv1.mono hb0.size)
      clear hv1
      refine hKK.out _ _ (HCC.out _ hb1) (fun hHeld => ?_)
      clear hKK KK
      (try simp only [List.getElem_toArray, List.getElem_cons_succ, List.getElem_cons_zero, Act.put, List.setIfInBounds_toArray, List.set_cons_zero, List.set_cons_succ])
      refine wpAnyH_ready (rs := [4, 6]) (by kernel_rfl) (by simp) ?_
      refine AllReadyH.cons rfl (fun KK hKK => ?_) (AllReadyH.cons rfl (fun KK hKK => ?_) AllReadyH.nil)
      · (try simp only [List.getElem_toArray, List.getElem_cons_succ, List.getElem_cons_zero])
        go_simp
        obtain ⟨GC, hGC⟩ : ∃ g, g = V1.heap.size := ⟨_, rfl⟩
        obtain ⟨V2, hV2⟩ : ∃ qq, qq = V1.alloc (.cells (cvrow c.third c.first c.party (.slice B1 c.ticket.length b1) (.slice B2 c.box.length b2)) 27) := ⟨_, rfl⟩
        have hb2 : Below w6.heap.size w6 V2 := by rw [hV2]; exact hb1.alloc hb1.size _
        have nC2 : CvRow V2 GC c.third c.first c.party (.slice B1 c.ticket.length b1) (.slice B2 c.box.length b2) := by rw [hV2, hGC]; exact Whole.here _ _ _
        rw [← hGC, ← hV2]
        clear hV2 hGC
        refine hKK.out _ _ (HCC.out _ hb2) (fun hHeld => ?_)
        clear hKK KK
        (try simp only [List.getElem_toArray, List.getElem_cons_succ, List.getElem_cons_zero, Act.put, List.setIfInBounds_toArray, List.set_cons_zero, List.set_cons_succ])
        refine wpAnyH_ready (rs := [6]) (by kernel_rfl) (by simp) ?_
        refine AllReadyH.cons rfl (fun KK hKK => ?_) AllReadyH.nil
        (try simp only [List.getElem_toArray, List.getElem_cons_succ, List.getElem_cons_zero])
        go_simp
        obtain ⟨GD, hGD⟩ : ∃ g, g = V2.heap.size := ⟨_, rfl⟩
        obtain ⟨V3, hV3⟩ : ∃ qq, qq = V2.alloc (.cells (cvrow d.third d.first d.party (.slice D1 d.ticket.length d1) (.slice D2 d.box.length d2)) 27) := ⟨_, rfl⟩
        have hb3 : Below w6.heap.size w6 V3 := by rw [hV3]; exact hb2.alloc hb2.size _
        have nD3 : CvRow V3 GD d.third d.first d.party (.slice D1 d.ticket.length d1) (.slice D2 d.box.length d2) := by rw [hV3, hGD]; exact Whole.here _ _ _
        have rC3 := nC2.alloc (.cells (cvrow d.third d.first d.party (.slice D1 d.ticket.length d1) (.slice D2 d.box.length d2)) 27)
        rw [← hV3] at rC3
        rw [← hGD, ← hV3]
        clear hV3 hGD
        refine hKK.out _ _ (HCC.out _ hb3) (fun hHeld => ?_)
        clear hKK KK
        (try simp only [List.getElem_toArray, List.getElem_cons_succ, List.getElem_cons_zero, Act.put, List.setIfInBounds_toArray, List.set_cons_zero, List.set_cons_succ])
        refine wpAnyH_ready (rs := [7]) (by kernel_rfl) (by simp) ?_
        refine AllReadyH.cons rfl (fun KK hKK => ?_) AllReadyH.nil
        (try simp only [List.getElem_toArray, List.getElem_cons_succ, List.getElem_cons_zero])
        have hrs := rcsame (ca := 1) (cb := 1) (la := [c]) (lb := [d]) (Cvs.one rC3 (HB16.out.below hb3 (Nat.le_refl _)) (HB26.out.below hb3 (Nat.le_refl _)) HOC.out.2) (Cvs.one nD3 (HD16.out.below hb3 (Nat.le_refl _)) (HD26.out.below hb3 (Nat.le_refl _)) HOD.out.2) (by simp) (by simp)
        rw [← HRR.out.1] at hrs
        go_simp
        go_at_call 17
        refine hrs.mono ?_
        rintro e V4 ⟨rfl, hv4⟩
        have hb4 := hb3.trans (hv4.mono hb3.size)
        clear hrs hv4
        refine hKK.out _ _ (HCC.out _ hb4) (fun hHeld => ?_)
        clear hKK KK
        (try simp only [List.getElem_toArray, List.getElem_cons_succ, List.getElem_cons_zero, Act.put, List.setIfInBounds_toArray, List.set_cons_zero, List.set_cons_succ])
        apply wpAnyH_take (i := 8) rfl (by kernel_rfl) (by kernel_rfl) (by kernel_rfl)
        case hQ => exact fun _ _ _ h => h
        case hS => exact hHeld
        case hy => (refine Or.inl ⟨by rfl, ?_⟩; intro w hSw; (try go_split_ands); go_simp; (try with_reducible rfl))
        (try simp only [List.getElem_toArray, List.getElem_cons_succ, List.getElem_cons_zero, Act.put, List.setIfInBounds_toArray, List.set_cons_zero, List.set_cons_succ])
        apply wpAnyH_take (i := 9) rfl (by kernel_rfl) (by kernel_rfl) (by kernel_rfl)
        case hQ => exact fun _ _ _ h => h
        case hS => exact hHeld
        case hy => (refine Or.inl ⟨by rfl, ?_⟩; intro w hSw; (try go_split_ands); go_simp; (try with_reducible rfl))
        (try simp only [List.getElem_toArray, List.getElem_cons_succ, List.getElem_cons_zero, Act.put, List.setIfInBounds_toArray, List.set_cons_zero, List.set_cons_succ])
        apply wpAnyH_take (i := 10) rfl (by kernel_rfl) (by kernel_rfl) (by kernel_rfl)
        case hQ => exact fun _ _ _ h => h
        case hS => exact hHeld
        case hy => (refine Or.inl ⟨by rfl, ?_⟩; intro w hSw; (try go_split_ands); go_simp; (try with_reducible rfl))
        (try simp only [List.getElem_toArray, List.getElem_cons_succ, List.getElem_cons_zero, Act.put, List.setIfInBounds_toArray, List.set_cons_zero, List.set_cons_succ])
        apply wpAnyH_take (i := 11) rfl (by kernel_rfl) (by kernel_rfl) (by kernel_rfl)
        case hQ => exact fun _ _ _ h => h
        case hS => exact hHeld
        case hy => (refine Or.inl ⟨by rfl, ?_⟩; intro w hSw; (try go_split_ands); go_simp; (try with_reducible rfl))
        (try simp only [List.getElem_toArray, List.getElem_cons_succ, List.getElem_cons_zero, Act.put, List.setIfInBounds_toArray, List.set_cons_zero, List.set_cons_succ])
        apply wpAnyH_take (i := 12) rfl (by kernel_rfl) (by kernel_rfl) (by kernel_rfl)
        case hQ => exact fun _ _ _ h => h
        case hS => exact hHeld
        case hy => (refine Or.inl ⟨by rfl, ?_⟩; intro w hSw; (try go_split_ands); go_simp; (try with_reducible rfl))
        (try simp only [List.getElem_toArray, List.getElem_cons_succ, List.getElem_cons_zero, Act.put, List.setIfInBounds_toArray, List.set_cons_zero, List.set_cons_succ])
        apply wpAnyH_take (i := 13) rfl (by kernel_rfl) (by kernel_rfl) (by kernel_rfl)
        case hQ => exact fun _ _ _ h => h
        case hS => exact hHeld
        case hy => (refine Or.inl ⟨by rfl, ?_⟩; intro w hSw; (try go_split_ands); go_simp; (try with_reducible rfl))
        (try simp only [List.getElem_toArray, List.getElem_cons_succ, List.getElem_cons_zero, Act.put, List.setIfInBounds_toArray, List.set_cons_zero, List.set_cons_succ])
        refine wpAnyH_done (by kernel_rfl) ?_ _
        go_wp2_with fail
        go_meet
        exact ⟨by first | rfl | simp [kb, hLn], hb4⟩
      · (try simp only [List.getElem_toArray, List.getElem_cons_succ, List.getElem_cons_zero])
        go_simp
        obtain ⟨GD, hGD⟩ : ∃ g, g = V1.heap.size := ⟨_, rfl⟩
        obtain ⟨V5, hV5⟩ : ∃ qq, qq = V1.alloc (.cells (cvrow d.third d.first d.party (.slice D1 d.ticket.length d1) (.slice D2 d.box.length d2)) 27) := ⟨_, rfl⟩
        have hb5 : Below w6.heap.size w6 V5 := by rw [hV5]; exact hb1.alloc hb1.size _
        have nD5 : CvRow V5 GD d.third d.first d.party (.slice D1 d.ticket.length d1) (.slice D2 d.box.length d2) := by rw [hV5, hGD]; exact Whole.here _ _ _
        rw [← hGD, ← hV5]
        clear hV5 hGD
        refine hKK.out _ _ (HCC.out _ hb5) (fun hHeld => ?_)
        clear hKK KK
        (try simp only [List.getElem_toArray, List.getElem_cons_succ, List.getElem_cons_zero, Act.put, List.setIfInBounds_toArray, List.set_cons_zero, List.set_cons_succ])
        refine wpAnyH_ready (rs := [4]) (by kernel_rfl) (by simp) ?_
        refine AllReadyH.cons rfl (fun KK hKK => ?_) AllReadyH.nil
        (try simp only [List.getElem_toArray, List.getElem_cons_succ, List.getElem_cons_zero])
        go_simp
        obtain ⟨GC, hGC⟩ : ∃ g, g = V5.heap.size := ⟨_, rfl⟩
        obtain ⟨V6, hV6⟩ : ∃ qq, qq = V5.alloc (.cells (cvrow c.third c.first c.party (.slice B1 c.ticket.length b1) (.slice B2 c.box.length b2)) 27) := ⟨_, rfl⟩
        have hb6 : Below w6.heap.size w6 V6 := by rw [hV6]; exact hb5.alloc hb5.size _
        have nC6 : CvRow V6 GC c.third c.first c.party (.slice B1 c.ticket.length b1) (.slice B2 c.box.length b2) := by rw [hV6, hGC]; exact Whole.here _ _ _
        have rD6 := nD5.alloc (.cells (cvrow c.third c.first c.party (.slice B1 c.ticket.length b1) (.slice B2 c.box.length b2)) 27)
        rw [← hV6] at rD6
        rw [← hGC, ← hV6]
        clear hV6 hGC
        refine hKK.out _ _ (HCC.out _ hb6) (fun hHeld => ?_)
        clear hKK KK
        (try simp only [List.getElem_toArray, List.getElem_cons_succ, List.getElem_cons_zero, Act.put, List.setIfInBounds_toArray, List.set_cons_zero, List.set_cons_succ])
        refine wpAnyH_ready (rs := [7]) (by kernel_rfl) (by simp) ?_
        refine AllReadyH.cons rfl (fun KK hKK => ?_) AllReadyH.nil
        (try simp only [List.getElem_toArray, List.getElem_cons_succ, List.getElem_cons_zero])
        have hrs := rcsame (ca := 1) (cb := 1) (la := [c]) (lb := [d]) (Cvs.one nC6 (HB16.out.below hb6 (Nat.le_refl _)) (HB26.out.below hb6 (Nat.le_refl _)) HOC.out.2) (Cvs.one rD6 (HD16.out.below hb6 (Nat.le_refl _)) (HD26.out.below hb6 (Nat.le_refl _)) HOD.out.2) (by simp) (by simp)
        rw [← HRR.out.1] at hrs
        go_simp
        go_at_call 17
        refine hrs.mono ?_
        rintro e V7 ⟨rfl, hv7⟩
        have hb7 := hb6.trans (hv7.mono hb6.size)
        clear hrs hv7
        refine hKK.out _ _ (HCC.out _ hb7) (fun hHeld => ?_)
        clear hKK KK
        (try simp only [List.getElem_toArray, List.getElem_cons_succ, List.getElem_cons_zero, Act.put, List.setIfInBounds_toArray, List.set_cons_zero, List.set_cons_succ])
        apply wpAnyH_take (i := 8) rfl (by kernel_rfl) (by kernel_rfl) (by kernel_rfl)
        case hQ => exact fun _ _ _ h => h
        case hS => exact hHeld
        case hy => (refine Or.inl ⟨by rfl, ?_⟩; intro w hSw; (try go_split_ands); go_simp; (try with_reducible rfl))
        (try simp only [List.getElem_toArray, List.getElem_cons_succ, List.getElem_cons_zero, Act.put, List.setIfInBounds_toArray, List.set_cons_zero, List.set_cons_succ])
        apply wpAnyH_take (i := 9) rfl (by kernel_rfl) (by kernel_rfl) (by kernel_rfl)
        case hQ => exact fun _ _ _ h => h
        case hS => exact hHeld
        case hy => (refine Or.inl ⟨by rfl, ?_⟩; intro w hSw; (try go_split_ands); go_simp; (try with_reducible rfl))
        (try simp only [List.getElem_toArray, List.getElem_cons_succ, List.getElem_cons_zero, Act.put, List.setIfInBounds_toArray, List.set_cons_zero, List.set_cons_succ])
        apply wpAnyH_take (i := 10) rfl (by kernel_rfl) (by kernel_rfl) (by kernel_rfl)
        case hQ => exact fun _ _ _ h => h
        case hS => exact hHeld
        case hy => (refine Or.inl ⟨by rfl, ?_⟩; intro w hSw; (try go_split_ands); go_simp; (try with_reducible rfl))
        (try simp only [List.getElem_toArray, List.getElem_cons_succ, List.getElem_cons_zero, Act.put, List.setIfInBounds_toArray, List.set_cons_zero, List.set_cons_succ])
        apply wpAnyH_take (i := 11) rfl (by kernel_rfl) (by kernel_rfl) (by kernel_rfl)
        case hQ => exact fun _ _ _ h => h
        case hS => exact hHeld
        case hy => (refine Or.inl ⟨by rfl, ?_⟩; intro w hSw; (try go_split_ands); go_simp; (try with_reducible rfl))
        (try simp only [List.getElem_toArray, List.getElem_cons_succ, List.getElem_cons_zero, Act.put, List.setIfInBounds_toArray, List.set_cons_zero, List.set_cons_succ])
        apply wpAnyH_take (i := 12) rfl (by kernel_rfl) (by kernel_rfl) (by kernel_rfl)
        case hQ => exact fun _ _ _ h => h
        case hS => exact hHeld
        case hy => (refine Or.inl ⟨by rfl, ?_⟩; intro w hSw; (try go_split_ands); go_simp; (try with_reducible rfl))
        (try simp only [List.getElem_toArray, List.getElem_cons_succ, List.getElem_cons_zero, Act.put, List.setIfInBounds_toArray, List.set_cons_zero, List.set_cons_succ])
        apply wpAnyH_take (i := 13) rfl (by kernel_rfl) (by kernel_rfl) (by kernel_rfl)
        case hQ => exact fun _ _ _ h => h
        case hS => exact hHeld
        case hy => (refine Or.inl ⟨by rfl, ?_⟩; intro w hSw; (try go_split_ands); go_simp; (try with_reducible rfl))
        (try simp only [List.getElem_toArray, List.getElem_cons_succ, List.getElem_cons_zero, Act.put, List.setIfInBounds_toArray, List.set_cons_zero, List.set_cons_succ])
        refine wpAnyH_done (by kernel_rfl) ?_ _
        go_wp2_with fail
        go_meet
        exact ⟨by first | rfl | simp [kb, hLn], hb7⟩
    · (try simp only [List.getElem_toArray, List.getElem_cons_succ, List.getElem_cons_zero])
      go_simp
      obtain ⟨GC, hGC⟩ : ∃ g, g = W0.heap.size := ⟨_, rfl⟩
      obtain ⟨V8, hV8⟩ : ∃ qq, qq = W0.alloc (.cells (cvrow c.third c.first c.party (.slice B1 c.ticket.length b1) (.slice B2 c.box.length b2)) 27) := ⟨_, rfl⟩
      have hb8 : Below w6.heap.size w6 V8 := by rw [hV8]; exact hb0.alloc hb0.size _
      have nC8 : CvRow V8 GC c.third c.first c.party (.slice B1 c.ticket.length b1) (.slice B2 c.box.length b2) := by rw [hV8, hGC]; exact Whole.here _ _ _
      rw [← hGC, ← hV8]
      clear hV8 hGC
      refine hKK.out _ _ (HCC.out _ hb8) (fun hHeld => ?_)
      clear hKK KK
      (try simp only [List.getElem_toArray, List.getElem_cons_succ, List.getElem_cons_zero, Act.put, List.setIfInBounds_toArray, List.set_cons_zero, List.set_cons_succ])
      refine wpAnyH_ready (rs := [2, 6]) (by kernel_rfl) (by simp) ?_
      refine AllReadyH.cons rfl (fun KK hKK => ?_) (AllReadyH.cons rfl (fun KK hKK => ?_) AllReadyH.nil)
      · (try simp only [List.getElem_toArray, List.getElem_cons_succ, List.getElem_cons_zero])
        go_simp
        go_at_call 21
        refine (same_ _ _ L1 L2 _ _ V8 (HL16.out.below hb8 (Nat.le_refl _)) (HL26.out.below hb8 (Nat.le_refl _)) (by omega) (by omega)).mono ?_
        rintro e V9 ⟨rfl, hv9⟩
        rw [HRR.out.2]
        have hb9 := hb8.trans (hv9.mono hb8.size)
        have rC9 := Whole.below nC8 hv9 nC8.lt
        clear hv9
        refine hKK.out _ _ (HCC.out _ hb9) (fun hHeld => ?_)
        clear hKK KK
        (try simp only [List.getElem_toArray, List.getElem_cons_succ, List.getElem_cons_zero, Act.put, List.setIfInBounds_toArray, List.set_cons_zero, List.set_cons_succ])
        refine wpAnyH_ready (rs := [6]) (by kernel_rfl) (by simp) ?_
        refine AllReadyH.cons rfl (fun KK hKK => ?_) AllReadyH.nil
        (try simp only [List.getElem_toArray, List.getElem_cons_succ, List.getElem_cons_zero])
        go_simp
        obtain ⟨GD, hGD⟩ : ∃ g, g = V9.heap.size := ⟨_, rfl⟩
        obtain ⟨V10, hV10⟩ : ∃ qq, qq = V9.alloc (.cells (cvrow d.third d.first d.party (.slice D1 d.ticket.length d1) (.slice D2 d.box.length d2)) 27) := ⟨_, rfl⟩
        have hb10 : Below w6.heap.size w6 V10 := by rw [hV10]; exact hb9.alloc hb9.size _
        have nD10 : CvRow V10 GD d.third d.first d.party (.slice D1 d.ticket.length d1) (.slice D2 d.box.length d2) := by rw [hV10, hGD]; exact Whole.here _ _ _
        have rC10 := rC9.alloc (.cells (cvrow d.third d.first d.party (.slice D1 d.ticket.length d1) (.slice D2 d.box.length d2)) 27)
        rw [← hV10] at rC10
        rw [← hGD, ← hV10]
        clear hV10 hGD
        refine hKK.out _ _ (HCC.out _ hb10) (fun hHeld => ?_)
        clear hKK KK
        (try simp only [List.getElem_toArray, List.getElem_cons_succ, List.getElem_cons_zero, Act.put, List.setIfInBounds_toArray, List.set_cons_zero, List.set_cons_succ])
        refine wpAnyH_ready (rs := [7]) (by kernel_rfl) (by simp) ?_
        refine AllReadyH.cons rfl (fun KK hKK => ?_) AllReadyH.nil
        (try simp only [List.getElem_toArray, List.getElem_cons_succ, List.getElem_cons_zero])
        have hrs := rcsame (ca := 1) (cb := 1) (la := [c]) (lb := [d]) (Cvs.one rC10 (HB16.out.below hb10 (Nat.le_refl _)) (HB26.out.below hb10 (Nat.le_refl _)) HOC.out.2) (Cvs.one nD10 (HD16.out.below hb10 (Nat.le_refl _)) (HD26.out.below hb10 (Nat.le_refl _)) HOD.out.2) (by simp) (by simp)
        rw [← HRR.out.1] at hrs
        go_simp
        go_at_call 17
        refine hrs.mono ?_
        rintro e V11 ⟨rfl, hv11⟩
        have hb11 := hb10.trans (hv11.mono hb10.size)
        clear hrs hv11
        refine hKK.out _ _ (HCC.out _ hb11) (fun hHeld => ?_)
        clear hKK KK
        (try simp only [List.getElem_toArray, List.getElem_cons_succ, List.getElem_cons_zero, Act.put, List.setIfInBounds_toArray, List.set_cons_zero, List.set_cons_succ])
        apply wpAnyH_take (i := 8) rfl (by kernel_rfl) (by kernel_rfl) (by kernel_rfl)
        case hQ => exact fun _ _ _ h => h
        case hS => exact hHeld
        case hy => (refine Or.inl ⟨by rfl, ?_⟩; intro w hSw; (try go_split_ands); go_simp; (try with_reducible rfl))
        (try simp only [List.getElem_toArray, List.getElem_cons_succ, List.getElem_cons_zero, Act.put, List.setIfInBounds_toArray, List.set_cons_zero, List.set_cons_succ])
        apply wpAnyH_take (i := 9) rfl (by kernel_rfl) (by kernel_rfl) (by kernel_rfl)
        case hQ => exact fun _ _ _ h => h
        case hS => exact hHeld
        case hy => (refine Or.inl ⟨by rfl, ?_⟩; intro w hSw; (try go_split_ands); go_simp; (try with_reducible rfl))
        (try simp only [List.getElem_toArray, List.getElem_cons_succ, List.getElem_cons_zero, Act.put, List.setIfInBounds_toArray, List.set_cons_zero, List.set_cons_succ])
        apply wpAnyH_take (i := 10) rfl (by kernel_rfl) (by kernel_rfl) (by kernel_rfl)
        case hQ => exact fun _ _ _ h => h
        case hS => exact hHeld
        case hy => (refine Or.inl ⟨by rfl, ?_⟩; intro w hSw; (try go_split_ands); go_simp; (try with_reducible rfl))
        (try simp only [List.getElem_toArray, List.getElem_cons_succ, List.getElem_cons_zero, Act.put, List.setIfInBounds_toArray, List.set_cons_zero, List.set_cons_succ])
        apply wpAnyH_take (i := 11) rfl (by kernel_rfl) (by kernel_rfl) (by kernel_rfl)
        case hQ => exact fun _ _ _ h => h
        case hS => exact hHeld
        case hy => (refine Or.inl ⟨by rfl, ?_⟩; intro w hSw; (try go_split_ands); go_simp; (try with_reducible rfl))
        (try simp only [List.getElem_toArray, List.getElem_cons_succ, List.getElem_cons_zero, Act.put, List.setIfInBounds_toArray, List.set_cons_zero, List.set_cons_succ])
        apply wpAnyH_take (i := 12) rfl (by kernel_rfl) (by kernel_rfl) (by kernel_rfl)
        case hQ => exact fun _ _ _ h => h
        case hS => exact hHeld
        case hy => (refine Or.inl ⟨by rfl, ?_⟩; intro w hSw; (try go_split_ands); go_simp; (try with_reducible rfl))
        (try simp only [List.getElem_toArray, List.getElem_cons_succ, List.getElem_cons_zero, Act.put, List.setIfInBounds_toArray, List.set_cons_zero, List.set_cons_succ])
        apply wpAnyH_take (i := 13) rfl (by kernel_rfl) (by kernel_rfl) (by kernel_rfl)
        case hQ => exact fun _ _ _ h => h
        case hS => exact hHeld
        case hy => (refine Or.inl ⟨by rfl, ?_⟩; intro w hSw; (try go_split_ands); go_simp; (try with_reducible rfl))
        (try simp only [List.getElem_toArray, List.getElem_cons_succ, List.getElem_cons_zero, Act.put, List.setIfInBounds_toArray, List.set_cons_zero, List.set_cons_succ])
        refine wpAnyH_done (by kernel_rfl) ?_ _
        go_wp2_with fail
        go_meet
        exact ⟨by first | rfl | simp [kb, hLn], hb11⟩
      · (try simp only [List.getElem_toArray, List.getElem_cons_succ, List.getElem_cons_zero])
        go_simp
        obtain ⟨GD, hGD⟩ : ∃ g, g = V8.heap.size := ⟨_, rfl⟩
        obtain ⟨V12, hV12⟩ : ∃ qq, qq = V8.alloc (.cells (cvrow d.third d.first d.party (.slice D1 d.ticket.length d1) (.slice D2 d.box.length d2)) 27) := ⟨_, rfl⟩
        have hb12 : Below w6.heap.size w6 V12 := by rw [hV12]; exact hb8.alloc hb8.size _
        have nD12 : CvRow V12 GD d.third d.first d.party (.slice D1 d.ticket.length d1) (.slice D2 d.box.length d2) := by rw [hV12, hGD]; exact Whole.here _ _ _
        have rC12 := nC8.alloc (.cells (cvrow d.third d.first d.party (.slice D1 d.ticket.length d1) (.slice D2 d.box.length d2)) 27)
        rw [← hV12] at rC12
        rw [← hGD, ← hV12]
        clear hV12 hGD
        refine hKK.out _ _ (HCC.out _ hb12) (fun hHeld => ?_)
        clear hKK KK
        (try simp only [List.getElem_toArray, List.getElem_cons_succ, List.getElem_cons_zero, Act.put, List.setIfInBounds_toArray, List.set_cons_zero, List.set_cons_succ])
        refine wpAnyH_ready (rs := [2]) (by kernel_rfl) (by simp) ?_
        refine AllReadyH.cons rfl (fun KK hKK => ?_) AllReadyH.nil
        (try simp only [List.getElem_toArray, List.getElem_cons_succ, List.getElem_cons_zero])
        go_simp
        go_at_call 21
        refine (same_ _ _ L1 L2 _ _ V12 (HL16.out.below hb12 (Nat.le_refl _)) (HL26.out.below hb12 (Nat.le_refl _)) (by omega) (by omega)).mono ?_
        rintro e V13 ⟨rfl, hv13⟩
        rw [HRR.out.2]
        have hb13 := hb12.trans (hv13.mono hb12.size)
        have rC13 := Whole.below rC12 hv13 rC12.lt
        have rD13 := Whole.below nD12 hv13 nD12.lt
        clear hv13
        refine hKK.out _ _ (HCC.out _ hb13) (fun hHeld => ?_)
        clear hKK KK
        (try simp only [List.getElem_toArray, List.getElem_cons_succ, List.getElem_cons_zero, Act.put, List.setIfInBounds_toArray, List.set_cons_zero, List.set_cons_succ])
        refine wpAnyH_ready (rs := [7]) (by kernel_rfl) (by simp) ?_
        refine AllReadyH.cons rfl (fun KK hKK => ?_) AllReadyH.nil
        (try simp only [List.getElem_toArray, List.getElem_cons_succ, List.getElem_cons_zero])
        have hrs := rcsame (ca := 1) (cb := 1) (la := [c]) (lb := [d]) (Cvs.one rC13 (HB16.out.below hb13 (Nat.le_refl _)) (HB26.out.below hb13 (Nat.le_refl _)) HOC.out.2) (Cvs.one rD13 (HD16.out.below hb13 (Nat.le_refl _)) (HD26.out.below hb13 (Nat.le_refl _)) HOD.out.2) (by simp) (by simp)
        rw [← HRR.out.1] at hrs
        go_simp
        go_at_call 17
        refine hrs.mono ?_
        rintro e V14 ⟨rfl, hv14⟩
        have hb14 := hb13.trans (hv14.mono hb13.size)
        clear hrs hv14
        refine hKK.out _ _ (HCC.out _ hb14) (fun hHeld => ?_)
        clear hKK KK
        (try simp only [List.getElem_toArray, List.getElem_cons_succ, List.getElem_cons_zero, Act.put, List.setIfInBounds_toArray, List.set_cons_zero, List.set_cons_succ])
        apply wpAnyH_take (i := 8) rfl (by kernel_rfl) (by kernel_rfl) (by kernel_rfl)
        case hQ => exact fun _ _ _ h => h
        case hS => exact hHeld
        case hy => (refine Or.inl ⟨by rfl, ?_⟩; intro w hSw; (try go_split_ands); go_simp; (try with_reducible rfl))
        (try simp only [List.getElem_toArray, List.getElem_cons_succ, List.getElem_cons_zero, Act.put, List.setIfInBounds_toArray, List.set_cons_zero, List.set_cons_succ])
        apply wpAnyH_take (i := 9) rfl (by kernel_rfl) (by kernel_rfl) (by kernel_rfl)
        case hQ => exact fun _ _ _ h => h
        case hS => exact hHeld
        case hy => (refine Or.inl ⟨by rfl, ?_⟩; intro w hSw; (try go_split_ands); go_simp; (try with_reducible rfl))
        (try simp only [List.getElem_toArray, List.getElem_cons_succ, List.getElem_cons_zero, Act.put, List.setIfInBounds_toArray, List.set_cons_zero, List.set_cons_succ])
        apply wpAnyH_take (i := 10) rfl (by kernel_rfl) (by kernel_rfl) (by kernel_rfl)
        case hQ => exact fun _ _ _ h => h
        case hS => exact hHeld
        case hy => (refine Or.inl ⟨by rfl, ?_⟩; intro w hSw; (try go_split_ands); go_simp; (try with_reducible rfl))
        (try simp only [List.getElem_toArray, List.getElem_cons_succ, List.getElem_cons_zero, Act.put, List.setIfInBounds_toArray, List.set_cons_zero, List.set_cons_succ])
        apply wpAnyH_take (i := 11) rfl (by kernel_rfl) (by kernel_rfl) (by kernel_rfl)
        case hQ => exact fun _ _ _ h => h
        case hS => exact hHeld
        case hy => (refine Or.inl ⟨by rfl, ?_⟩; intro w hSw; (try go_split_ands); go_simp; (try with_reducible rfl))
        (try simp only [List.getElem_toArray, List.getElem_cons_succ, List.getElem_cons_zero, Act.put, List.setIfInBounds_toArray, List.set_cons_zero, List.set_cons_succ])
        apply wpAnyH_take (i := 12) rfl (by kernel_rfl) (by kernel_rfl) (by kernel_rfl)
        case hQ => exact fun _ _ _ h => h
        case hS => exact hHeld
        case hy => (refine Or.inl ⟨by rfl, ?_⟩; intro w hSw; (try go_split_ands); go_simp; (try with_reducible rfl))
        (try simp only [List.getElem_toArray, List.getElem_cons_succ, List.getElem_cons_zero, Act.put, List.setIfInBounds_toArray, List.set_cons_zero, List.set_cons_succ])
        apply wpAnyH_take (i := 13) rfl (by kernel_rfl) (by kernel_rfl) (by kernel_rfl)
        case hQ => exact fun _ _ _ h => h
        case hS => exact hHeld
        case hy => (refine Or.inl ⟨by rfl, ?_⟩; intro w hSw; (try go_split_ands); go_simp; (try with_reducible rfl))
        (try simp only [List.getElem_toArray, List.getElem_cons_succ, List.getElem_cons_zero, Act.put, List.setIfInBounds_toArray, List.set_cons_zero, List.set_cons_succ])
        refine wpAnyH_done (by kernel_rfl) ?_ _
        go_wp2_with fail
        go_meet
        exact ⟨by first | rfl | simp [kb, hLn], hb14⟩
    · (try simp only [List.getElem_toArray, List.getElem_cons_succ, List.getElem_cons_zero])
      go_simp
      obtain ⟨GD, hGD⟩ : ∃ g, g = W0.heap.size := ⟨_, rfl⟩
      obtain ⟨V15, hV15⟩ : ∃ qq, qq = W0.alloc (.cells (cvrow d.third d.first d.party (.slice D1 d.ticket.length d1) (.slice D2 d.box.length d2)) 27) := ⟨_, rfl⟩
      have hb15 : Below w6.heap.size w6 V15 := by rw [hV15]; exact hb0.alloc hb0.size _
      have nD15 : CvRow V15 GD d.third d.first d.party (.slice D1 d.ticket.length d1) (.slice D2 d.box.length d2) := by rw [hV15, hGD]; exact Whole.here _ _ _
      rw [← hGD, ← hV15]
      clear hV15 hGD
      refine hKK.out _ _ (HCC.out _ hb15) (fun hHeld => ?_)
      clear hKK KK
      (try simp only [List.getElem_toArray, List.getElem_cons_succ, List.getElem_cons_zero, Act.put, List.setIfInBounds_toArray, List.set_cons_zero, List.set_cons_succ])
      refine wpAnyH_ready (rs := [2, 4]) (by kernel_rfl) (by simp) ?_
      refine AllReadyH.cons rfl (fun KK hKK => ?_) (AllReadyH.cons rfl (fun KK hKK => ?_) AllReadyH.nil)
      · (try simp only [List.getElem_toArray, List.getElem_cons_succ, List.getElem_cons_zero])
        go_simp
        go_at_call 21
        refine (same_ _ _ L1 L2 _ _ V15 (HL16.out.below hb15 (Nat.le_refl _)) (HL26.out.below hb15 (Nat.le_refl _)) (by omega) (by omega)).mono ?_
        rintro e V16 ⟨rfl, hv16⟩
        rw [HRR.out.2]
        have hb16 := hb15.trans (hv16.mono hb15.size)
        have rD16 := Whole.below nD15 hv16 nD15.lt
        clear hv16
        refine hKK.out _ _ (HCC.out _ hb16) (fun hHeld => ?_)
        clear hKK KK
        (try simp only [List.getElem_toArray, List.getElem_cons_succ, List.getElem_cons_zero, Act.put, List.setIfInBounds_toArray, List.set_cons_zero, List.set_cons_succ])
        refine wpAnyH_ready (rs := [4]) (by kernel_rfl) (by simp) ?_
        refine AllReadyH.cons rfl (fun KK hKK => ?_) AllReadyH.nil
        (try simp only [List.getElem_toArray, List.getElem_cons_succ, List.getElem_cons_zero])
        go_simp
        obtain ⟨GC, hGC⟩ : ∃ g, g = V16.heap.size := ⟨_, rfl⟩
        obtain ⟨V17, hV17⟩ : ∃ qq, qq = V16.alloc (.cells (cvrow c.third c.first c.party (.slice B1 c.ticket.length b1) (.slice B2 c.box.length b2)) 27) := ⟨_, rfl⟩
        have hb17 : Below w6.heap.size w6 V17 := by rw [hV17]; exact hb16.alloc hb16.size _
        have nC17 : CvRow V17 GC c.third c.first c.party (.slice B1 c.ticket.length b1) (.slice B2 c.box.length b2) := by rw [hV17, hGC]; exact Whole.here _ _ _
        have rD17 := rD16.alloc (.cells (cvrow c.third c.first c.party (.slice B1 c.ticket.length b1) (.slice B2 c.box.length b2)) 27)
        rw [← hV17] at rD17
        rw [← hGC, ← hV17]
        clear hV17 hGC
        refine hKK.out _ _ (HCC.out _ hb17) (fun hHeld => ?_)
        clear hKK KK
        (try simp only [List.getElem_toArray, List.getElem_cons_succ, List.getElem_cons_zero, Act.put, List.setIfInBounds_toArray, List.set_cons_zero, List.set_cons_succ])
        refine wpAnyH_ready (rs := [7]) (by kernel_rfl) (by simp) ?_
        refine AllReadyH.cons rfl (fun KK hKK => ?_) AllReadyH.nil
        (try simp only [List.getElem_toArray, List.getElem_cons_succ, List.getElem_cons_zero])
        have hrs := rcsame (ca := 1) (cb := 1) (la := [c]) (lb := [d]) (Cvs.one nC17 (HB16.out.below hb17 (Nat.le_refl _)) (HB26.out.below hb17 (Nat.le_refl _)) HOC.out.2) (Cvs.one rD17 (HD16.out.below hb17 (Nat.le_refl _)) (HD26.out.below hb17 (Nat.le_refl _)) HOD.out.2) (by simp) (by simp)
        rw [← HRR.out.1] at hrs
        go_simp
        go_at_call 17
        refine hrs.mono ?_
        rintro e V18 ⟨rfl, hv18⟩
        have hb18 := hb17.trans (hv18.mono hb17.size)
        clear hrs hv18
        refine hKK.out _ _ (HCC.out _ hb18) (fun hHeld => ?_)
        clear hKK KK
        (try simp only [List.getElem_toArray, List.getElem_cons_succ, List.getElem_cons_zero, Act.put, List.setIfInBounds_toArray, List.set_cons_zero, List.set_cons_succ])
        apply wpAnyH_take (i := 8) rfl (by kernel_rfl) (by kernel_rfl) (by kernel_rfl)
        case hQ => exact fun _ _ _ h => h
        case hS => exact hHeld
        case hy => (refine Or.inl ⟨by rfl, ?_⟩; intro w hSw; (try go_split_ands); go_simp; (try with_reducible rfl))
        (try simp only [List.getElem_toArray, List.getElem_cons_succ, List.getElem_cons_zero, Act.put, List.setIfInBounds_toArray, List.set_cons_zero, List.set_cons_succ])
        apply wpAnyH_take (i := 9) rfl (by kernel_rfl) (by kernel_rfl) (by kernel_rfl)
        case hQ => exact fun _ _ _ h => h
        case hS => exact hHeld
        case hy => (refine Or.inl ⟨by rfl, ?_⟩; intro w hSw; (try go_split_ands); go_simp; (try with_reducible rfl))
        (try simp only [List.getElem_toArray, List.getElem_cons_succ, List.getElem_cons_zero, Act.put, List.setIfInBounds_toArray, List.set_cons_zero, List.set_cons_succ])
        apply wpAnyH_take (i := 10) rfl (by kernel_rfl) (by kernel_rfl) (by kernel_rfl)
        case hQ => exact fun _ _ _ h => h
        case hS => exact hHeld
        case hy => (refine Or.inl ⟨by rfl, ?_⟩; intro w hSw; (try go_split_ands); go_simp; (try with_reducible rfl))
        (try simp only [List.getElem_toArray, List.getElem_cons_succ, List.getElem_cons_zero, Act.put, List.setIfInBounds_toArray, List.set_cons_zero, List.set_cons_succ])
        apply wpAnyH_take (i := 11) rfl (by kernel_rfl) (by kernel_rfl) (by kernel_rfl)
        case hQ => exact fun _ _ _ h => h
        case hS => exact hHeld
        case hy => (refine Or.inl ⟨by rfl, ?_⟩; intro w hSw; (try go_split_ands); go_simp; (try with_reducible rfl))
        (try simp only [List.getElem_toArray, List.getElem_cons_succ, List.getElem_cons_zero, Act.put, List.setIfInBounds_toArray, List.set_cons_zero, List.set_cons_succ])
        apply wpAnyH_take (i := 12) rfl (by kernel_rfl) (by kernel_rfl) (by kernel_rfl)
        case hQ => exact fun _ _ _ h => h
        case hS => exact hHeld
        case hy => (refine Or.inl ⟨by rfl, ?_⟩; intro w hSw; (try go_split_ands); go_simp; (try with_reducible rfl))
        (try simp only [List.getElem_toArray, List.getElem_cons_succ, List.getElem_cons_zero, Act.put, List.setIfInBounds_toArray, List.set_cons_zero, List.set_cons_succ])
        apply wpAnyH_take (i := 13) rfl (by kernel_rfl) (by kernel_rfl) (by kernel_rfl)
        case hQ => exact fun _ _ _ h => h
        case hS => exact hHeld
        case hy => (refine Or.inl ⟨by rfl, ?_⟩; intro w hSw; (try go_split_ands); go_simp; (try with_reducible rfl))
        (try simp only [List.getElem_toArray, List.getElem_cons_succ, List.getElem_cons_zero, Act.put, List.setIfInBounds_toArray, List.set_cons_zero, List.set_cons_succ])
        refine wpAnyH_done (by kernel_rfl) ?_ _
        go_wp2_with fail
        go_meet
        exact ⟨by first | rfl | simp [kb, hLn], hb18⟩
      · (try simp only [List.getElem_toArray, List.getElem_cons_succ, List.getElem_cons_zero])
        go_simp
        obtain ⟨GC, hGC⟩ : ∃ g, g = V15.heap.size := ⟨_, rfl⟩
        obtain ⟨V19, hV19⟩ : ∃ qq, qq = V15.alloc (.cells (cvrow c.third c.first c.party (.slice B1 c.ticket.length b1) (.slice B2 c.box.length b2)) 27) := ⟨_, rfl⟩
        have hb19 : Below w6.heap.size w6 V19 := by rw [hV19]; exact hb15.alloc hb15.size _
        have nC19 : CvRow V19 GC c.third c.first c.party (.slice B1 c.ticket.length b1) (.slice B2 c.box.length b2) := by rw [hV19, hGC]; exact Whole.here _ _ _
        have rD19 := nD15.alloc (.cells (cvrow c.third c.first c.party (.slice B1 c.ticket.length b1) (.slice B2 c.box.length b2)) 27)
        rw [← hV19] at rD19
        rw [← hGC, ← hV19]
        clear hV19 hGC
        refine hKK.out _ _ (HCC.out _ hb19) (fun hHeld => ?_)
        clear hKK KK
        (try simp only [List.getElem_toArray, List.getElem_cons_succ, List.getElem_cons_zero, Act.put, List.setIfInBounds_toArray, List.set_cons_zero, List.set_cons_succ])
        refine wpAnyH_ready (rs := [2]) (by kernel_rfl) (by simp) ?_
        refine AllReadyH.cons rfl (fun KK hKK => ?_) AllReadyH.nil
        (try simp only [List.getElem_toArray, List.getElem_cons_succ, List.getElem_cons_zero])
        go_simp
        go_at_call 21
        refine (same_ _ _ L1 L2 _ _ V19 (HL16.out.below hb19 (Nat.le_refl _)) (HL26.out.below hb19 (Nat.le_refl _)) (by omega) (by omega)).mono ?_
        rintro e V20 ⟨rfl, hv20⟩
        rw [HRR.out.2]
        have hb20 := hb19.trans (hv20.mono hb19.size)
        have rC20 := Whole.below nC19 hv20 nC19.lt
        have rD20 := Whole.below rD19 hv20 rD19.lt
        clear hv20
        refine hKK.out _ _ (HCC.out _ hb20) (fun hHeld => ?_)
        clear hKK KK
        (try simp only [List.getElem_toArray, List.getElem_cons_succ, List.getElem_cons_zero, Act.put, List.setIfInBounds_toArray, List.set_cons_zero, List.set_cons_succ])
        refine wpAnyH_ready (rs := [7]) (by kernel_rfl) (by simp) ?_
        refine AllReadyH.cons rfl (fun KK hKK => ?_) AllReadyH.nil
        (try simp only [List.getElem_toArray, List.getElem_cons_succ, List.getElem_cons_zero])
        have hrs := rcsame (ca := 1) (cb := 1) (la := [c]) (lb := [d]) (Cvs.one rC20 (HB16.out.below hb20 (Nat.le_refl _)) (HB26.out.below hb20 (Nat.le_refl _)) HOC.out.2) (Cvs.one rD20 (HD16.out.below hb20 (Nat.le_refl _)) (HD26.out.below hb20 (Nat.le_refl _)) HOD.out.2) (by simp) (by simp)
        rw [← HRR.out.1] at hrs
        go_simp
        go_at_call 17
        refine hrs.mono ?_
        rintro e V21 ⟨rfl, hv21⟩
        have hb21 := hb20.trans (hv21.mono hb20.size)
        clear hrs hv21
        refine hKK.out _ _ (HCC.out _ hb21) (fun hHeld => ?_)
        clear hKK KK
        (try simp only [List.getElem_toArray, List.getElem_cons_succ, List.getElem_cons_zero, Act.put, List.setIfInBounds_toArray, List.set_cons_zero, List.set_cons_succ])
        apply wpAnyH_take (i := 8) rfl (by kernel_rfl) (by kernel_rfl) (by kernel_rfl)
        case hQ => exact fun _ _ _ h => h
        case hS => exact hHeld
        case hy => (refine Or.inl ⟨by rfl, ?_⟩; intro w hSw; (try go_split_ands); go_simp; (try with_reducible rfl))
        (try simp only [List.getElem_toArray, List.getElem_cons_succ, List.getElem_cons_zero, Act.put, List.setIfInBounds_toArray, List.set_cons_zero, List.set_cons_succ])
        apply wpAnyH_take (i := 9) rfl (by kernel_rfl) (by kernel_rfl) (by kernel_rfl)
        case hQ => exact fun _ _ _ h => h
        case hS => exact hHeld
        case hy => (refine Or.inl ⟨by rfl, ?_⟩; intro w hSw; (try go_split_ands); go_simp; (try with_reducible rfl))
        (try simp only [List.getElem_toArray, List.getElem_cons_succ, List.getElem_cons_zero, Act.put, List.setIfInBounds_toArray, List.set_cons_zero, List.set_cons_succ])
        apply wpAnyH_take (i := 10) rfl (by kernel_rfl) (by kernel_rfl) (by kernel_rfl)
        case hQ => exact fun _ _ _ h => h
        case hS => exact hHeld
        case hy => (refine Or.inl ⟨by rfl, ?_⟩; intro w hSw; (try go_split_ands); go_simp; (try with_reducible rfl))
        (try simp only [List.getElem_toArray, List.getElem_cons_succ, List.getElem_cons_zero, Act.put, List.setIfInBounds_toArray, List.set_cons_zero, List.set_cons_succ])
        apply wpAnyH_take (i := 11) rfl (by kernel_rfl) (by kernel_rfl) (by kernel_rfl)
        case hQ => exact fun _ _ _ h => h
        case hS => exact hHeld
        case hy => (refine Or.inl ⟨by rfl, ?_⟩; intro w hSw; (try go_split_ands); go_simp; (try with_reducible rfl))
        (try simp only [List.getElem_toArray, List.getElem_cons_succ, List.getElem_cons_zero, Act.put, List.setIfInBounds_toArray, List.set_cons_zero, List.set_cons_succ])
        apply wpAnyH_take (i := 12) rfl (by kernel_rfl) (by kernel_rfl) (by kernel_rfl)
        case hQ => exact fun _ _ _ h => h
        case hS => exact hHeld
        case hy => (refine Or.inl ⟨by rfl, ?_⟩; intro w hSw; (try go_split_ands); go_simp; (try with_reducible rfl))
        (try simp only [List.getElem_toArray, List.getElem_cons_succ, List.getElem_cons_zero, Act.put, List.setIfInBounds_toArray, List.set_cons_zero, List.set_cons_succ])
        apply wpAnyH_take (i := 13) rfl (by kernel_rfl) (by kernel_rfl) (by kernel_rfl)
        case hQ => exact fun _ _ _ h => h
        case hS => exact hHeld
        case hy => (refine Or.inl ⟨by rfl, ?_⟩; intro w hSw; (try go_split_ands); go_simp; (try with_reducible rfl))
        (try simp only [List.getElem_toArray, List.getElem_cons_succ, List.getElem_cons_zero, Act.put, List.setIfInBounds_toArray, List.set_cons_zero, List.set_cons_succ])
        refine wpAnyH_done (by kernel_rfl) ?_ _
        go_wp2_with fail
        go_meet
        exact ⟨by first | rfl | simp [kb, hLn], hb21⟩
  case rest =>
    obtain ⟨rfl, hbc⟩ := hcut
    have hswc : w6.heap.size ≤ wc.heap.size := hbc.size
    have HXC := Lib.hid (HX6.out.below hbc (Nat.le_refl _))
    have HGC := Lib.hid (HG6.out.trans (hbc.mono (by omega)))
    have HLC := Lib.hid (HL16.out.below hbc (Nat.le_refl _))
    clear hbc HRC6 HRD6 HX6 HL16 HL26 HB16 HB26 HD16 HD26 HCD HOC HOD HB5
    go_upto_region 8 with (at_builtin; go_must (refine wpList_append_bytes rfl _ _ rfl wc.heap.size (.slice (some ⟨wc.heap.size, 0, none⟩) 0 0) [] rfl (own_lit wc wc.heap.size [] (Nat.le_refl _) (by simp)) _ _ L1 rfl (HLC.out.alloc _) (by simp; omega) (by simp) ?_; intro v7 w7 hown hb7; rw [List.nil_append] at hown))
    have HB7 : Hid (Below wc.heap.size wc w7) := Lib.hid (((Below.refl _ _).alloc (Nat.le_refl _) _).trans hb7)
    clear hb7
    obtain ⟨A7, c7, rfl, -⟩ := id (Bytes.of_own hown)
    have HO := Lib.hid hown
    clear hown
    have hcl := within_ za (L1.length : Int) (by omega) (by omega) HZA.out w7
    go_wp2_with fail
    refine hcl.mono ?_
    rintro e W9 ⟨⟨i, hi, rfl⟩, hw⟩
    subst hw
    clear hcl
    obtain ⟨gC, cap, hve, hge, hcell, hfr, hset⟩ := own_cell HO.out i (by omega)
    injection hve with hv1 hv2 hv3
    subst hv1 hv3
    clear hv2
    have hfin := hset y0
    obtain ⟨Y1, hY1⟩ : ∃ C, C = L1.set i y0 := ⟨_, rfl⟩
    have hY1l : Y1.length = L1.length := by rw [hY1, List.length_set]
    rw [← hY1] at hfin
    have hbf : Below wc.heap.size wc (W9.setCell ⟨gC, i, none⟩ (byt y0)) := HB7.out.setCell (p := ⟨gC, i, none⟩) hge _
    have HF := Lib.hid (And.intro hfin hbf)
    have j0 : (0 : Int) ≤ (i : Int) := by omega
    clear hset hfin hbf hY1
    go_upto_region 9 with fail
    obtain ⟨w8, hw8⟩ : ∃ q, q = W9.setCell ⟨gC, i, none⟩ (byt y0) := ⟨_, rfl⟩
    rw [← hw8] at HF
    change Code.wp _ _ _ _ (W9.setCell ⟨gC, i, none⟩ (byt y0))
    rw [← hw8]
    have hsw8 : wc.heap.size ≤ w8.heap.size := HF.out.2.size
    have hC := Bytes.of_own HF.out.1
    rw [← hY1l] at hC
    have HY := Lib.hid (hC.mono (Q' := fun _ => True) fun _ _ _ => trivial)
    have HX8 := Lib.hid ((HXC.out.below HF.out.2 (Nat.le_refl _)).mono (Q' := fun _ => True) fun _ _ _ => trivial)
    have HG8 := Lib.hid (HGC.out.trans (HF.out.2.mono (by omega)))
    clear hw8 hcell hfr hC HO HB7 HF HXC HGC HLC j0 hi
    rw [← hY1l]
    clear hY1l
    obtain ⟨A8, hA8⟩ : ∃ A : Option Addr, A = some (⟨gC, 0, none⟩ : Addr) := ⟨_, rfl⟩
    rw [← hA8] at HY ⊢
    clear hA8
    go_wp2_with fail
    go_loopw [0, 18] (fun rv v wr => ∃ (j : Nat) (Ar : Option Addr) (r : List B8) (cr : Nat), v = .int .i64 j ∧ j ≤ 2 ∧ rv = .slice Ar r.length cr ∧ Bytes wr (fun _ => True) (.slice Ar r.length cr) r ∧ Below w8.heap.size w8 wr) (fun _ v _ => 2 - (intOf v).toNat)
    case atStart => exact ⟨0, A0, X, c0, rfl, by omega, rfl, HX8.out, Below.refl _ _⟩
    case round =>
      obtain ⟨j, Ar, r, cr, rfl, hj, rfl, hr, hbw⟩ := hrel
      have hswr : w8.heap.size ≤ wr.heap.size := hbw.size
      have HBW := Lib.hid hbw
      have HR := Lib.hid hr
      obtain ⟨A9, c9, e9, hrc1, hrc2, -, -⟩ := id hr
      cases e9
      have HYW := Lib.hid (HY.out.below hbw (Nat.le_refl _))
      clear hbw hr
      by_cases hlt : j < 2
      case neg =>
        obtain rfl : j = 2 := by omega
        have hcl := cawake wr
        clear hlt hj
        go_wp2_with fail
        refine hcl.mono ?_
        rintro e w9 ⟨rfl, hb9⟩
        have HG := Lib.hid ((HG8.out.trans (HBW.out.mono (by omega))).trans (hb9.mono (by have := HG8.out.size; omega)))
        clear hcl hb9
        go_wp2_with fail
        go_ret
        exact ⟨rfl, HG.out⟩
      have jn : (j : Int) < 2 := by omega
      obtain ⟨⟨pc, n, er⟩, hD⟩ : ∃ q, q = cdn r := ⟨_, rfl⟩
      have hcl := cdecode _ r _ wr HR.out
      rw [← hD] at hcl
      dsimp only at hcl
      have HD := Lib.hid hD.symm
      clear hD
      go_wp2_with fail
      refine hcl.mono ?_
      rintro e u1 ⟨cv, rfl, hV, hb1⟩
      clear hcl
      obtain ⟨E1, e1, E2, e2, rfl, hx1, hx2, hwf⟩ := hV
      have hsu1 : wr.heap.size ≤ u1.heap.size := hb1.size
      obtain ⟨u2, hu2⟩ : ∃ q, q = (u1.alloc (.cells (cvrow false .zero 0 (.slice none 0 0) (.slice none 0 0)) 27)).setRow u1.heap.size (cvrow pc.third pc.first pc.party (.slice E1 pc.ticket.length e1) (.slice E2 pc.box.length e2)) := ⟨_, rfl⟩
      have hb12 : Below u1.heap.size u1 u2 := by rw [hu2]; exact below_setRow ((Below.refl _ _).alloc (Nat.le_refl _) _) (Nat.le_refl _) _
      have hr2 : CvRow u2 u1.heap.size pc.third pc.first pc.party (.slice E1 pc.ticket.length e1) (.slice E2 pc.box.length e2) := by rw [hu2]; exact Whole.setRow (Whole.here _ _ _) _
      have hsu2 : u1.heap.size < u2.heap.size := hr2.lt
      have hkz : Whole (u1.alloc (.cells #[.bool false, .int .i64 0, .int .u64 0, .int .i64 0, .int .i64 0, .string { data := #[] }, .int .i64 0, .int .i64 0, .slice none 0 0, .slice none 0 0] 27)) u1.heap.size 27 (cvrow false .zero 0 (.slice none 0 0) (.slice none 0 0)) := by rw [← cvrow_zero]; exact Whole.here _ _ _
      have HKZ := Lib.hid hkz
      have HU2 := Lib.hid hu2
      have HR2 := Lib.hid hr2
      have HBU := Lib.hid ((hb1.trans (hb12.mono hsu1)))
      have hcl := cencode (w := u2) (Q := fun _ => True) (c := pc) ⟨E1, e1, E2, e2, rfl, (hx1.below hb12 (Nat.le_refl _)).mono fun _ _ _ => trivial, (hx2.below hb12 (Nat.le_refl _)).mono fun _ _ _ => trivial, hwf⟩
      clear hx1 hx2 hwf hb1 hb12 hr2 hu2 hkz
      go_upto_region 13 with (with_reducible refine wpList_store_cav rfl _ _ rfl (g := u1.heap.size) rfl rfl HKZ.out (cvrow_size _ _ _ _ _) ?_)
      rw [← cvrow_zero, ← HU2.out]
      clear HU2 HKZ
      by_cases he : er = 0
      case neg =>
        have he2 : ¬ (er : Int) = 0 := by omega
        obtain ⟨⟨Z, fz⟩, hZ⟩ : ∃ q, q = ce pc := ⟨_, rfl⟩
        rw [← hZ] at hcl
        clear he hZ HD
        go_wp2_with (with_reducible refine wpList_load_cav rfl _ rfl rfl HR2.out ?_)
        refine hcl.mono ?_
        rintro e u3 ⟨v3, rfl, h3, hb3⟩
        clear hcl h3
        have HBE := Lib.hid (HBW.out.trans ((HBU.out.trans (hb3.mono (by omega))).mono hswr))
        have HYE := Lib.hid (HYW.out.below (HBU.out.trans (hb3.mono (by omega))) (Nat.le_refl _))
        clear hb3
        go_wp2_with fail
        go_roundw
        case rel => exact ⟨j + 1, A8, Y1, c7, by go_num, by omega, rfl, HYE.out, HBE.out⟩
        case measure => simp [intOf]; omega
      subst he
      obtain ⟨h1, h2, h3⟩ := cuniq_ok HD.out
      rw [h1] at hcl
      have hlz := congrArg List.length h3
      rw [List.length_take] at hlz
      have htk := HR.out.take n h2
      have HTK := Lib.hid htk
      have h2i : ¬ (r.length : Int) < (n : Int) := by omega
      have hni : (n : Int) ≤ (cr : Int) := by omega
      have hn0 : (0 : Int) ≤ (n : Int) := by omega
      obtain ⟨Z, hZ⟩ : ∃ Z, Z = cen pc := ⟨_, rfl⟩
      obtain ⟨rt, hrt⟩ : ∃ q, q = r.take n := ⟨_, rfl⟩
      rw [← hZ] at hcl h3 hlz
      rw [← hrt] at h3 HTK
      subst h3
      have hzl : Z.length ≤ 2100 := by rw [hZ]; exact cen_len (cdn_back HD.out).1
      clear hZ hrt htk h1 HD
      obtain rfl : n = Z.length := by omega
      clear hlz
      go_wp2_with (with_reducible refine wpList_load_cav rfl _ rfl rfl HR2.out ?_)
      refine hcl.mono ?_
      rintro e u3 ⟨v3, rfl, h3, hb3⟩
      clear hcl
      obtain ⟨A3, c3, rfl, -⟩ := id h3
      have hb03 := HBU.out.trans (hb3.mono (by omega))
      have hsm := same_ _ _ Z Z _ _ u3 h3 (HTK.out.below hb03 (Nat.le_refl _)) (by omega) (by omega)
      rw [decide_eq_true rfl] at hsm
      have hsu3 : u2.heap.size ≤ u3.heap.size := hb3.size
      have HB03 := Lib.hid hb03
      clear h3 hb3 hb03
      go_wp2_with fail
      refine hsm.mono ?_
      rintro e u4 ⟨rfl, hb4⟩
      clear hsm
      have HBE := Lib.hid (HBW.out.trans ((HB03.out.trans (hb4.mono (by omega))).mono hswr))
      have HYE := Lib.hid (HYW.out.below (HB03.out.trans (hb4.mono (by omega))) (Nat.le_refl _))
      clear hb4
      go_wp2_with fail
      go_roundw
      case rel => exact ⟨j + 1, A8, Y1, c7, by go_num, by omega, rfl, HYE.out, HBE.out⟩
      case measure => simp [intOf]; omega
end Go.Proofs.Ytknhnkmooaopmaa
