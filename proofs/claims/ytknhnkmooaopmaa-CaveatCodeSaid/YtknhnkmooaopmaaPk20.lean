/-
  Package caveat: Decode.
  The law CaveatBack.
-/
import Derived.Deep.CutBlock
import Derived.Deep.RegionHeld3
import Derived.Test.YtknhnkmooaopmaaPk17
import Derived.Test.YtknhnkmooaopmaaPk9
import Derived.Test.YtknhnkmooaopmaaKAnyG
import Derived.Test.YtknhnkmooaopmaaPk14
import Derived.Test.YtknhnkmooaopmaaPk22
import Derived.Test.YtknhnkmooaopmaaPk1
namespace Go.Proofs.Ytknhnkmooaopmaa
open Go Go.RowKit Sh Leaf

theorem crd_size : (Try.prog.info? 70).map (·.size) = some 3 := by kernel_rfl
theorem cavCells (th : Bool) (p : Prd) (pa : Int) (A1 A2 : Option Addr) (n1 c1 n2 c2 : Nat) : (cvrow th p pa (.slice A1 n1 c1) (.slice A2 n2 c2)).all (·.oneCell') = true := by simp [Value.oneCell']
theorem cav_range {w : World} {g : Nat} {cc : Cav} {vt vb : Value} (h : CvRow w g cc.third cc.first cc.party vt vb) : w.rangeAt g 0 [.bool cc.third, .int .i64 cc.first.kind, .int .u64 (cc.first.mask : Int), .int .i64 cc.first.lo, .int .i64 cc.first.hi, .string (sof cc.first.name), .int .i64 cc.first.num, .int .i64 cc.party, vt, vb] := fun j x hj => by
  rw [Nat.zero_add, Whole.cell h]
  unfold cvrow
  rw [List.getElem?_toArray]
  exact hj
/-- Behind the check at the end of Decode. -/
def DcP (g : Nat) (b : List B8) (G2 G6 : Nat) (cc : Cav) (A1 A2 : Option Addr) (c1 c2 : Nat) (D : Cav × Nat × Nat) (w w1 wx : World) : Prop := ∃ u E, (E = 0 → D = (cc, u, 0)) ∧ (E ≠ 0 → D = (.zero, 0, E)) ∧ Crd g wx b u E ∧ Below w.heap.size w wx ∧ CvRow wx G6 cc.third cc.first cc.party (.slice A1 cc.ticket.length c1) (.slice A2 cc.box.length c2) ∧ CvRow wx G2 false .zero 0 (.slice none 0 0) (.slice none 0 0) ∧
  Bytes wx (fun q => w1.heap.size ≤ q) (.slice A1 cc.ticket.length c1) cc.ticket ∧ Bytes wx (fun q => w1.heap.size ≤ q) (.slice A2 cc.box.length c2) cc.box
set_option linter.unusedSimpArgs false in
set_option linter.unusedVariables false in
set_option maxRecDepth 100000 in
set_option maxHeartbeats 4000000 in
theorem cdecode (v : Value) (b : List B8) (Q : Nat → Prop) (w : World) (hr : Bytes w Q v b) :
    Calls Try.prog 23 #[v] w fun e w' => ∃ cv, e = .returned (.tuple #[cv, .int .i64 ((cdn b).2.1 : Int), .int .i64 ((cdn b).2.2 : Int)]) ∧ CavV w' (fun q => w.heap.size ≤ q) cv (cdn b).1 ∧ Below w.heap.size w w' := by
  obtain ⟨A, c, rfl, -⟩ := id hr
  obtain ⟨D, hD⟩ : ∃ D, D = cdn b := ⟨_, rfl⟩
  rw [← hD]
  have HD0 := Lib.hid hD
  obtain ⟨w0, hw0⟩ : ∃ q, q = w.alloc (.cells (cvrow false .zero 0 (.slice none 0 0) (.slice none 0 0)) 27) := ⟨_, rfl⟩
  have hz2 : CvRow w0 w.heap.size false .zero 0 (.slice none 0 0) (.slice none 0 0) := by rw [hw0]; exact Whole.here _ _ _
  have hb0 : Below w.heap.size w w0 := by rw [hw0]; exact (Below.refl _ _).alloc (Nat.le_refl _) _
  have hsw0 : w.heap.size < w0.heap.size := hz2.lt
  obtain ⟨w1, hw1⟩ : ∃ q, q = w0.alloc (.cells #[.slice A b.length c, .int .i64 0, .int .i64 0] 70) := ⟨_, rfl⟩
  have hb1 : Below w0.heap.size w0 w1 := by rw [hw1]; exact (Below.refl _ _).alloc (Nat.le_refl _) _
  have hrd : Crd w0.heap.size w1 b 0 0 := ⟨A, c, ((hr.mono (Q' := fun x => x < w0.heap.size) fun q hq _ => by omega).below hb0 (Nat.le_refl _)).below hb1 (Nat.le_refl _), by rw [hw1]; exact Whole.here _ _ _, by omega⟩
  have hsw1 : w0.heap.size < w1.heap.size := hrd.lt
  have hz21 := hz2.below hb1 (by omega)
  have HW1 := Lib.hid hw1
  have HZ1 : Hid (CvRow w1 w.heap.size false .zero 0 (.slice none 0 0) (.slice none 0 0)) := Lib.hid hz21
  have HB1 := Lib.hid (hb0.trans (hb1.mono (by omega)))
  have hcl := crcav w0.heap.size b w1 hrd
  clear hz2 hb0 hb1 hz21 hw1 hr hD hrd
  go_enter Try.func23, Try.ntmps23
  go_upto_region 1 with fail
  rw [← cvrow_zero, ← hw0]
  clear hw0
  go_upto_region 2 with fail
  rw [← HW1.out]
  clear HW1
  go_wp2_with fail
  refine hcl.mono ?_
  rintro e w2 ⟨v, cc, u, er, rfl, hV, hC, hcdn⟩
  clear hcl
  obtain ⟨A1, c1, A2, c2, rfl, hB1, hB2, hwf⟩ := hV
  have hsw2 : w1.heap.size ≤ w2.heap.size := hC.size
  have hDD : (cvok cc → (er = 0 → D = (cc, u, 0)) ∧ (er ≠ 0 → D = (.zero, 0, er))) ∧ (¬ cvok cc → (fste er 5 ≠ 0) ∧ D = (.zero, 0, fste er 5)) := by
    rw [HD0.out, hcdn]
    unfold fste
    by_cases he : er = 0
    · rw [if_pos he, if_pos he]
      exact ⟨fun h => ⟨fun _ => cfin_ok h u, fun h2 => absurd he h2⟩, fun h => ⟨by simp, cfin_bad h u⟩⟩
    · rw [if_neg he, if_neg he]
      exact ⟨fun h => ⟨fun h2 => absurd h2 he, fun _ => rfl⟩, fun h => ⟨he, rfl⟩⟩
  have HDD := Lib.hid hDD
  have HWF := Lib.hid hwf
  obtain ⟨w3, hw3⟩ : ∃ q, q = (w2.alloc (.cells (cvrow false .zero 0 (.slice none 0 0) (.slice none 0 0)) 27)).setRow w2.heap.size (cvrow cc.third cc.first cc.party (.slice A1 cc.ticket.length c1) (.slice A2 cc.box.length c2)) := ⟨_, rfl⟩
  have hb3 : Below w2.heap.size w2 w3 := by rw [hw3]; exact below_setRow ((Below.refl _ _).alloc (Nat.le_refl _) _) (Nat.le_refl _) _
  have hz3 : CvRow w3 w2.heap.size cc.third cc.first cc.party (.slice A1 cc.ticket.length c1) (.slice A2 cc.box.length c2) := by rw [hw3]; exact Whole.setRow (Whole.here _ _ _) _
  have hsw3 : w2.heap.size < w3.heap.size := hz3.lt
  have hkz : Whole (w2.alloc (.cells #[.bool false, .int .i64 0, .int .u64 0, .int .i64 0, .int .i64 0, .string { data := #[] }, .int .i64 0, .int .i64 0, .slice none 0 0, .slice none 0 0] 27)) w2.heap.size 27 (cvrow false .zero 0 (.slice none 0 0) (.slice none 0 0)) := by rw [← cvrow_zero]; exact Whole.here _ _ _
  have HKZ := Lib.hid hkz
  have HW3 := Lib.hid hw3
  have HC3 := Lib.hid (hC.1.below hb3 (by omega))
  have HB3 : Hid (Below w.heap.size w w3) := Lib.hid ((HB1.out.trans ((Below.mono hC.2.1 (by omega)))).trans (hb3.mono (by omega)))
  have HZ3 : Hid (CvRow w3 w.heap.size false .zero 0 (.slice none 0 0) (.slice none 0 0)) := Lib.hid (Whole.below (hC.2.2.oth _ _ _ (by omega) HZ1.out) hb3 (by omega))
  have HE3 := Lib.hid hz3
  have HT3 := Lib.hid (hB1.below hb3 (Nat.le_refl _))
  have HX3 := Lib.hid (hB2.below hb3 (Nat.le_refl _))
  clear hw3 hb3 hz3 hkz hC hB1 hB2 hcdn hDD hwf HZ1
  go_upto_region 3 with (with_reducible refine wpList_store_cav rfl _ _ rfl (g := w2.heap.size) rfl rfl HKZ.out (cvrow_size _ _ _ _ _) ?_)
  rw [← cvrow_zero, ← HW3.out]
  clear HW3 HKZ
  have hcl := cvalid (w := w3) (Q := fun q => w1.heap.size ≤ q) (c := cc) ⟨A1, c1, A2, c2, rfl, HT3.out, HX3.out, HWF.out⟩
  obtain ⟨R, hR⟩ : ∃ R, R = decide (cvok cc) := ⟨_, rfl⟩
  rw [← hR] at hcl
  have HRD := Lib.hid hR
  clear hR
  go_wp2_with (with_reducible refine wpList_load_cav rfl _ rfl rfl HE3.out ?_)
  refine hcl.mono ?_
  rintro e w4 ⟨rfl, hb4⟩
  clear hcl
  have hsw4 : w3.heap.size ≤ w4.heap.size := hb4.size
  have HC4 := Lib.hid (HC3.out.below hb4 (by omega))
  have HB4 := Lib.hid (HB3.out.trans (hb4.mono (by omega)))
  have HZ4 : Hid (CvRow w4 w.heap.size false .zero 0 (.slice none 0 0) (.slice none 0 0)) := Lib.hid (Whole.below HZ3.out hb4 (by omega))
  have HE4 : Hid (CvRow w4 w2.heap.size cc.third cc.first cc.party (.slice A1 cc.ticket.length c1) (.slice A2 cc.box.length c2)) := Lib.hid (Whole.below HE3.out hb4 (by omega))
  have HT4 := Lib.hid (HT3.out.below hb4 (Nat.le_refl _))
  have HX4 := Lib.hid (HX3.out.below hb4 (Nat.le_refl _))
  clear hb4 HC3 HB3 HZ3 HE3 HT3 HX3 HB1
  go_upto_if 13 with fail
  go_cut [] (fun wx => DcP w0.heap.size b w.heap.size w2.heap.size cc A1 A2 c1 c2 D w w1 wx)
  case first =>
    cases R
    · have hno : ¬ cvok cc := by have := HRD.out; simpa using this
      obtain ⟨hE1, hE2⟩ := HDD.out.2 hno
      have hcl := crfail w0.heap.size b u er 5 w4 HC4.out
      obtain ⟨E, hE⟩ : ∃ E, E = fste er 5 := ⟨_, rfl⟩
      rw [← hE] at hE1 hE2 hcl
      have HEE := Lib.hid (And.intro hE1 hE2)
      clear hE hE1 hE2 hno
      go_wp2_with fail
      refine hcl.mono ?_
      rintro e w5 ⟨⟨v5, rfl⟩, h5⟩
      clear hcl
      have hr := HC4.out.lt
      have HG5 : Hid (DcP w0.heap.size b w.heap.size w2.heap.size cc A1 A2 c1 c2 D w w1 w5) := Lib.hid ⟨u, E, fun h => absurd h HEE.out.1, fun _ => HEE.out.2, h5.1, HB4.out.trans (h5.2.1.mono (by omega)), h5.2.2.oth _ _ _ (by omega) HE4.out, h5.2.2.oth _ _ _ (by omega) HZ4.out, HT4.out.oth h5.2.2 (fun q hq => by have hq : w1.heap.size ≤ q := hq; omega), HX4.out.oth h5.2.2 (fun q hq => by have hq : w1.heap.size ≤ q := hq; omega)⟩
      clear h5
      go_wp2_with fail
      go_meet
      exact HG5.out
    · have hok : cvok cc := by have := HRD.out; simpa using this
      have HEE := Lib.hid (HDD.out.1 hok)
      clear hok
      go_wp2_with fail
      go_meet
      exact ⟨u, er, HEE.out.1, HEE.out.2, HC4.out, HB4.out, HE4.out, HZ4.out, HT4.out, HX4.out⟩
  case rest =>
    clear HC4 HB4 HZ4 HE4 HT4 HX4 HDD HRD
    obtain ⟨u, E, hE1, hE2, hC, hb, he6, hz, ht, hx⟩ := hcut
    have hwcs : w2.heap.size < wc.heap.size := he6.lt
    obtain ⟨A', c', hbb, hW, hu⟩ := id hC
    have l1 : wc.cell? ⟨w0.heap.size, 1, none⟩ = some (.int .i64 (u : Int)) := hW.cell 1
    have l2 : wc.cell? ⟨w0.heap.size, 2, none⟩ = some (.int .i64 (E : Int)) := hW.cell 2
    have HWR := Lib.hid hW
    have HB := Lib.hid hb
    have HE6 := Lib.hid he6
    have HZ := Lib.hid hz
    have HT := Lib.hid ht
    have HX := Lib.hid hx
    have L1 := Lib.hid l1
    have L2 := Lib.hid l2
    have HE1 := Lib.hid hE1
    have HE2 := Lib.hid hE2
    clear hb he6 hz ht hx hC hbb hW hu hE1 hE2 l1
    by_cases hE0 : E = 0
    case neg =>
      have hDz := HE2.out hE0
      subst hDz
      have hE0i : ¬ (E : Int) = 0 := by omega
      clear hE0 HD0 HE1 HE2
      go_upto_region 6 with fail
      refine wp_region_held_drew (S := fun W : World => W.cell? ⟨w0.heap.size, 2, none⟩ = some (.int .i64 (E : Int))) (by kernel_rfl) (L2.out) (fun hHeld => ?_)
      apply wpAnyH_take (i := 0) rfl (by kernel_rfl) (by kernel_rfl) (by kernel_rfl)
      case hQ => exact fun _ _ _ h => h
      case hS => exact hHeld
      case hy => (refine Or.inl ⟨by rfl, ?_⟩; intro w hSw; (try go_split_ands); go_simp; (try with_reducible rfl))
      (try simp only [List.getElem_toArray, List.getElem_cons_zero, Act.put, List.setIfInBounds_toArray, List.set_cons_zero, List.set_cons_succ])
      apply wpAnyH_take (i := 1) rfl (by kernel_rfl) (by kernel_rfl) (by kernel_rfl)
      case hQ => exact fun _ _ _ h => h
      case hS => exact hHeld
      case hy => (refine Or.inl ⟨by rfl, ?_⟩; intro w hSw; (try go_split_ands); go_simp; (try with_reducible rfl))
      (try simp only [List.getElem_toArray, List.getElem_cons_succ, List.getElem_cons_zero, Act.put, List.setIfInBounds_toArray, List.set_cons_zero, List.set_cons_succ])
      apply wpAnyH_take (i := 2) rfl (by kernel_rfl) (by kernel_rfl) (by kernel_rfl)
      case hQ => exact fun _ _ _ h => h
      case hS => exact hHeld
      case hy => (refine Or.inl ⟨by rfl, ?_⟩; intro w hSw; (try go_split_ands); go_simp; (try with_reducible rfl))
      (try simp only [List.getElem_toArray, List.getElem_cons_succ, List.getElem_cons_zero, Act.put, List.setIfInBounds_toArray, List.set_cons_zero, List.set_cons_succ])
      refine wpAnyH_ready (rs := [3]) (by kernel_rfl) (by simp) ?_
      refine AllReadyH.cons rfl (fun KK hKK => ?_) AllReadyH.nil
      obtain ⟨W1, hW1⟩ : ∃ x, x = wc.drew.setRow w.heap.size (cvrow false .zero 0 (.slice none 0 0) (.slice none 0 0)) := ⟨_, rfl⟩
      have hzd : CvRow wc.drew w.heap.size false .zero 0 (.slice none 0 0) (.slice none 0 0) := Whole.drew HZ.out
      have hfin : CvRow W1 w.heap.size false .zero 0 (.slice none 0 0) (.slice none 0 0) := by rw [hW1]; exact Whole.setRow hzd _
      have hbf : Below w.heap.size w W1 := by rw [hW1]; exact below_setRow (Below.drew HB.out) (Nat.le_refl _) _
      have hS1 : W1.cell? ⟨w0.heap.size, 2, none⟩ = some (.int .i64 (E : Int)) := by rw [hW1]; exact (Whole.setRow_far (Whole.drew HWR.out) (by omega) _).cell 2
      rw [if_pos (by kernel_rfl)]
      refine wp_store_row 27 _ _ rfl (w.heap.size) _ rfl rfl 27 _ hzd (by rw [cavSize]; rfl) (by rw [cvrow_size]; rfl) (by simp [Value.oneCell']) ?_
      rw [← cvrow_zero, ← hW1]
      clear hW1
      refine hKK.out _ _ (hS1) (fun hHeld => ?_)
      clear hKK KK
      (try simp only [List.getElem_toArray, List.getElem_cons_succ, List.getElem_cons_zero, Act.put, List.setIfInBounds_toArray, List.set_cons_zero, List.set_cons_succ])
      apply wpAnyH_take (i := 4) rfl (by kernel_rfl) (by kernel_rfl) (by kernel_rfl)
      case hQ => exact fun _ _ _ h => h
      case hS => exact hHeld
      case hy => (refine Or.inl ⟨by rfl, ?_⟩; intro w hSw; (try go_split_ands); go_simp; (try with_reducible rfl))
      (try simp only [List.getElem_toArray, List.getElem_cons_succ, List.getElem_cons_zero, Act.put, List.setIfInBounds_toArray, List.set_cons_zero, List.set_cons_succ])
      apply wpAnyH_take (i := 5) rfl (by kernel_rfl) (by kernel_rfl) (by kernel_rfl)
      case hQ => exact fun _ _ _ h => h
      case hS => exact hHeld
      case hy => (refine Or.inl ⟨by rfl, ?_⟩; intro w hSw; (try go_split_ands); go_simp; (try with_reducible rfl))
      (try simp only [List.getElem_toArray, List.getElem_cons_succ, List.getElem_cons_zero, Act.put, List.setIfInBounds_toArray, List.set_cons_zero, List.set_cons_succ])
      refine wpAnyH_done (by kernel_rfl) ?_ _
      clear hHeld
      go_wp2_with fail
      refine bodyPost_ret (results_cav2 Try.results23 _ rfl _ _ rfl rfl hfin) rfl ?_
      exact ⟨_, rfl, CavV.zero _ _, hbf⟩
    case pos =>
      subst hE0
      have hDz := HE1.out rfl
      subst hDz
      clear HD0 HE1 HE2
      go_upto_region 7 with fail
      have her : wc.drew.rangeAt w2.heap.size 0 [.bool cc.third, .int .i64 cc.first.kind, .int .u64 (cc.first.mask : Int), .int .i64 cc.first.lo, .int .i64 cc.first.hi, .string (sof cc.first.name), .int .i64 cc.first.num, .int .i64 cc.party, .slice A1 cc.ticket.length c1, .slice A2 cc.box.length c2] := cav_range (Whole.drew HE6.out)
      refine wp_region_held_drew (S := fun W : World => W.rangeAt w2.heap.size 0 [.bool cc.third, .int .i64 cc.first.kind, .int .u64 (cc.first.mask : Int), .int .i64 cc.first.lo, .int .i64 cc.first.hi, .string (sof cc.first.name), .int .i64 cc.first.num, .int .i64 cc.party, .slice A1 cc.ticket.length c1, .slice A2 cc.box.length c2] ∧ W.cell? ⟨w0.heap.size, 1, none⟩ = some (.int .i64 (u : Int))) (by kernel_rfl) (⟨her, L1.out⟩) (fun hHeld => ?_)
      apply wpAnyH_take (i := 0) rfl (by kernel_rfl) (by kernel_rfl) (by kernel_rfl)
      case hQ => exact fun _ _ _ h => h
      case hS => exact hHeld
      case hy => exact yieldsIf_load_mid (by rfl) 27 _ rfl w2.heap.size (0) rfl ([.bool cc.third, .int .i64 cc.first.kind, .int .u64 (cc.first.mask : Int), .int .i64 cc.first.lo, .int .i64 cc.first.hi, .string (sof cc.first.name), .int .i64 cc.first.num, .int .i64 cc.party, .slice A1 cc.ticket.length c1, .slice A2 cc.box.length c2]) _ (fun w hS => hS.1) Try.underlying27 rfl (by rw [cavSize]; rfl)
      (try simp only [List.getElem_toArray, List.getElem_cons_zero, Act.put, List.setIfInBounds_toArray, List.set_cons_zero, List.set_cons_succ])
      apply wpAnyH_take (i := 1) rfl (by kernel_rfl) (by kernel_rfl) (by kernel_rfl)
      case hQ => exact fun _ _ _ h => h
      case hS => exact hHeld
      case hy => (refine Or.inl ⟨by rfl, ?_⟩; intro w hSw; (try go_split_ands); go_simp; (try with_reducible rfl))
      (try simp only [List.getElem_toArray, List.getElem_cons_succ, List.getElem_cons_zero, Act.put, List.setIfInBounds_toArray, List.set_cons_zero, List.set_cons_succ])
      apply wpAnyH_take (i := 2) rfl (by kernel_rfl) (by kernel_rfl) (by kernel_rfl)
      case hQ => exact fun _ _ _ h => h
      case hS => exact hHeld
      case hy => (refine Or.inl ⟨by rfl, ?_⟩; intro w hSw; (try go_split_ands); go_simp; (try with_reducible rfl))
      (try simp only [List.getElem_toArray, List.getElem_cons_succ, List.getElem_cons_zero, Act.put, List.setIfInBounds_toArray, List.set_cons_zero, List.set_cons_succ])
      apply wpAnyH_take (i := 3) rfl (by kernel_rfl) (by kernel_rfl) (by kernel_rfl)
      case hQ => exact fun _ _ _ h => h
      case hS => exact hHeld
      case hy => (refine Or.inl ⟨by rfl, ?_⟩; intro w hSw; (try go_split_ands); go_simp; (try with_reducible rfl))
      (try simp only [List.getElem_toArray, List.getElem_cons_succ, List.getElem_cons_zero, Act.put, List.setIfInBounds_toArray, List.set_cons_zero, List.set_cons_succ])
      refine wpAnyH_ready (rs := [4]) (by kernel_rfl) (by simp) ?_
      refine AllReadyH.cons rfl (fun KK hKK => ?_) AllReadyH.nil
      obtain ⟨W1, hW1⟩ : ∃ x, x = wc.drew.setRow w.heap.size (cvrow cc.third cc.first cc.party (.slice A1 cc.ticket.length c1) (.slice A2 cc.box.length c2)) := ⟨_, rfl⟩
      have hzd : CvRow wc.drew w.heap.size false .zero 0 (.slice none 0 0) (.slice none 0 0) := Whole.drew HZ.out
      have hfin : CvRow W1 w.heap.size cc.third cc.first cc.party (.slice A1 cc.ticket.length c1) (.slice A2 cc.box.length c2) := by rw [hW1]; exact Whole.setRow hzd _
      have hbf : Below w.heap.size w W1 := by rw [hW1]; exact below_setRow (Below.drew HB.out) (Nat.le_refl _) _
      have hft : Bytes W1 (fun q => w.heap.size ≤ q) (.slice A1 cc.ticket.length c1) cc.ticket := by rw [hW1]; exact (HT.out.drew.keep fun q _ hq => setRow_other _ _ q _ (by have hq : w1.heap.size ≤ q := hq; omega)).mono fun q _ hq => by have hq : w1.heap.size ≤ q := hq; omega
      have hfx : Bytes W1 (fun q => w.heap.size ≤ q) (.slice A2 cc.box.length c2) cc.box := by rw [hW1]; exact (HX.out.drew.keep fun q _ hq => setRow_other _ _ q _ (by have hq : w1.heap.size ≤ q := hq; omega)).mono fun q _ hq => by have hq : w1.heap.size ≤ q := hq; omega
      have hS1 : W1.rangeAt w2.heap.size 0 [.bool cc.third, .int .i64 cc.first.kind, .int .u64 (cc.first.mask : Int), .int .i64 cc.first.lo, .int .i64 cc.first.hi, .string (sof cc.first.name), .int .i64 cc.first.num, .int .i64 cc.party, .slice A1 cc.ticket.length c1, .slice A2 cc.box.length c2] ∧ W1.cell? ⟨w0.heap.size, 1, none⟩ = some (.int .i64 (u : Int)) := by rw [hW1]; exact ⟨cav_range (Whole.setRow_far (Whole.drew HE6.out) (by omega) _), (Whole.setRow_far (Whole.drew HWR.out) (by omega) _).cell 1⟩
      rw [if_pos (by kernel_rfl)]
      refine wp_store_row 27 _ _ rfl (w.heap.size) (cvrow cc.third cc.first cc.party (.slice A1 cc.ticket.length c1) (.slice A2 cc.box.length c2)) rfl rfl 27 _ hzd (by rw [cavSize]; rfl) (by rw [cvrow_size]; rfl) (cavCells _ _ _ _ _ _ _ _ _) ?_
      rw [← hW1]
      clear hW1
      refine hKK.out _ _ (hS1) (fun hHeld => ?_)
      clear hKK KK
      (try simp only [List.getElem_toArray, List.getElem_cons_succ, List.getElem_cons_zero, Act.put, List.setIfInBounds_toArray, List.set_cons_zero, List.set_cons_succ])
      apply wpAnyH_take (i := 5) rfl (by kernel_rfl) (by kernel_rfl) (by kernel_rfl)
      case hQ => exact fun _ _ _ h => h
      case hS => exact hHeld
      case hy => (refine Or.inl ⟨by rfl, ?_⟩; intro w hSw; (try go_split_ands); go_simp; (try with_reducible rfl))
      (try simp only [List.getElem_toArray, List.getElem_cons_succ, List.getElem_cons_zero, Act.put, List.setIfInBounds_toArray, List.set_cons_zero, List.set_cons_succ])
      apply wpAnyH_take (i := 6) rfl (by kernel_rfl) (by kernel_rfl) (by kernel_rfl)
      case hQ => exact fun _ _ _ h => h
      case hS => exact hHeld
      case hy => (refine Or.inl ⟨by rfl, ?_⟩; intro w hSw; (try go_split_ands); go_simp; (try with_reducible rfl))
      (try simp only [List.getElem_toArray, List.getElem_cons_succ, List.getElem_cons_zero, Act.put, List.setIfInBounds_toArray, List.set_cons_zero, List.set_cons_succ])
      refine wpAnyH_done (by kernel_rfl) ?_ _
      clear hHeld
      go_wp2_with fail
      refine bodyPost_ret (results_cav2 Try.results23 _ rfl _ _ rfl rfl hfin) rfl ?_
      exact ⟨_, rfl, ⟨A1, c1, A2, c2, rfl, hft, hfx, HWF.out⟩, hbf⟩
end Go.Proofs.Ytknhnkmooaopmaa
namespace Go.Proofs.Ytknhnkmooaopmaa
open Go Go.RowKit Sh Leaf

theorem wpList_load_cavg {ops : Array Oper} {rest : List Oper} {o : Oper} {a : Act} {w : World} {Q : Exit → Act → World → Prop} {g : Nat} {c : Cav} {vt vb : Value} (hgd : Region.wanted o (yielded ops a.tmps) = true) (x : Operand) (ho : o.op = .load 27 x)
    (hx : a.eval x = .pointer (some ⟨g, 0, none⟩)) (hg : CvRow w g c.third c.first c.party vt vb) (h : wpList Try.prog ops Q rest (a.put o.dst (.agg (cvrow c.third c.first c.party vt vb))) w) : wpList Try.prog ops Q (o :: rest) a w := by
  show if Region.wanted o (yielded ops a.tmps) then _ else _
  rw [if_pos hgd]
  left
  exact wp_load_mid 27 x ho g 0 hx _ _ (cav_range hg) Try.underlying27 rfl (by rw [cavSize]; rfl) h
set_option linter.unusedSimpArgs false in
set_option linter.unusedVariables false in
set_option maxRecDepth 100000 in
set_option maxHeartbeats 4000000 in
theorem cback_law {Q : Nat → Prop} (A0 : Option Addr) (l0 : List Int) (c0 : Nat) (A1 : Option Addr) (x : List B8) (c1 : Nat) (w : World) (hI : Ints w (fun b => b < w.heap.size) A0 c0 l0) (hB : Bytes w Q (.slice A1 x.length c1) x) :
    Calls Try.prog 5 #[.slice A0 l0.length c0, .slice A1 x.length c1] w fun e w' => e = .returned (.bool true) ∧ Below w.heap.size w w' := by
  obtain ⟨n0, hn0⟩ : ∃ n, n = l0.length := ⟨_, rfl⟩
  rw [← hn0]
  have HC := (hB.mono (Q' := fun b => b < w.heap.size) fun b hb _ => hb).cut 30
  have E : min (x.length : Int) 30 = ((x.take 30).length : Int) := by rw [List.length_take]; omega
  have hqX : (x.take 30).length ≤ 30 := by simp; omega
  obtain ⟨A9, c9, e9, h1X, h2X, -, -⟩ := id HC
  cases e9
  generalize x.take 30 = X at *
  have h1Xi : (X.length : Int) ≤ (c1 : Int) := by omega
  have HX0 := Lib.hid HC
  have hdn := dnew A0 _ c0 l0 w hn0 hI
  clear hB HC hI hn0
  go_enter Try.func5, Try.ntmps5
  go_wp2_with fail
  refine hdn.mono ?_
  rintro e w0 ⟨rfl, hdk, hbu⟩
  clear hdn
  have hsw0 : w.heap.size < w0.heap.size := hdk.lt
  have HX1 := Lib.hid (HX0.out.below hbu (Nat.le_refl _))
  have HG0 := Lib.hid hbu
  have hcl := dcav w.heap.size w0 hdk
  clear hbu hdk
  go_wp2_with fail
  refine hcl.mono ?_
  rintro e w1 ⟨⟨v, c, rfl, hok, hV⟩, ht⟩
  clear hcl
  have hsw1 : w0.heap.size ≤ w1.heap.size := ht.2.1.size
  obtain ⟨B1, d1, B2, d2, rfl, hb1, hb2, hwf⟩ := hV
  have HX2 : Hid (Bytes w1 (fun b => b < w.heap.size) (.slice A1 X.length c1) X) := Lib.hid (HX1.out.oth ht.2.2 fun q hq => by have hq : q < w.heap.size := hq; omega)
  have HG1 := Lib.hid (HG0.out.trans ht.2.1)
  obtain ⟨w2, hw2⟩ : ∃ q, q = (w1.alloc (.cells (cvrow false .zero 0 (.slice none 0 0) (.slice none 0 0)) 27)).setRow w1.heap.size (cvrow c.third c.first c.party (.slice B1 c.ticket.length d1) (.slice B2 c.box.length d2)) := ⟨_, rfl⟩
  have hb12 : Below w1.heap.size w1 w2 := by rw [hw2]; exact below_setRow ((Below.refl _ _).alloc (Nat.le_refl _) _) (Nat.le_refl _) _
  have hr2 : CvRow w2 w1.heap.size c.third c.first c.party (.slice B1 c.ticket.length d1) (.slice B2 c.box.length d2) := by rw [hw2]; exact Whole.setRow (Whole.here _ _ _) _
  have hsw2 : w1.heap.size < w2.heap.size := hr2.lt
  have hkz : Whole (w1.alloc (.cells #[.bool false, .int .i64 0, .int .u64 0, .int .i64 0, .int .i64 0, .string { data := #[] }, .int .i64 0, .int .i64 0, .slice none 0 0, .slice none 0 0] 27)) w1.heap.size 27 (cvrow false .zero 0 (.slice none 0 0) (.slice none 0 0)) := by rw [← cvrow_zero]; exact Whole.here _ _ _
  have HKZ := Lib.hid hkz
  have HW2 := Lib.hid hw2
  have HR2 := Lib.hid hr2
  have HV2 : Hid (CavV w2 (fun _ => True) (.agg (cvrow c.third c.first c.party (.slice B1 c.ticket.length d1) (.slice B2 c.box.length d2))) c) := Lib.hid ⟨B1, d1, B2, d2, rfl, (hb1.below hb12 (Nat.le_refl _)).mono fun _ _ _ => trivial, (hb2.below hb12 (Nat.le_refl _)).mono fun _ _ _ => trivial, hwf⟩
  have HT2 := Lib.hid ((hb1.below hb12 (Nat.le_refl _)).mono (Q' := fun _ => True) fun _ _ _ => trivial)
  have HU2 := Lib.hid ((hb2.below hb12 (Nat.le_refl _)).mono (Q' := fun _ => True) fun _ _ _ => trivial)
  have HX3 := Lib.hid (HX2.out.below hb12 (Nat.le_refl _))
  have HG2 := Lib.hid (HG1.out.trans (hb12.mono (by omega)))
  have HOK := Lib.hid (And.intro hok hwf)
  clear ht hb1 hb2 hb12 hr2 hw2 hkz hok hwf
  go_upto_region 2 with (with_reducible refine wpList_store_cav rfl _ _ rfl (g := w1.heap.size) rfl rfl HKZ.out (cvrow_size _ _ _ _ _) ?_)
  rw [← cvrow_zero, ← HW2.out]
  clear HW2 HKZ
  go_upto_region 3 with fail
  clear E h1X h2X h1Xi
  have hce : ce c = (cen c, 0) := by unfold ce; exact if_pos HOK.out.1
  have hcl := cencode HV2.out
  rw [hce] at hcl
  have hdn := cdn_en HOK.out.1 (by have := HOK.out.2.1; simpa using this) X
  have hle := cen_len HOK.out.1
  obtain ⟨L, hL⟩ : ∃ L, L = cen c := ⟨_, rfl⟩
  rw [← hL] at hcl hdn hle
  have HDN := Lib.hid hdn
  clear hce hdn hL
  go_wp2_with (with_reducible refine wpList_load_cav rfl _ rfl rfl HR2.out ?_)
  refine hcl.mono ?_
  rintro e w3 ⟨v3, rfl, h3, hb3⟩
  clear hcl
  obtain ⟨A3, c3, rfl, -⟩ := id h3
  have hsw3 : w2.heap.size ≤ w3.heap.size := hb3.size
  have HR3 : Hid (CvRow w3 w1.heap.size c.third c.first c.party (.slice B1 c.ticket.length d1) (.slice B2 c.box.length d2)) := Lib.hid (Whole.below HR2.out hb3 hsw2)
  have HT3 := Lib.hid (HT2.out.below hb3 (Nat.le_refl _))
  have HU3 := Lib.hid (HU2.out.below hb3 (Nat.le_refl _))
  have HX4 := Lib.hid (HX3.out.below hb3 (Nat.le_refl _))
  have HG3 := Lib.hid (HG2.out.trans (hb3.mono (by omega)))
  have HL3 := Lib.hid h3
  clear h3 hb3
  go_upto_region 4 with fail
  go_wp2_with (first
    | (at_builtin; refine wpList_append_bytes rfl _ _ rfl w3.heap.size _ L rfl hown4 _ _ X rfl (HX4.out.below (((Below.refl _ _).alloc (Nat.le_refl _) _).trans hb4) (Nat.le_refl _)) (by omega) (Nat.le_trans (by simp) hb4.size) ?_; intro v5 w5 hown5 hb5)
    | (at_builtin; refine wpList_append_bytes rfl _ _ rfl w3.heap.size (.slice (some ⟨w3.heap.size, 0, none⟩) 0 0) [] rfl (own_lit w3 w3.heap.size [] (Nat.le_refl _) (by simp)) _ _ L rfl (HL3.out.alloc _) (by simp; omega) (by simp) ?_; intro v4 w4 hown4 hb4; rw [List.nil_append] at hown4))
  have hb35 : Below w3.heap.size w3 w5 := (((Below.refl _ _).alloc (Nat.le_refl _) _).trans hb4).trans hb5
  have hsw5 : w3.heap.size ≤ w5.heap.size := hb35.size
  have hdec := cdecode v5 (L ++ X) _ w5 (Bytes.of_own hown5)
  rw [HDN.out] at hdec
  dsimp only at hdec
  have HR5 : Hid (CvRow w5 w1.heap.size c.third c.first c.party (.slice B1 c.ticket.length d1) (.slice B2 c.box.length d2)) := Lib.hid (Whole.below HR3.out hb35 (by omega))
  have HT5 := Lib.hid (HT3.out.below hb35 (Nat.le_refl _))
  have HU5 := Lib.hid (HU3.out.below hb35 (Nat.le_refl _))
  have HG5 := Lib.hid (HG3.out.trans (hb35.mono (by omega)))
  clear hb35 hb4 hb5 hown4 hown5
  refine hdec.mono ?_
  rintro e w6 ⟨cv, rfl, hV6, hb6⟩
  clear hdec
  obtain ⟨E1, e1, E2, e2, rfl, hx1, hx2, -⟩ := hV6
  have hsw6 : w5.heap.size ≤ w6.heap.size := hb6.size
  obtain ⟨w7, hw7⟩ : ∃ q, q = (w6.alloc (.cells (cvrow false .zero 0 (.slice none 0 0) (.slice none 0 0)) 27)).setRow w6.heap.size (cvrow c.third c.first c.party (.slice E1 c.ticket.length e1) (.slice E2 c.box.length e2)) := ⟨_, rfl⟩
  have hb67 : Below w6.heap.size w6 w7 := by rw [hw7]; exact below_setRow ((Below.refl _ _).alloc (Nat.le_refl _) _) (Nat.le_refl _) _
  have hr7 : CvRow w7 w6.heap.size c.third c.first c.party (.slice E1 c.ticket.length e1) (.slice E2 c.box.length e2) := by rw [hw7]; exact Whole.setRow (Whole.here _ _ _) _
  have hsw7 : w6.heap.size < w7.heap.size := hr7.lt
  have hkz : Whole (w6.alloc (.cells #[.bool false, .int .i64 0, .int .u64 0, .int .i64 0, .int .i64 0, .string { data := #[] }, .int .i64 0, .int .i64 0, .slice none 0 0, .slice none 0 0] 27)) w6.heap.size 27 (cvrow false .zero 0 (.slice none 0 0) (.slice none 0 0)) := by rw [← cvrow_zero]; exact Whole.here _ _ _
  have HKZ := Lib.hid hkz
  have HW7 := Lib.hid hw7
  have HE7 := Lib.hid hr7
  have HX17 := Lib.hid ((hx1.mono (Q' := fun _ => True) fun _ _ _ => trivial).below hb67 (Nat.le_refl _))
  have HX27 := Lib.hid ((hx2.mono (Q' := fun _ => True) fun _ _ _ => trivial).below hb67 (Nat.le_refl _))
  have HR7 : Hid (CvRow w7 w1.heap.size c.third c.first c.party (.slice B1 c.ticket.length d1) (.slice B2 c.box.length d2)) := Lib.hid (Whole.below (Whole.below HR5.out hb6 (by omega)) hb67 (by omega))
  have HT7 := Lib.hid ((HT5.out.below hb6 (Nat.le_refl _)).below hb67 (Nat.le_refl _))
  have HU7 := Lib.hid ((HU5.out.below hb6 (Nat.le_refl _)).below hb67 (Nat.le_refl _))
  have HG7 := Lib.hid ((HG5.out.trans (hb6.mono (by omega))).trans (hb67.mono (by omega)))
  clear hx1 hx2 hb6 hb67 hw7 hr7 hkz
  go_upto_region 5 with (with_reducible refine wpList_store_cav rfl _ _ rfl (g := w6.heap.size) rfl rfl HKZ.out (cvrow_size _ _ _ _ _) ?_)
  rw [← cvrow_zero, ← HW7.out]
  clear HW7 HKZ
  go_wp2_with (first
    | (with_reducible refine wpList_load_cavg (by with_unfolding_all rfl) _ rfl rfl (Whole.alloc HR7.out _) ?_)
    | (with_reducible refine wpList_load_cavg (by with_unfolding_all rfl) _ rfl rfl HE7.out ?_))
  obtain ⟨w9, hw9⟩ : ∃ q, q = (w7.alloc (.cells (cvrow c.third c.first c.party (.slice E1 c.ticket.length e1) (.slice E2 c.box.length e2)) 27)).alloc (.cells (cvrow c.third c.first c.party (.slice B1 c.ticket.length d1) (.slice B2 c.box.length d2)) 27) := ⟨_, rfl⟩
  have hr8 : CvRow w9 w7.heap.size c.third c.first c.party (.slice E1 c.ticket.length e1) (.slice E2 c.box.length e2) := by rw [hw9]; exact (Whole.here _ _ _).alloc _
  have hr9 : CvRow w9 (w7.heap.size + 1) c.third c.first c.party (.slice B1 c.ticket.length d1) (.slice B2 c.box.length d2) := by rw [hw9]; exact Whole.at_ _ _ _ _ (by simp)
  have hb9 : Below w7.heap.size w7 w9 := by rw [hw9]; exact ((Below.refl _ _).alloc (Nat.le_refl _) _).alloc (by simp) _
  have hsame := rcsame (ca := 1) (cb := 1) (la := [c]) (lb := [c]) (Cvs.one hr8 (HX17.out.below hb9 (Nat.le_refl _)) (HX27.out.below hb9 (Nat.le_refl _)) HOK.out.2) (Cvs.one hr9 (HT7.out.below hb9 (Nat.le_refl _)) (HU7.out.below hb9 (Nat.le_refl _)) HOK.out.2) (by simp) (by simp)
  rw [decide_eq_true rfl] at hsame
  rw [← hw9]
  have HG9 := Lib.hid (HG7.out.trans (hb9.mono (by omega)))
  refine hsame.mono ?_
  rintro e w10 ⟨rfl, hb10⟩
  have HG10 := Lib.hid (HG9.out.trans (hb10.mono HG9.out.size))
  clear hsame hb10 hr8 hr9 hb9 hw9
  have hcl := cawake w10
  go_wp2_with fail
  refine hcl.mono ?_
  rintro e w11 ⟨rfl, hb11⟩
  have HG11 := Lib.hid (HG10.out.trans (hb11.mono HG10.out.size))
  clear hcl hb11
  go_wp2_with fail
  go_ret
  exact ⟨rfl, HG11.out⟩
end Go.Proofs.Ytknhnkmooaopmaa
