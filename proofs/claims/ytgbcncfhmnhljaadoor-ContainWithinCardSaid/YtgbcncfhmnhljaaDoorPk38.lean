/-
  The reference's Least.
-/
import Derived.Test.YtgbcncfhmnhljaaDoorPk12
import Derived.Test.YtgbcncfhmnhljaaDoorPk10
import Derived.Test.YtgbcncfhmnhljaaDoorPk15
namespace Go.Proofs.YtgbcncfhmnhljaaDoor
open Go Go.RowKit Sh Leaf

set_option linter.unusedSimpArgs false in
set_option maxRecDepth 100000 in
set_option maxHeartbeats 4000000 in
theorem rLeast {w : World} {Q : Nat → Prop} {x : Value} {a : Aut} (hx : Av w Q x a) :
    Calls Tryd.prog 23 #[x] w fun e w' => ClP a e ∧ Below w.heap.size w w' := by
  have hx0 := hx.any
  obtain ⟨A, c, rfl, hS, hab⟩ := hx
  obtain ⟨p0, hp⟩ : ∃ p, p = (w.alloc (.cells (avl a A c) 25)).alloc (.cells zctx 34) := ⟨_, rfl⟩
  have hb0 : Below w.heap.size w p0 := by rw [hp]; exact ab_below _ _ _
  have hr : ARow p0 w.heap.size a.none a.zones a.lines a.days a.lo a.hi (.slice A a.daily.length c) a.holder := by rw [hp]; exact (Whole.here _ _ _).alloc _
  have hz : Whole p0 (w.heap.size + 1) 34 zctx := by rw [hp]; exact Whole.at_ _ _ _ _ (by simp)
  have hav : Av p0 (fun _ => True) (.agg (arow a.none a.zones a.lines a.days a.lo a.hi (.slice A a.daily.length c) a.holder)) a := (Av.below hx0 hb0 (Nat.le_refl _)).all
  have HB0 := Lib.hid hb0
  have HZ0 := Lib.hid hz
  have HR0 := Lib.hid hr
  obtain ⟨r0, r1, r2, r3, r4, r5, r6, r7⟩ := ARow.cells hr
  obtain ⟨Va, hVa⟩ : ∃ V, decide (aok a) = V := ⟨_, rfl⟩
  have kA := raok hav
  rw [hVa] at kA
  have hVa' : Va = true ↔ aok a := by rw [← hVa]; exact decide_eq_true_iff
  have HO := Lib.hid hVa'
  clear hS hab hb0 hz hr hav hVa hVa' hx0
  go_enter Tryd.func23, Tryd.ntmps23
  go_upto_region 1 with fail
  rw [← hp]
  clear hp
  go_wp2_with fail
  refine kA.mono ?_
  rintro e p ⟨rfl, hb1⟩
  have HB := Lib.hid (HB0.out.trans (Below.mono hb1 (Below.size HB0.out)))
  have HZ := Lib.hid (Whole.below HZ0.out hb1 (Whole.lt HZ0.out))
  have HR := Lib.hid (Whole.below HR0.out hb1 (Whole.lt HR0.out))
  clear kA r0 r1 r2 r3 r4 r5 r6 r7 HB0 HZ0 HR0 hb1
  have hps : w.heap.size + 1 < p.heap.size := Whole.lt HZ.out
  cases Va
  · have HX : Hid (LeastR a zeroC false) := Lib.hid (.inl ⟨.inl fun h => (by have := HO.out.2 h; cases this), rfl, rfl⟩)
    go_wp2_with (with_reducible refine wpList_store_ctx0 rfl _ _ rfl (g := w.heap.size + 1) rfl rfl HZ.out rfl rfl (by with_unfolding_all rfl) ?_)
    refine bodyPost_ret (results_ctx2 (g := w.heap.size + 1) Tryd.results23 _ rfl _ rfl rfl (Whole.setRow HZ.out _)) rfl ?_
    exact ⟨⟨0, 0, 0, [], false, by rw [crow0]; rfl, HX.out⟩, below_setRow HB.out (by omega) _⟩
  have ha : aok a := HO.out.1 rfl
  obtain ⟨no, hno⟩ : ∃ b, a.none = b := ⟨_, rfl⟩
  obtain ⟨r0, r1, r2, r3, r4, r5, r6, r7⟩ := ARow.cells HR.out
  rw [hno] at r0
  cases no
  · obtain ⟨s1, s2, s3, s4, -⟩ := some_aok ha hno
    have HM : Hid (a.zones < 18446744073709551616 ∧ a.zones ≠ 0 ∧ a.lines < 18446744073709551616 ∧ a.lines ≠ 0) := Lib.hid ⟨s2, s1, by omega, s3⟩
    have HP : Hid (∀ W, Below p.heap.size p W → W.cell? ⟨w.heap.size, 0, none⟩ = some (.bool a.none) ∧ W.cell? ⟨w.heap.size, 1, none⟩ = some (.int .u64 (a.zones : Int)) ∧ W.cell? ⟨w.heap.size, 2, none⟩ = some (.int .u64 (a.lines : Int)) ∧ W.cell? ⟨w.heap.size, 3, none⟩ = some (.int .u64 (a.days : Int)) ∧ W.cell? ⟨w.heap.size, 4, none⟩ = some (.int .i64 a.lo) ∧ W.cell? ⟨w.heap.size, 5, none⟩ = some (.int .i64 a.hi) ∧ W.cell? ⟨w.heap.size, 6, none⟩ = some (.slice A a.daily.length c) ∧ W.cell? ⟨w.heap.size, 7, none⟩ = some (.string (sof a.holder))) := Lib.hid fun W hb => by
      have := ARow.cells (Whole.below HR.out hb (Whole.lt HR.out))
      exact this
    have HNO := Lib.hid hno
    clear s1 s2 s3 s4
    go_upto_region 3 with fail
    clear r0 r1 r2 r3 r4 r5 r6 r7
    go_cut [4] (fun s wx => ∃ (g i j : Nat), s = .pointer (some ⟨g, 0, none⟩) ∧ IsLow a.zones i ∧ IsLow a.lines j ∧ CRow wx g i j a.lo a.holder ∧ p.heap.size ≤ g ∧ Below p.heap.size p wx)
    case first =>
      have hb0 : Below p.heap.size p p.drew := Below.drew (Below.refl _ _)
      refine wp_region_held_drew (S := fun W : World => W.cell? ⟨w.heap.size, 0, none⟩ = some (.bool a.none) ∧ W.cell? ⟨w.heap.size, 1, none⟩ = some (.int .u64 (a.zones : Int)) ∧ W.cell? ⟨w.heap.size, 2, none⟩ = some (.int .u64 (a.lines : Int)) ∧ W.cell? ⟨w.heap.size, 3, none⟩ = some (.int .u64 (a.days : Int)) ∧ W.cell? ⟨w.heap.size, 4, none⟩ = some (.int .i64 a.lo) ∧ W.cell? ⟨w.heap.size, 5, none⟩ = some (.int .i64 a.hi) ∧ W.cell? ⟨w.heap.size, 6, none⟩ = some (.slice A a.daily.length c) ∧ W.cell? ⟨w.heap.size, 7, none⟩ = some (.string (sof a.holder))) (by kernel_rfl) (HP.out _ (Below.drew (Below.refl _ _))) (fun hHeld => ?_)
      apply wpAnyH_take (i := 0) rfl (by kernel_rfl) (by kernel_rfl) (by kernel_rfl)
      case hQ => exact fun _ _ _ h => h
      case hS => exact hHeld
      case hy => (refine Or.inl ⟨by rfl, ?_⟩; intro w hSw; go_split_ands; go_simp; (try with_reducible rfl))
      (try simp only [List.getElem_toArray, List.getElem_cons_zero, Act.put, List.setIfInBounds_toArray, List.set_cons_zero, List.set_cons_succ])
      apply wpAnyH_take (i := 1) rfl (by kernel_rfl) (by kernel_rfl) (by kernel_rfl)
      case hQ => exact fun _ _ _ h => h
      case hS => exact hHeld
      case hy => (refine Or.inl ⟨by rfl, ?_⟩; intro w hSw; go_split_ands; go_simp; (try with_reducible rfl))
      (try simp only [List.getElem_toArray, List.getElem_cons_succ, List.getElem_cons_zero, Act.put, List.setIfInBounds_toArray, List.set_cons_zero, List.set_cons_succ])
      apply wpAnyH_take (i := 3) rfl (by kernel_rfl) (by kernel_rfl) (by kernel_rfl)
      case hQ => exact fun _ _ _ h => h
      case hS => exact hHeld
      case hy => (refine Or.inl ⟨by rfl, ?_⟩; intro w hSw; go_split_ands; go_simp; (try with_reducible rfl))
      (try simp only [List.getElem_toArray, List.getElem_cons_succ, List.getElem_cons_zero, Act.put, List.setIfInBounds_toArray, List.set_cons_zero, List.set_cons_succ])
      apply wpAnyH_take (i := 4) rfl (by kernel_rfl) (by kernel_rfl) (by kernel_rfl)
      case hQ => exact fun _ _ _ h => h
      case hS => exact hHeld
      case hy => (refine Or.inl ⟨by rfl, ?_⟩; intro w hSw; go_split_ands; go_simp; (try with_reducible rfl))
      (try simp only [List.getElem_toArray, List.getElem_cons_succ, List.getElem_cons_zero, Act.put, List.setIfInBounds_toArray, List.set_cons_zero, List.set_cons_succ])
      apply wpAnyH_take (i := 6) rfl (by kernel_rfl) (by kernel_rfl) (by kernel_rfl)
      case hQ => exact fun _ _ _ h => h
      case hS => exact hHeld
      case hy => (refine Or.inl ⟨by rfl, ?_⟩; intro w hSw; go_split_ands; go_simp; (try with_reducible rfl))
      (try simp only [List.getElem_toArray, List.getElem_cons_succ, List.getElem_cons_zero, Act.put, List.setIfInBounds_toArray, List.set_cons_zero, List.set_cons_succ])
      apply wpAnyH_take (i := 7) rfl (by kernel_rfl) (by kernel_rfl) (by kernel_rfl)
      case hQ => exact fun _ _ _ h => h
      case hS => exact hHeld
      case hy => (refine Or.inl ⟨by rfl, ?_⟩; intro w hSw; go_split_ands; go_simp; (try with_reducible rfl))
      (try simp only [List.getElem_toArray, List.getElem_cons_succ, List.getElem_cons_zero, Act.put, List.setIfInBounds_toArray, List.set_cons_zero, List.set_cons_succ])
      apply wpAnyH_take (i := 8) rfl (by kernel_rfl) (by kernel_rfl) (by kernel_rfl)
      case hQ => exact fun _ _ _ h => h
      case hS => exact hHeld
      case hy => (refine Or.inl ⟨by rfl, ?_⟩; intro w hSw; go_split_ands; go_simp; (try with_reducible rfl))
      (try simp only [List.getElem_toArray, List.getElem_cons_succ, List.getElem_cons_zero, Act.put, List.setIfInBounds_toArray, List.set_cons_zero, List.set_cons_succ])
      apply wpAnyH_take (i := 9) rfl (by kernel_rfl) (by kernel_rfl) (by kernel_rfl)
      case hQ => exact fun _ _ _ h => h
      case hS => exact hHeld
      case hy => (refine Or.inl ⟨by rfl, ?_⟩; intro w hSw; go_split_ands; go_simp; (try with_reducible rfl))
      (try simp only [List.getElem_toArray, List.getElem_cons_succ, List.getElem_cons_zero, Act.put, List.setIfInBounds_toArray, List.set_cons_zero, List.set_cons_succ])
      refine wpAnyH_ready (rs := [2, 11]) (by kernel_rfl) (by simp) ?_
      refine AllReadyH.cons rfl (fun K hK => ?_) (AllReadyH.cons rfl (fun K hK => ?_) AllReadyH.nil)
      · (try simp only [List.getElem_toArray, List.getElem_cons_succ, List.getElem_cons_zero])
        go_simp
        go_at_call 28
        refine (rlowest a.zones HM.out.1 HM.out.2.1 _).mono ?_
        rintro e W1 ⟨⟨i1, rfl, hi1, -⟩, rfl⟩
        refine hK.out _ _ (HP.out _ hb0) (fun hHeld => ?_)
        clear hK K
        (try simp only [List.getElem_toArray, List.getElem_cons_succ, List.getElem_cons_zero, Act.put, List.setIfInBounds_toArray, List.set_cons_zero, List.set_cons_succ])
        refine wpAnyH_ready (rs := [5, 11]) (by kernel_rfl) (by simp) ?_
        refine AllReadyH.cons rfl (fun K hK => ?_) (AllReadyH.cons rfl (fun K hK => ?_) AllReadyH.nil)
        · (try simp only [List.getElem_toArray, List.getElem_cons_succ, List.getElem_cons_zero])
          go_simp
          go_at_call 28
          refine (rlowest a.lines HM.out.2.2.1 HM.out.2.2.2 _).mono ?_
          rintro e W2 ⟨⟨i2, rfl, hi2, -⟩, rfl⟩
          refine hK.out _ _ (HP.out _ hb0) (fun hHeld => ?_)
          clear hK K
          (try simp only [List.getElem_toArray, List.getElem_cons_succ, List.getElem_cons_zero, Act.put, List.setIfInBounds_toArray, List.set_cons_zero, List.set_cons_succ])
          apply wpAnyH_take (i := 10) rfl (by kernel_rfl) (by kernel_rfl) (by kernel_rfl)
          case hQ => exact fun _ _ _ h => h
          case hS => exact hHeld
          case hy => (refine Or.inl ⟨by rfl, ?_⟩; intro w hSw; go_split_ands; go_simp; (try with_reducible rfl))
          (try simp only [List.getElem_toArray, List.getElem_cons_succ, List.getElem_cons_zero, Act.put, List.setIfInBounds_toArray, List.set_cons_zero, List.set_cons_succ])
          refine wpAnyH_ready (rs := [11]) (by kernel_rfl) (by simp) ?_
          refine AllReadyH.cons rfl (fun K hK => ?_) AllReadyH.nil
          (try simp only [List.getElem_toArray, List.getElem_cons_succ, List.getElem_cons_zero])
          go_simp
          have hV3 : Whole (p.alloc (.cells zctx 34)).drew p.heap.size 34 zctx := Whole.drew (Whole.here _ _ _)
          have hb3 : Below p.heap.size p (p.alloc (.cells zctx 34)).drew := Below.drew (Below.alloc (Below.refl _ _) (Nat.le_refl _) _)
          refine hK.out _ _ (HP.out _ hb3) (fun hHeld => ?_)
          clear hK K
          (try simp only [List.getElem_toArray, List.getElem_cons_succ, List.getElem_cons_zero, Act.put, List.setIfInBounds_toArray, List.set_cons_zero, List.set_cons_succ])
          refine wpAnyH_ready (rs := [12]) (by kernel_rfl) (by simp) ?_
          refine AllReadyH.cons rfl (fun K hK => ?_) AllReadyH.nil
          (try simp only [List.getElem_toArray, List.getElem_cons_succ, List.getElem_cons_zero])
          rw [if_pos (by kernel_rfl)]
          refine wp_store_row 34 _ _ rfl p.heap.size _ rfl rfl 34 _ hV3 (by kernel_rfl) rfl (by with_unfolding_all rfl) ?_
          have hC4 : CRow ((p.alloc (.cells zctx 34)).drew.setRow p.heap.size (crow (i1 : Int) (i2 : Int) a.lo a.holder)) p.heap.size (i1 : Int) (i2 : Int) a.lo a.holder := Whole.setRow hV3 _
          have hb4 : Below p.heap.size p ((p.alloc (.cells zctx 34)).drew.setRow p.heap.size (crow (i1 : Int) (i2 : Int) a.lo a.holder)) := below_setRow hb3 (Nat.le_refl _) _
          refine hK.out _ _ (HP.out _ hb4) (fun hHeld => ?_)
          clear hK K
          (try simp only [List.getElem_toArray, List.getElem_cons_succ, List.getElem_cons_zero, Act.put, List.setIfInBounds_toArray, List.set_cons_zero, List.set_cons_succ])
          refine wpAnyH_done (by kernel_rfl) ?_ _
          go_wp2_with fail
          go_meet
          exact ⟨p.heap.size, i1, i2, rfl, hi1, hi2, hC4, Nat.le_refl _, hb4⟩
        · (try simp only [List.getElem_toArray, List.getElem_cons_succ, List.getElem_cons_zero])
          go_simp
          have hV5 : Whole (p.alloc (.cells zctx 34)).drew p.heap.size 34 zctx := Whole.drew (Whole.here _ _ _)
          have hb5 : Below p.heap.size p (p.alloc (.cells zctx 34)).drew := Below.drew (Below.alloc (Below.refl _ _) (Nat.le_refl _) _)
          refine hK.out _ _ (HP.out _ hb5) (fun hHeld => ?_)
          clear hK K
          (try simp only [List.getElem_toArray, List.getElem_cons_succ, List.getElem_cons_zero, Act.put, List.setIfInBounds_toArray, List.set_cons_zero, List.set_cons_succ])
          refine wpAnyH_ready (rs := [5]) (by kernel_rfl) (by simp) ?_
          refine AllReadyH.cons rfl (fun K hK => ?_) AllReadyH.nil
          (try simp only [List.getElem_toArray, List.getElem_cons_succ, List.getElem_cons_zero])
          go_simp
          go_at_call 28
          refine (rlowest a.lines HM.out.2.2.1 HM.out.2.2.2 _).mono ?_
          rintro e W6 ⟨⟨i6, rfl, hi6, -⟩, rfl⟩
          refine hK.out _ _ (HP.out _ hb5) (fun hHeld => ?_)
          clear hK K
          (try simp only [List.getElem_toArray, List.getElem_cons_succ, List.getElem_cons_zero, Act.put, List.setIfInBounds_toArray, List.set_cons_zero, List.set_cons_succ])
          apply wpAnyH_take (i := 10) rfl (by kernel_rfl) (by kernel_rfl) (by kernel_rfl)
          case hQ => exact fun _ _ _ h => h
          case hS => exact hHeld
          case hy => (refine Or.inl ⟨by rfl, ?_⟩; intro w hSw; go_split_ands; go_simp; (try with_reducible rfl))
          (try simp only [List.getElem_toArray, List.getElem_cons_succ, List.getElem_cons_zero, Act.put, List.setIfInBounds_toArray, List.set_cons_zero, List.set_cons_succ])
          refine wpAnyH_ready (rs := [12]) (by kernel_rfl) (by simp) ?_
          refine AllReadyH.cons rfl (fun K hK => ?_) AllReadyH.nil
          (try simp only [List.getElem_toArray, List.getElem_cons_succ, List.getElem_cons_zero])
          rw [if_pos (by kernel_rfl)]
          refine wp_store_row 34 _ _ rfl p.heap.size _ rfl rfl 34 _ hV5 (by kernel_rfl) rfl (by with_unfolding_all rfl) ?_
          have hC7 : CRow ((p.alloc (.cells zctx 34)).drew.setRow p.heap.size (crow (i1 : Int) (i6 : Int) a.lo a.holder)) p.heap.size (i1 : Int) (i6 : Int) a.lo a.holder := Whole.setRow hV5 _
          have hb7 : Below p.heap.size p ((p.alloc (.cells zctx 34)).drew.setRow p.heap.size (crow (i1 : Int) (i6 : Int) a.lo a.holder)) := below_setRow hb5 (Nat.le_refl _) _
          refine hK.out _ _ (HP.out _ hb7) (fun hHeld => ?_)
          clear hK K
          (try simp only [List.getElem_toArray, List.getElem_cons_succ, List.getElem_cons_zero, Act.put, List.setIfInBounds_toArray, List.set_cons_zero, List.set_cons_succ])
          refine wpAnyH_done (by kernel_rfl) ?_ _
          go_wp2_with fail
          go_meet
          exact ⟨p.heap.size, i1, i6, rfl, hi1, hi6, hC7, Nat.le_refl _, hb7⟩
      · (try simp only [List.getElem_toArray, List.getElem_cons_succ, List.getElem_cons_zero])
        go_simp
        have hV8 : Whole (p.alloc (.cells zctx 34)).drew p.heap.size 34 zctx := Whole.drew (Whole.here _ _ _)
        have hb8 : Below p.heap.size p (p.alloc (.cells zctx 34)).drew := Below.drew (Below.alloc (Below.refl _ _) (Nat.le_refl _) _)
        refine hK.out _ _ (HP.out _ hb8) (fun hHeld => ?_)
        clear hK K
        (try simp only [List.getElem_toArray, List.getElem_cons_succ, List.getElem_cons_zero, Act.put, List.setIfInBounds_toArray, List.set_cons_zero, List.set_cons_succ])
        refine wpAnyH_ready (rs := [2]) (by kernel_rfl) (by simp) ?_
        refine AllReadyH.cons rfl (fun K hK => ?_) AllReadyH.nil
        (try simp only [List.getElem_toArray, List.getElem_cons_succ, List.getElem_cons_zero])
        go_simp
        go_at_call 28
        refine (rlowest a.zones HM.out.1 HM.out.2.1 _).mono ?_
        rintro e W9 ⟨⟨i9, rfl, hi9, -⟩, rfl⟩
        refine hK.out _ _ (HP.out _ hb8) (fun hHeld => ?_)
        clear hK K
        (try simp only [List.getElem_toArray, List.getElem_cons_succ, List.getElem_cons_zero, Act.put, List.setIfInBounds_toArray, List.set_cons_zero, List.set_cons_succ])
        refine wpAnyH_ready (rs := [5]) (by kernel_rfl) (by simp) ?_
        refine AllReadyH.cons rfl (fun K hK => ?_) AllReadyH.nil
        (try simp only [List.getElem_toArray, List.getElem_cons_succ, List.getElem_cons_zero])
        go_simp
        go_at_call 28
        refine (rlowest a.lines HM.out.2.2.1 HM.out.2.2.2 _).mono ?_
        rintro e W10 ⟨⟨i10, rfl, hi10, -⟩, rfl⟩
        refine hK.out _ _ (HP.out _ hb8) (fun hHeld => ?_)
        clear hK K
        (try simp only [List.getElem_toArray, List.getElem_cons_succ, List.getElem_cons_zero, Act.put, List.setIfInBounds_toArray, List.set_cons_zero, List.set_cons_succ])
        apply wpAnyH_take (i := 10) rfl (by kernel_rfl) (by kernel_rfl) (by kernel_rfl)
        case hQ => exact fun _ _ _ h => h
        case hS => exact hHeld
        case hy => (refine Or.inl ⟨by rfl, ?_⟩; intro w hSw; go_split_ands; go_simp; (try with_reducible rfl))
        (try simp only [List.getElem_toArray, List.getElem_cons_succ, List.getElem_cons_zero, Act.put, List.setIfInBounds_toArray, List.set_cons_zero, List.set_cons_succ])
        refine wpAnyH_ready (rs := [12]) (by kernel_rfl) (by simp) ?_
        refine AllReadyH.cons rfl (fun K hK => ?_) AllReadyH.nil
        (try simp only [List.getElem_toArray, List.getElem_cons_succ, List.getElem_cons_zero])
        rw [if_pos (by kernel_rfl)]
        refine wp_store_row 34 _ _ rfl p.heap.size _ rfl rfl 34 _ hV8 (by kernel_rfl) rfl (by with_unfolding_all rfl) ?_
        have hC11 : CRow ((p.alloc (.cells zctx 34)).drew.setRow p.heap.size (crow (i9 : Int) (i10 : Int) a.lo a.holder)) p.heap.size (i9 : Int) (i10 : Int) a.lo a.holder := Whole.setRow hV8 _
        have hb11 : Below p.heap.size p ((p.alloc (.cells zctx 34)).drew.setRow p.heap.size (crow (i9 : Int) (i10 : Int) a.lo a.holder)) := below_setRow hb8 (Nat.le_refl _) _
        refine hK.out _ _ (HP.out _ hb11) (fun hHeld => ?_)
        clear hK K
        (try simp only [List.getElem_toArray, List.getElem_cons_succ, List.getElem_cons_zero, Act.put, List.setIfInBounds_toArray, List.set_cons_zero, List.set_cons_succ])
        refine wpAnyH_done (by kernel_rfl) ?_ _
        go_wp2_with fail
        go_meet
        exact ⟨p.heap.size, i9, i10, rfl, hi9, hi10, hC11, Nat.le_refl _, hb11⟩
    case rest =>
      obtain ⟨g, i, j, rfl, hi, hj, hC, hg, hb⟩ := hcut
      have hz : Whole wc (w.heap.size + 1) 34 zctx := Whole.below HZ.out hb (Whole.lt HZ.out)
      have hgl := Whole.lt HZ.out
      have hne : w.heap.size + 1 ≠ g := by omega
      by_cases he : a.holder = []
      · have hem : (sof a.holder).toList.isEmpty = true := by rw [sof_emp, he]; rfl
        have hL : LeastR a ⟨i, j, a.lo, [97#8]⟩ true := .inr ⟨ha, hno, rfl, i, j, hi, hj, by rw [show pick a.holder = [97#8] by unfold pick; rw [if_pos he]]⟩
        obtain ⟨k0, k1, k2, k3⟩ := CRow.cells hC
        obtain ⟨f0, f1, f2, f3⟩ := CRow.frees hC
        have es : ({ data := #[97] } : ByteArray) = sof [97#8] := by unfold sof; rfl
        have hC2 : CRow (wc.setCell ⟨g, 3, none⟩ (.string { data := #[97] })) g i j a.lo [97#8] := by rw [es]; exact CRow.set3 hC _
        have hz2 : Whole (wc.setCell ⟨g, 3, none⟩ (.string { data := #[97] })) (w.heap.size + 1) 34 zctx := hz.far (a := ⟨g, 3, none⟩) hne _
        have hb2 : Below p.heap.size p (wc.setCell ⟨g, 3, none⟩ (.string { data := #[97] })) := hb.setCell (p := ⟨g, 3, none⟩) hg _
        have HX := Lib.hid (And.intro hC2 (And.intro hz2 (And.intro hb2 hL)))
        clear hC hz hb hi hj hC2 hz2 hb2 hL es he hno ha
        go_upto_region 6 with fail
        generalize wc.setCell ⟨g, 3, none⟩ (.string { data := #[97] }) = w6 at HX ⊢
        clear k0 k1 k2 k3 f0 f1 f2 f3
        obtain ⟨k0, k1, k2, k3⟩ := CRow.cells HX.out.1
        go_wp2_with (with_reducible refine wpList_store_ctx0 rfl _ _ rfl (g := w.heap.size + 1) rfl rfl HX.out.2.1 rfl rfl (by with_unfolding_all rfl) ?_)
        refine bodyPost_ret (results_ctx2 (g := w.heap.size + 1) Tryd.results23 _ rfl _ rfl rfl (Whole.setRow HX.out.2.1 _)) rfl ?_
        exact ⟨⟨_, _, _, _, _, rfl, HX.out.2.2.2⟩, below_setRow (HB.out.trans (HX.out.2.2.1.mono (Below.size HB.out))) (by omega) _⟩
      · have hem : (sof a.holder).toList.isEmpty = false := by rw [sof_emp]; simp [he]
        have hL : LeastR a ⟨i, j, a.lo, a.holder⟩ true := .inr ⟨ha, hno, rfl, i, j, hi, hj, by rw [show pick a.holder = a.holder by unfold pick; rw [if_neg he]]⟩
        have HX := Lib.hid (And.intro hC (And.intro hz (And.intro hb hL)))
        obtain ⟨k0, k1, k2, k3⟩ := CRow.cells hC
        clear hC hz hb hi hj hL he hno ha
        go_wp2_with (with_reducible refine wpList_store_ctx0 rfl _ _ rfl (g := w.heap.size + 1) rfl rfl HX.out.2.1 rfl rfl (by with_unfolding_all rfl) ?_)
        refine bodyPost_ret (results_ctx2 (g := w.heap.size + 1) Tryd.results23 _ rfl _ rfl rfl (Whole.setRow HX.out.2.1 _)) rfl ?_
        exact ⟨⟨_, _, _, _, _, rfl, HX.out.2.2.2⟩, below_setRow (HB.out.trans (HX.out.2.2.1.mono (Below.size HB.out))) (by omega) _⟩
  · have hL : LeastR a ⟨0, 0, 0, []⟩ false := .inl ⟨.inr hno, rfl, rfl⟩
    have HX := Lib.hid (And.intro HZ.out hL)
    clear hL hno ha
    go_wp2_with (with_reducible refine wpList_store_ctx0 rfl _ _ rfl (g := w.heap.size + 1) rfl rfl HX.out.1 rfl rfl (by with_unfolding_all rfl) ?_)
    refine bodyPost_ret (results_ctx2 (g := w.heap.size + 1) Tryd.results23 _ rfl _ rfl rfl (Whole.setRow HX.out.1 _)) rfl ?_
    exact ⟨⟨0, 0, 0, [], false, by rw [crow0]; rfl, HX.out.2⟩, below_setRow HB.out (by omega) _⟩
end Go.Proofs.YtgbcncfhmnhljaaDoor
