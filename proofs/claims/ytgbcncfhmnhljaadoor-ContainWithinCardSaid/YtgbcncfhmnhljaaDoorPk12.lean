/-
  The first ride of an authority: least.
  The reference's other.
-/
import Derived.Deep.DeepCutAuto
import Derived.Deep.RegionHeld3
import Derived.Test.YtgbcncfhmnhljaaDoorPk4
import Derived.Test.YtgbcncfhmnhljaaDoorPk10
import Derived.Test.YtgbcncfhmnhljaaDoorPk0
namespace Go.Proofs.YtgbcncfhmnhljaaDoor
open Go Go.RowKit Sh Leaf

theorem results_ctx2 {w : World} {g : Nat} {fn : Func} {p q : Tmp} (h : fn.results = #[.cell p 34, .tmp q]) (tmps : Array Value) (hp : tmps.getD p undef = .pointer (some ⟨g, 0, none⟩)) (x : Value) (hq : tmps.getD q undef = x) {cs : Array Value} (h4 : cs.size = 4) (hg : Whole w g 34 cs) :
    (results fn tmps).run Tryd.prog w = .ok (.tuple #[.agg cs, x]) w := by
  have hp' : tmps[p]?.getD undef = .pointer (some ⟨g, 0, none⟩) := by simpa using hp
  have hq' : tmps[q]?.getD undef = x := by simpa using hq
  simp [results, h, hp', hq', asAddr, run_loadVar_row w g 34 34 _ (0, 0) _ hg Tryd.underlying34 rfl (by rw [ctxSize, h4])]
theorem wpList_store_ctx0 {w : World} {g : Nat} {ops : Array Oper} {rest : List Oper} {o : Oper} {a : Act} {Q : Exit → Act → World → Prop} (hgd : o.guard = none) (x y : Operand) (ho : o.op = .store 34 x y)
    (hx : a.eval x = .pointer (some ⟨g, 0, none⟩)) {cs cs' : Array Value} (hy : a.eval y = .agg cs') (hg : Whole w g 34 cs) (h4 : cs.size = 4) (h4' : cs'.size = 4) (hone : cs'.all (·.oneCell') = true)
    (h : wpList Tryd.prog ops Q rest (a.put o.dst undef) (w.setRow g cs')) : wpList Tryd.prog ops Q (o :: rest) a w :=
  wpList_store_row hgd 34 x y ho g _ hx hy 34 _ hg (by rw [ctxSize, h4']) (by rw [h4, h4']) hone h
theorem sof_emp (l : List B8) : (sof l).toList.isEmpty = decide (l = []) := by
  rw [sof_toList]
  cases l with
  | nil => rfl
  | cons x t => simp
abbrev zctx : Array Value := #[.int .i64 0, .int .i64 0, .int .i64 0, .string { data := #[] }]
theorem crow0 : crow 0 0 0 [] = zctx := by
  show (#[_, _, _, .string (sof [])] : Array Value) = _
  rw [show sof [] = { data := #[] } by unfold sof; rfl]
/-- A ride and whether there is one. -/
def ClP (a : Aut) (e : Ending) : Prop := ∃ (z l m : Int) (n : List B8) (ok : Bool), e = .returned (.tuple #[.agg (crow z l m n), .bool ok]) ∧ LeastR a ⟨z, l, m, n⟩ ok
set_option linter.unusedSimpArgs false in
set_option maxRecDepth 100000 in
set_option maxHeartbeats 4000000 in
theorem cleast {w : World} {Q : Nat → Prop} {x : Value} {a : Aut} (hT : Tab w) (hx : Av w Q x a) (ha : aok a) :
    Calls Tryd.prog 39 #[x] w fun e w' => ClP a e ∧ Below w.heap.size w w' := by
  obtain ⟨A, c, rfl, hS, hab⟩ := hx
  obtain ⟨p, hp⟩ : ∃ p, p = (w.alloc (.cells (avl a A c) 25)).alloc (.cells zctx 34) := ⟨_, rfl⟩
  have hb0 : Below w.heap.size w p := by rw [hp]; exact ab_below _ _ _
  have hr : ARow p w.heap.size a.none a.zones a.lines a.days a.lo a.hi (.slice A a.daily.length c) a.holder := by rw [hp]; exact (Whole.here _ _ _).alloc _
  have hz : Whole p (w.heap.size + 1) 34 zctx := by rw [hp]; exact Whole.at_ _ _ _ _ (by simp)
  have hTp : Tab p := hT.below hb0 (Nat.le_refl _)
  have HB := Lib.hid hb0
  have HZ := Lib.hid hz
  have HT := Lib.hid hTp
  have HR := Lib.hid hr
  obtain ⟨r0, r1, r2, r3, r4, r5, r6, r7⟩ := ARow.cells hr
  clear hS hab hb0 hz hTp hT hr
  obtain ⟨no, hno⟩ : ∃ b, a.none = b := ⟨_, rfl⟩
  rw [hno] at r0
  go_enter Tryd.func39, Tryd.ntmps39
  go_upto_region 1 with fail
  rw [← hp]
  clear hp
  cases no
  · obtain ⟨s1, s2, s3, s4, -⟩ := some_aok ha hno
    have HM : Hid (a.zones < 18446744073709551616 ∧ a.zones ≠ 0 ∧ a.lines < 18446744073709551616 ∧ a.lines ≠ 0) := Lib.hid ⟨s2, s1, by omega, s3⟩
    have HP : Hid (∀ W, Below p.heap.size p W → W.cell? ⟨w.heap.size, 0, none⟩ = some (.bool a.none) ∧ W.cell? ⟨w.heap.size, 1, none⟩ = some (.int .u64 (a.zones : Int)) ∧ W.cell? ⟨w.heap.size, 2, none⟩ = some (.int .u64 (a.lines : Int)) ∧ W.cell? ⟨w.heap.size, 3, none⟩ = some (.int .u64 (a.days : Int)) ∧ W.cell? ⟨w.heap.size, 4, none⟩ = some (.int .i64 a.lo) ∧ W.cell? ⟨w.heap.size, 5, none⟩ = some (.int .i64 a.hi) ∧ W.cell? ⟨w.heap.size, 6, none⟩ = some (.slice A a.daily.length c) ∧ W.cell? ⟨w.heap.size, 7, none⟩ = some (.string (sof a.holder))) := Lib.hid fun W hb => by
      have := ARow.cells (Whole.below HR.out hb (Whole.lt HR.out))
      exact this
    have HNO := Lib.hid hno
    clear s1 s2 s3 s4
    go_upto_region 3 with fail
    clear r0 r1 r2 r3 r4 r5 r6 r7
    go_cut [4] (fun s wx => ∃ (g i j : Nat), s = .pointer (some ⟨g, 0, none⟩) ∧ IsLow a.zones i ∧ IsLow a.lines j ∧ CRow wx g i j a.lo a.holder ∧ p.heap.size ≤ g ∧ Below p.heap.size p wx)
    case first =>
      have hb0 : Below p.heap.size p p.drew := Below.drew (Below.refl _ _)
      refine wp_region_held_drew (S := fun W : World => W.cell? ⟨w.heap.size, 0, none⟩ = some (.bool a.none) ∧ W.cell? ⟨w.heap.size, 1, none⟩ = some (.int .u64 (a.zones : Int)) ∧ W.cell? ⟨w.heap.size, 2, none⟩ = some (.int .u64 (a.lines : Int)) ∧ W.cell? ⟨w.heap.size, 3, none⟩ = some (.int .u64 (a.days : Int)) ∧ W.cell? ⟨w.heap.size, 4, none⟩ = some (.int .i64 a.lo) ∧ W.cell? ⟨w.heap.size, 5, none⟩ = some (.int .i64 a.hi) ∧ W.cell? ⟨w.heap.size, 6, none⟩ = some (.slice A a.daily.length c) ∧ W.cell? ⟨w.heap.size, 7, none⟩ = some (.string (sof a.holder))) (by kernel_rfl) (HP.out _ (Below.drew (Below.refl _ _))) (fun hHeld => ?_)
      apply wpAnyH_take (i := 0) rfl (by kernel_rfl) (by kernel_rfl) (by kernel_rfl)
      case hQ => exact fun _ _ _ h => h
      case hS => exact hHeld
      case hy => (refine Or.inl ⟨by rfl, ?_⟩; intro w hSw; go_split_ands; go_simp; (try with_reducible rfl))
      (try simp only [List.getElem_toArray, List.getElem_cons_zero, Act.put, List.setIfInBounds_toArray, List.set_cons_zero, List.set_cons_succ])
      apply wpAnyH_take (i := 1) rfl (by kernel_rfl) (by kernel_rfl) (by kernel_rfl)
      case hQ => exact fun _ _ _ h => h
      case hS => exact hHeld
      case hy => (refine Or.inl ⟨by rfl, ?_⟩; intro w hSw; go_split_ands; go_simp; (try with_reducible rfl))
      (try simp only [List.getElem_toArray, List.getElem_cons_succ, List.getElem_cons_zero, Act.put, List.setIfInBounds_toArray, List.set_cons_zero, List.set_cons_succ])
      apply wpAnyH_take (i := 3) rfl (by kernel_rfl) (by kernel_rfl) (by kernel_rfl)
      case hQ => exact fun _ _ _ h => h
      case hS => exact hHeld
      case hy => (refine Or.inl ⟨by rfl, ?_⟩; intro w hSw; go_split_ands; go_simp; (try with_reducible rfl))
      (try simp only [List.getElem_toArray, List.getElem_cons_succ, List.getElem_cons_zero, Act.put, List.setIfInBounds_toArray, List.set_cons_zero, List.set_cons_succ])
      apply wpAnyH_take (i := 4) rfl (by kernel_rfl) (by kernel_rfl) (by kernel_rfl)
      case hQ => exact fun _ _ _ h => h
      case hS => exact hHeld
      case hy => (refine Or.inl ⟨by rfl, ?_⟩; intro w hSw; go_split_ands; go_simp; (try with_reducible rfl))
      (try simp only [List.getElem_toArray, List.getElem_cons_succ, List.getElem_cons_zero, Act.put, List.setIfInBounds_toArray, List.set_cons_zero, List.set_cons_succ])
      apply wpAnyH_take (i := 6) rfl (by kernel_rfl) (by kernel_rfl) (by kernel_rfl)
      case hQ => exact fun _ _ _ h => h
      case hS => exact hHeld
      case hy => (refine Or.inl ⟨by rfl, ?_⟩; intro w hSw; go_split_ands; go_simp; (try with_reducible rfl))
      (try simp only [List.getElem_toArray, List.getElem_cons_succ, List.getElem_cons_zero, Act.put, List.setIfInBounds_toArray, List.set_cons_zero, List.set_cons_succ])
      apply wpAnyH_take (i := 7) rfl (by kernel_rfl) (by kernel_rfl) (by kernel_rfl)
      case hQ => exact fun _ _ _ h => h
      case hS => exact hHeld
      case hy => (refine Or.inl ⟨by rfl, ?_⟩; intro w hSw; go_split_ands; go_simp; (try with_reducible rfl))
      (try simp only [List.getElem_toArray, List.getElem_cons_succ, List.getElem_cons_zero, Act.put, List.setIfInBounds_toArray, List.set_cons_zero, List.set_cons_succ])
      apply wpAnyH_take (i := 8) rfl (by kernel_rfl) (by kernel_rfl) (by kernel_rfl)
      case hQ => exact fun _ _ _ h => h
      case hS => exact hHeld
      case hy => (refine Or.inl ⟨by rfl, ?_⟩; intro w hSw; go_split_ands; go_simp; (try with_reducible rfl))
      (try simp only [List.getElem_toArray, List.getElem_cons_succ, List.getElem_cons_zero, Act.put, List.setIfInBounds_toArray, List.set_cons_zero, List.set_cons_succ])
      apply wpAnyH_take (i := 9) rfl (by kernel_rfl) (by kernel_rfl) (by kernel_rfl)
      case hQ => exact fun _ _ _ h => h
      case hS => exact hHeld
      case hy => (refine Or.inl ⟨by rfl, ?_⟩; intro w hSw; go_split_ands; go_simp; (try with_reducible rfl))
      (try simp only [List.getElem_toArray, List.getElem_cons_succ, List.getElem_cons_zero, Act.put, List.setIfInBounds_toArray, List.set_cons_zero, List.set_cons_succ])
      refine wpAnyH_ready (rs := [2, 11]) (by kernel_rfl) (by simp) ?_
      refine AllReadyH.cons rfl (fun K hK => ?_) (AllReadyH.cons rfl (fun K hK => ?_) AllReadyH.nil)
      · (try simp only [List.getElem_toArray, List.getElem_cons_succ, List.getElem_cons_zero])
        go_simp
        go_at_call 42
        refine (clowest a.zones HM.out.1 HM.out.2.1 _ (HT.out.below hb0 (Nat.le_refl _))).mono ?_
        rintro e W1 ⟨⟨i1, rfl, hi1, -⟩, rfl⟩
        refine hK.out _ _ (HP.out _ hb0) (fun hHeld => ?_)
        clear hK K
        (try simp only [List.getElem_toArray, List.getElem_cons_succ, List.getElem_cons_zero, Act.put, List.setIfInBounds_toArray, List.set_cons_zero, List.set_cons_succ])
        refine wpAnyH_ready (rs := [5, 11]) (by kernel_rfl) (by simp) ?_
        refine AllReadyH.cons rfl (fun K hK => ?_) (AllReadyH.cons rfl (fun K hK => ?_) AllReadyH.nil)
        · (try simp only [List.getElem_toArray, List.getElem_cons_succ, List.getElem_cons_zero])
          go_simp
          go_at_call 42
          refine (clowest a.lines HM.out.2.2.1 HM.out.2.2.2 _ (HT.out.below hb0 (Nat.le_refl _))).mono ?_
          rintro e W2 ⟨⟨i2, rfl, hi2, -⟩, rfl⟩
          refine hK.out _ _ (HP.out _ hb0) (fun hHeld => ?_)
          clear hK K
          (try simp only [List.getElem_toArray, List.getElem_cons_succ, List.getElem_cons_zero, Act.put, List.setIfInBounds_toArray, List.set_cons_zero, List.set_cons_succ])
          apply wpAnyH_take (i := 10) rfl (by kernel_rfl) (by kernel_rfl) (by kernel_rfl)
          case hQ => exact fun _ _ _ h => h
          case hS => exact hHeld
          case hy => (refine Or.inl ⟨by rfl, ?_⟩; intro w hSw; go_split_ands; go_simp; (try with_reducible rfl))
          (try simp only [List.getElem_toArray, List.getElem_cons_succ, List.getElem_cons_zero, Act.put, List.setIfInBounds_toArray, List.set_cons_zero, List.set_cons_succ])
          refine wpAnyH_ready (rs := [11]) (by kernel_rfl) (by simp) ?_
          refine AllReadyH.cons rfl (fun K hK => ?_) AllReadyH.nil
          (try simp only [List.getElem_toArray, List.getElem_cons_succ, List.getElem_cons_zero])
          go_simp
          have hV3 : Whole (p.alloc (.cells zctx 34)).drew p.heap.size 34 zctx := Whole.drew (Whole.here _ _ _)
          have hb3 : Below p.heap.size p (p.alloc (.cells zctx 34)).drew := Below.drew (Below.alloc (Below.refl _ _) (Nat.le_refl _) _)
          refine hK.out _ _ (HP.out _ hb3) (fun hHeld => ?_)
          clear hK K
          (try simp only [List.getElem_toArray, List.getElem_cons_succ, List.getElem_cons_zero, Act.put, List.setIfInBounds_toArray, List.set_cons_zero, List.set_cons_succ])
          refine wpAnyH_ready (rs := [12]) (by kernel_rfl) (by simp) ?_
          refine AllReadyH.cons rfl (fun K hK => ?_) AllReadyH.nil
          (try simp only [List.getElem_toArray, List.getElem_cons_succ, List.getElem_cons_zero])
          rw [if_pos (by kernel_rfl)]
          refine wp_store_row 34 _ _ rfl p.heap.size _ rfl rfl 34 _ hV3 (by kernel_rfl) rfl (by with_unfolding_all rfl) ?_
          have hC4 : CRow ((p.alloc (.cells zctx 34)).drew.setRow p.heap.size (crow (i1 : Int) (i2 : Int) a.lo a.holder)) p.heap.size (i1 : Int) (i2 : Int) a.lo a.holder := Whole.setRow hV3 _
          have hb4 : Below p.heap.size p ((p.alloc (.cells zctx 34)).drew.setRow p.heap.size (crow (i1 : Int) (i2 : Int) a.lo a.holder)) := below_setRow hb3 (Nat.le_refl _) _
          refine hK.out _ _ (HP.out _ hb4) (fun hHeld => ?_)
          clear hK K
          (try simp only [List.getElem_toArray, List.getElem_cons_succ, List.getElem_cons_zero, Act.put, List.setIfInBounds_toArray, List.set_cons_zero, List.set_cons_succ])
          refine wpAnyH_done (by kernel_rfl) ?_ _
          go_wp2_with fail
          go_meet
          exact ⟨p.heap.size, i1, i2, rfl, hi1, hi2, hC4, Nat.le_refl _, hb4⟩
        · (try simp only [List.getElem_toArray, List.getElem_cons_succ, List.getElem_cons_zero])
          go_simp
          have hV5 : Whole (p.alloc (.cells zctx 34)).drew p.heap.size 34 zctx := Whole.drew (Whole.here _ _ _)
          have hb5 : Below p.heap.size p (p.alloc (.cells zctx 34)).drew := Below.drew (Below.alloc (Below.refl _ _) (Nat.le_refl _) _)
          refine hK.out _ _ (HP.out _ hb5) (fun hHeld => ?_)
          clear hK K
          (try simp only [List.getElem_toArray, List.getElem_cons_succ, List.getElem_cons_zero, Act.put, List.setIfInBounds_toArray, List.set_cons_zero, List.set_cons_succ])
          refine wpAnyH_ready (rs := [5]) (by kernel_rfl) (by simp) ?_
          refine AllReadyH.cons rfl (fun K hK => ?_) AllReadyH.nil
          (try simp only [List.getElem_toArray, List.getElem_cons_succ, List.getElem_cons_zero])
          go_simp
          go_at_call 42
          refine (clowest a.lines HM.out.2.2.1 HM.out.2.2.2 _ (HT.out.below hb5 (Nat.le_refl _))).mono ?_
          rintro e W6 ⟨⟨i6, rfl, hi6, -⟩, rfl⟩
          refine hK.out _ _ (HP.out _ hb5) (fun hHeld => ?_)
          clear hK K
          (try simp only [List.getElem_toArray, List.getElem_cons_succ, List.getElem_cons_zero, Act.put, List.setIfInBounds_toArray, List.set_cons_zero, List.set_cons_succ])
          apply wpAnyH_take (i := 10) rfl (by kernel_rfl) (by kernel_rfl) (by kernel_rfl)
          case hQ => exact fun _ _ _ h => h
          case hS => exact hHeld
          case hy => (refine Or.inl ⟨by rfl, ?_⟩; intro w hSw; go_split_ands; go_simp; (try with_reducible rfl))
          (try simp only [List.getElem_toArray, List.getElem_cons_succ, List.getElem_cons_zero, Act.put, List.setIfInBounds_toArray, List.set_cons_zero, List.set_cons_succ])
          refine wpAnyH_ready (rs := [12]) (by kernel_rfl) (by simp) ?_
          refine AllReadyH.cons rfl (fun K hK => ?_) AllReadyH.nil
          (try simp only [List.getElem_toArray, List.getElem_cons_succ, List.getElem_cons_zero])
          rw [if_pos (by kernel_rfl)]
          refine wp_store_row 34 _ _ rfl p.heap.size _ rfl rfl 34 _ hV5 (by kernel_rfl) rfl (by with_unfolding_all rfl) ?_
          have hC7 : CRow ((p.alloc (.cells zctx 34)).drew.setRow p.heap.size (crow (i1 : Int) (i6 : Int) a.lo a.holder)) p.heap.size (i1 : Int) (i6 : Int) a.lo a.holder := Whole.setRow hV5 _
          have hb7 : Below p.heap.size p ((p.alloc (.cells zctx 34)).drew.setRow p.heap.size (crow (i1 : Int) (i6 : Int) a.lo a.holder)) := below_setRow hb5 (Nat.le_refl _) _
          refine hK.out _ _ (HP.out _ hb7) (fun hHeld => ?_)
          clear hK K
          (try simp only [List.getElem_toArray, List.getElem_cons_succ, List.getElem_cons_zero, Act.put, List.setIfInBounds_toArray, List.set_cons_zero, List.set_cons_succ])
          refine wpAnyH_done (by kernel_rfl) ?_ _
          go_wp2_with fail
          go_meet
          exact ⟨p.heap.size, i1, i6, rfl, hi1, hi6, hC7, Nat.le_refl _, hb7⟩
      · (try simp only [List.getElem_toArray, List.getElem_cons_succ, List.getElem_cons_zero])
        go_simp
        have hV8 : Whole (p.alloc (.cells zctx 34)).drew p.heap.size 34 zctx := Whole.drew (Whole.here _ _ _)
        have hb8 : Below p.heap.size p (p.alloc (.cells zctx 34)).drew := Below.drew (Below.alloc (Below.refl _ _) (Nat.le_refl _) _)
        refine hK.out _ _ (HP.out _ hb8) (fun hHeld => ?_)
        clear hK K
        (try simp only [List.getElem_toArray, List.getElem_cons_succ, List.getElem_cons_zero, Act.put, List.setIfInBounds_toArray, List.set_cons_zero, List.set_cons_succ])
        refine wpAnyH_ready (rs := [2]) (by kernel_rfl) (by simp) ?_
        refine AllReadyH.cons rfl (fun K hK => ?_) AllReadyH.nil
        (try simp only [List.getElem_toArray, List.getElem_cons_succ, List.getElem_cons_zero])
        go_simp
        go_at_call 42
        refine (clowest a.zones HM.out.1 HM.out.2.1 _ (HT.out.below hb8 (Nat.le_refl _))).mono ?_
        rintro e W9 ⟨⟨i9, rfl, hi9, -⟩, rfl⟩
        refine hK.out _ _ (HP.out _ hb8) (fun hHeld => ?_)
        clear hK K
        (try simp only [List.getElem_toArray, List.getElem_cons_succ, List.getElem_cons_zero, Act.put, List.setIfInBounds_toArray, List.set_cons_zero, List.set_cons_succ])
        refine wpAnyH_ready (rs := [5]) (by kernel_rfl) (by simp) ?_
        refine AllReadyH.cons rfl (fun K hK => ?_) AllReadyH.nil
        (try simp only [List.getElem_toArray, List.getElem_cons_succ, List.getElem_cons_zero])
        go_simp
        go_at_call 42
        refine (clowest a.lines HM.out.2.2.1 HM.out.2.2.2 _ (HT.out.below hb8 (Nat.le_refl _))).mono ?_
        rintro e W10 ⟨⟨i10, rfl, hi10, -⟩, rfl⟩
        refine hK.out _ _ (HP.out _ hb8) (fun hHeld => ?_)
        clear hK K
        (try simp only [List.getElem_toArray, List.getElem_cons_succ, List.getElem_cons_zero, Act.put, List.setIfInBounds_toArray, List.set_cons_zero, List.set_cons_succ])
        apply wpAnyH_take (i := 10) rfl (by kernel_rfl) (by kernel_rfl) (by kernel_rfl)
        case hQ => exact fun _ _ _ h => h
        case hS => exact hHeld
        case hy => (refine Or.inl ⟨by rfl, ?_⟩; intro w hSw; go_split_ands; go_simp; (try with_reducible rfl))
        (try simp only [List.getElem_toArray, List.getElem_cons_succ, List.getElem_cons_zero, Act.put, List.setIfInBounds_toArray, List.set_cons_zero, List.set_cons_succ])
        refine wpAnyH_ready (rs := [12]) (by kernel_rfl) (by simp) ?_
        refine AllReadyH.cons rfl (fun K hK => ?_) AllReadyH.nil
        (try simp only [List.getElem_toArray, List.getElem_cons_succ, List.getElem_cons_zero])
        rw [if_pos (by kernel_rfl)]
        refine wp_store_row 34 _ _ rfl p.heap.size _ rfl rfl 34 _ hV8 (by kernel_rfl) rfl (by with_unfolding_all rfl) ?_
        have hC11 : CRow ((p.alloc (.cells zctx 34)).drew.setRow p.heap.size (crow (i9 : Int) (i10 : Int) a.lo a.holder)) p.heap.size (i9 : Int) (i10 : Int) a.lo a.holder := Whole.setRow hV8 _
        have hb11 : Below p.heap.size p ((p.alloc (.cells zctx 34)).drew.setRow p.heap.size (crow (i9 : Int) (i10 : Int) a.lo a.holder)) := below_setRow hb8 (Nat.le_refl _) _
        refine hK.out _ _ (HP.out _ hb11) (fun hHeld => ?_)
        clear hK K
        (try simp only [List.getElem_toArray, List.getElem_cons_succ, List.getElem_cons_zero, Act.put, List.setIfInBounds_toArray, List.set_cons_zero, List.set_cons_succ])
        refine wpAnyH_done (by kernel_rfl) ?_ _
        go_wp2_with fail
        go_meet
        exact ⟨p.heap.size, i9, i10, rfl, hi9, hi10, hC11, Nat.le_refl _, hb11⟩
    case rest =>
      obtain ⟨g, i, j, rfl, hi, hj, hC, hg, hb⟩ := hcut
      have hz : Whole wc (w.heap.size + 1) 34 zctx := Whole.below HZ.out hb (Whole.lt HZ.out)
      have hgl := Whole.lt HZ.out
      have hne : w.heap.size + 1 ≠ g := by omega
      by_cases he : a.holder = []
      · have hem : (sof a.holder).toList.isEmpty = true := by rw [sof_emp, he]; rfl
        have hL : LeastR a ⟨i, j, a.lo, [97#8]⟩ true := .inr ⟨ha, hno, rfl, i, j, hi, hj, by rw [show pick a.holder = [97#8] by unfold pick; rw [if_pos he]]⟩
        obtain ⟨k0, k1, k2, k3⟩ := CRow.cells hC
        obtain ⟨f0, f1, f2, f3⟩ := CRow.frees hC
        have es : ({ data := #[97] } : ByteArray) = sof [97#8] := by unfold sof; rfl
        have hC2 : CRow (wc.setCell ⟨g, 3, none⟩ (.string { data := #[97] })) g i j a.lo [97#8] := by rw [es]; exact CRow.set3 hC _
        have hz2 : Whole (wc.setCell ⟨g, 3, none⟩ (.string { data := #[97] })) (w.heap.size + 1) 34 zctx := hz.far (a := ⟨g, 3, none⟩) hne _
        have hb2 : Below p.heap.size p (wc.setCell ⟨g, 3, none⟩ (.string { data := #[97] })) := hb.setCell (p := ⟨g, 3, none⟩) hg _
        have HX := Lib.hid (And.intro hC2 (And.intro hz2 (And.intro hb2 hL)))
        clear hC hz hb hi hj hC2 hz2 hb2 hL es he hno ha
        go_upto_region 6 with fail
        generalize wc.setCell ⟨g, 3, none⟩ (.string { data := #[97] }) = w6 at HX ⊢
        clear k0 k1 k2 k3 f0 f1 f2 f3
        obtain ⟨k0, k1, k2, k3⟩ := CRow.cells HX.out.1
        go_wp2_with (with_reducible refine wpList_store_ctx0 rfl _ _ rfl (g := w.heap.size + 1) rfl rfl HX.out.2.1 rfl rfl (by with_unfolding_all rfl) ?_)
        refine bodyPost_ret (results_ctx2 (g := w.heap.size + 1) Tryd.results39 _ rfl _ rfl rfl (Whole.setRow HX.out.2.1 _)) rfl ?_
        exact ⟨⟨_, _, _, _, _, rfl, HX.out.2.2.2⟩, below_setRow (HB.out.trans (HX.out.2.2.1.mono (Below.size HB.out))) (by omega) _⟩
      · have hem : (sof a.holder).toList.isEmpty = false := by rw [sof_emp]; simp [he]
        have hL : LeastR a ⟨i, j, a.lo, a.holder⟩ true := .inr ⟨ha, hno, rfl, i, j, hi, hj, by rw [show pick a.holder = a.holder by unfold pick; rw [if_neg he]]⟩
        have HX := Lib.hid (And.intro hC (And.intro hz (And.intro hb hL)))
        obtain ⟨k0, k1, k2, k3⟩ := CRow.cells hC
        clear hC hz hb hi hj hL he hno ha
        go_wp2_with (with_reducible refine wpList_store_ctx0 rfl _ _ rfl (g := w.heap.size + 1) rfl rfl HX.out.2.1 rfl rfl (by with_unfolding_all rfl) ?_)
        refine bodyPost_ret (results_ctx2 (g := w.heap.size + 1) Tryd.results39 _ rfl _ rfl rfl (Whole.setRow HX.out.2.1 _)) rfl ?_
        exact ⟨⟨_, _, _, _, _, rfl, HX.out.2.2.2⟩, below_setRow (HB.out.trans (HX.out.2.2.1.mono (Below.size HB.out))) (by omega) _⟩
  · have hL : LeastR a ⟨0, 0, 0, []⟩ false := .inl ⟨.inr hno, rfl, rfl⟩
    have HX := Lib.hid (And.intro HZ.out hL)
    clear hL hno ha
    go_wp2_with (with_reducible refine wpList_store_ctx0 rfl _ _ rfl (g := w.heap.size + 1) rfl rfl HX.out.1 rfl rfl (by with_unfolding_all rfl) ?_)
    refine bodyPost_ret (results_ctx2 (g := w.heap.size + 1) Tryd.results39 _ rfl _ rfl rfl (Whole.setRow HX.out.1 _)) rfl ?_
    exact ⟨⟨0, 0, 0, [], false, by rw [crow0]; rfl, HX.out.2⟩, below_setRow HB.out (by omega) _⟩
end Go.Proofs.YtgbcncfhmnhljaaDoor
namespace Go.Proofs.YtgbcncfhmnhljaaDoor
open Go Go.RowKit Sh Leaf

/-- The first holder of a that is not one of b. -/
def OthR (h k n : List B8) (ok : Bool) : Prop :=
  ((k = [] ∨ h = k) ∧ n = [] ∧ ok = false) ∨ (k ≠ [] ∧ h ≠ k ∧ h ≠ [] ∧ n = h ∧ ok = true) ∨ (k ≠ [] ∧ h = [] ∧ k = [97#8] ∧ n = [98#8] ∧ ok = true) ∨ (k ≠ [] ∧ h = [] ∧ k ≠ [97#8] ∧ n = [97#8] ∧ ok = true)
theorem sof_lit0 : ({ data := #[] } : ByteArray) = sof [] := by unfold sof; rfl
theorem sof_lit97 : ({ data := #[97] } : ByteArray) = sof [97#8] := by unfold sof; rfl
theorem sof_lit98 : ({ data := #[98] } : ByteArray) = sof [98#8] := by unfold sof; rfl
theorem emp_iff {l : List B8} : (sof l).toList = [] ↔ l = [] := by rw [sof_toList]; simp
theorem lit97 (l : List B8) : ((sof l).toList == [97]) = decide (l = [97#8]) := by
  rw [← sof_beq, sof_toList [97#8]]
  rfl
set_option linter.unusedSimpArgs false in
set_option maxRecDepth 100000 in
set_option maxHeartbeats 4000000 in
theorem rother {w : World} {Q1 Q2 : Nat → Prop} {x y : Value} {a b : Aut} (hx : Av w Q1 x a) (hy : Av w Q2 y b) :
    Calls Tryd.prog 26 #[x, y] w fun e w' => (∃ n ok, e = .returned (.tuple #[.string (sof n), .bool ok]) ∧ OthR a.holder b.holder n ok) ∧ Below w.heap.size w w' := by
  obtain ⟨A1, c1, rfl, -, -⟩ := hx
  obtain ⟨A2, c2, rfl, -, -⟩ := hy
  have hb := ab_below w
  generalize a.daily.length = m1 at *
  generalize b.daily.length = m2 at *
  go_enter Tryd.func26, Tryd.ntmps26
  go_wp2
  · rename_i h1
    go_ret2
    exact ⟨⟨[], false, by rw [← sof_lit0]; rfl, .inl ⟨.inl (emp_iff.1 h1), rfl, rfl⟩⟩, hb _ _⟩
  · rename_i h1 h2
    go_ret2
    refine ⟨⟨[], false, by rw [← sof_lit0]; rfl, .inl ⟨?_, rfl, rfl⟩⟩, hb _ _⟩
    rcases h2 with h2 | h2
    · rw [sof_emp] at h2; exact .inl (of_decide_eq_true h2)
    · rw [sof_beq] at h2; exact .inr (of_decide_eq_true h2)
  · rename_i h1 h2 h3
    go_ret2
    rw [sof_emp] at h3
    rw [sof_beq] at h2
    exact ⟨⟨_, true, rfl, .inr (.inl ⟨fun e => h1 (emp_iff.2 e), of_decide_eq_false h2.2, by simpa using h3, rfl, rfl⟩)⟩, hb _ _⟩
  · rename_i h1 h2 h3 h4
    go_ret2
    rw [sof_emp] at h3
    rw [lit97] at h4
    exact ⟨⟨[98#8], true, by rw [← sof_lit98]; rfl, .inr (.inr (.inl ⟨fun e => h1 (emp_iff.2 e), by simpa using h3, of_decide_eq_true h4, rfl, rfl⟩))⟩, hb _ _⟩
  · rename_i h1 h2 h3 h4
    go_ret2
    rw [sof_emp] at h3
    rw [lit97] at h4
    exact ⟨⟨[97#8], true, by rw [← sof_lit97]; rfl, .inr (.inr (.inr ⟨fun e => h1 (emp_iff.2 e), by simpa using h3, of_decide_eq_false h4, rfl, rfl⟩))⟩, hb _ _⟩
end Go.Proofs.YtgbcncfhmnhljaaDoor
