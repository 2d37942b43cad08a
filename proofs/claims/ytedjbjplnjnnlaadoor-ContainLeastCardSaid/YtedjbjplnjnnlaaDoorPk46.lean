/-
  Least of the comparing package.
-/
import Derived.Test.YtedjbjplnjnnlaaDoorPk10
import Derived.Test.YtedjbjplnjnnlaaDoorPk23
namespace Go.Proofs.YtedjbjplnjnnlaaDoor
open Go Go.RowKit Sh Leaf

theorem ClP.mk {a : Aut} {e : Ending} (z l m : Int) (n : List B8) (ok : Bool) (he : e = .returned (.tuple #[.agg (crow z l m n), .bool ok])) (h : LeastR a ⟨z, l, m, n⟩ ok) : ClP a e := ⟨z, l, m, n, ok, he, h⟩
set_option linter.unusedSimpArgs false in
set_option maxRecDepth 100000 in
set_option maxHeartbeats 4000000 in
theorem cLeast {w : World} {Q : Nat → Prop} {x : Value} {a : Aut} (hT : Tab w) (hx : Av w Q x a) :
    Calls Tryd.prog 15 #[x] w fun e w' => ClP a e ∧ Below w.heap.size w w' := by
  have hx0 := hx.any
  obtain ⟨A, c, rfl, hS, hab⟩ := hx
  obtain ⟨p, hp⟩ : ∃ p, p = (w.alloc (.cells (avl a A c) 25)).alloc (.cells zctx 34) := ⟨_, rfl⟩
  have hb0 : Below w.heap.size w p := by rw [hp]; exact ab_below _ _ _
  have hr : ARow p w.heap.size a.none a.zones a.lines a.days a.lo a.hi (.slice A a.daily.length c) a.holder := by rw [hp]; exact (Whole.here _ _ _).alloc _
  have hz : Whole p (w.heap.size + 1) 34 zctx := by rw [hp]; exact Whole.at_ _ _ _ _ (by simp)
  have hav : ∀ W, Below p.heap.size p W → Av W (fun _ => True) (.agg (arow a.none a.zones a.lines a.days a.lo a.hi (.slice A a.daily.length c) a.holder)) a := fun W h => (Av.below hx0 (hb0.trans (h.mono hb0.size)) (Nat.le_refl _)).all
  have hTp : ∀ W, Below p.heap.size p W → Tab W := fun W h => (hT.below hb0 (Nat.le_refl _)).below h (Nat.le_refl _)
  have HB := Lib.hid hb0
  have HZ := Lib.hid hz
  have HT := Lib.hid hTp
  have HV := Lib.hid hav
  have HR := Lib.hid hr
  obtain ⟨r0, r1, r2, r3, r4, r5, r6, r7⟩ := ARow.cells hr
  obtain ⟨Va, hVa⟩ : ∃ V, decide (aok a) = V := ⟨_, rfl⟩
  have kA := law_valid (Below.refl p.heap.size p) (hav p (Below.refl _ _)) hVa
  have hVa' : Va = true ↔ aok a := by rw [← hVa]; exact decide_eq_true_iff
  have HO := Lib.hid hVa'
  clear hS hab hb0 hz hTp hT hr hav hVa hVa' hx0
  go_enter Tryd.func15, Tryd.ntmps15
  go_upto_region 1 with fail
  rw [← hp]
  clear hp
  go_wp2_with fail
  refine kA.mono ?_
  rintro e u1 ⟨rfl, hb1, -⟩
  clear kA r0 r1 r2 r3 r4 r5 r6 r7
  have HB1 := Lib.hid hb1
  clear hb1
  have hps : w.heap.size + 1 < p.heap.size := Whole.lt HZ.out
  cases Va
  · have HX : Hid (LeastR a zeroC false) := Lib.hid (.inl ⟨.inl fun h => (by have := HO.out.2 h; cases this), rfl, rfl⟩)
    have HZ1 := Lib.hid (Whole.below HZ.out HB1.out (Whole.lt HZ.out))
    go_wp2_with (with_reducible refine wpList_store_ctx0 rfl _ _ rfl (g := w.heap.size + 1) rfl rfl HZ1.out rfl rfl (by with_unfolding_all rfl) ?_)
    refine bodyPost_ret (results_ctx2 (g := w.heap.size + 1) Tryd.results15 _ rfl _ rfl rfl (Whole.setRow HZ1.out _)) rfl ?_
    exact ⟨ClP.mk 0 0 0 [] false (by rw [crow0]; rfl) HX.out, below_setRow (HB.out.trans (Below.mono HB1.out (Below.size HB.out))) (by omega) _⟩
  have hcl := cleast (HT.out u1 HB1.out) (HV.out u1 HB1.out) (HO.out.1 rfl)
  obtain ⟨r0, r1, r2, r3, r4, r5, r6, r7⟩ := ARow.cells (Whole.below HR.out HB1.out (Whole.lt HR.out))
  go_wp2_with fail
  refine hcl.mono ?_
  rintro e u3 ⟨⟨z, l, m, n, ok, rfl, hW⟩, hb3⟩
  have hb4 := HB1.out.trans (hb3.mono (Below.size HB1.out))
  have HB3 := Lib.hid hb4
  have HW := Lib.hid hW
  clear hcl r0 r1 r2 r3 r4 r5 r6 r7 hb3 hW hb4
  have HZ3 := Lib.hid (Whole.below HZ.out HB3.out (Whole.lt HZ.out))
  go_wp2_with (with_reducible refine wpList_store_ctx0 rfl _ _ rfl (g := w.heap.size + 1) rfl rfl HZ3.out rfl rfl (by with_unfolding_all rfl) ?_)
  refine bodyPost_ret (results_ctx2 (g := w.heap.size + 1) Tryd.results15 _ rfl _ rfl rfl (Whole.setRow HZ3.out _)) rfl ?_
  exact ⟨ClP.mk z l m n ok rfl HW.out, below_setRow (HB.out.trans (Below.mono HB3.out (Below.size HB.out))) (by omega) _⟩
end Go.Proofs.YtedjbjplnjnnlaaDoor
