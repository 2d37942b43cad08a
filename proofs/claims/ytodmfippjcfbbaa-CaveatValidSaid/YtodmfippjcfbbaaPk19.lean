/-
  few of macaroonlaw12: the bytes of a caveat are cut.
-/
import Derived.Deep.CutBlock
import Derived.Deep.DeepCutAuto
import Derived.Deep.RegionHeld3
import Derived.Test.YtodmfippjcfbbaaPk8
import Derived.Test.YtodmfippjcfbbaaPk1
import Derived.Test.YtodmfippjcfbbaaKAnyG
namespace Go.Proofs.Ytodmfippjcfbbaa
open Go Go.RowKit Sh Leaf

set_option linter.unusedSimpArgs false in
set_option linter.unusedVariables false in
set_option maxRecDepth 100000 in
set_option maxHeartbeats 4000000 in
theorem cfew {w : World} {Q1 Q2 : Nat → Prop} (th : Bool) (p : Prd) (pa : Int) (A1 : Option Addr) (x : List B8) (c1 : Nat) (A2 : Option Addr) (y : List B8) (c2 : Nat) (hB1 : Bytes w Q1 (.slice A1 x.length c1) x) (hB2 : Bytes w Q2 (.slice A2 y.length c2) y) :
    Calls Try.prog 4 #[.agg (cvrow th p pa (.slice A1 x.length c1) (.slice A2 y.length c2))] w fun e w' => e = .returned (.agg (cvrow th p pa (.slice A1 (x.take 1100).length c1) (.slice A2 (y.take 1100).length c2))) ∧ Below w.heap.size w w' := by
  obtain ⟨A', c', e0, a1, a2, -, -⟩ := id hB1
  cases e0
  obtain ⟨A', c', e0, b1, b2, -, -⟩ := id hB2
  cases e0
  have E1 : min (x.length : Int) 1100 = ((x.take 1100).length : Int) := by rw [List.length_take]; omega
  have E2 : min (y.length : Int) 1100 = ((y.take 1100).length : Int) := by rw [List.length_take]; omega
  have hX : (x.take 1100).length ≤ c1 := by rw [List.length_take]; omega
  have hY : (y.take 1100).length ≤ c2 := by rw [List.length_take]; omega
  obtain ⟨nx, hnx⟩ : ∃ n, n = x.length := ⟨_, rfl⟩
  obtain ⟨ny, hny⟩ : ∃ n, n = y.length := ⟨_, rfl⟩
  rw [← hnx] at E1
  rw [← hny] at E2
  generalize (x.take 1100).length = X at *
  generalize (y.take 1100).length = Y at *
  rw [← hnx, ← hny]
  have E3 : (if (1100 : Int) < (nx : Int) then (1100 : Int) else (nx : Int)) = (X : Int) := by have := E1; split <;> omega
  have E4 : (if (1100 : Int) < (ny : Int) then (1100 : Int) else (ny : Int)) = (Y : Int) := by have := E2; split <;> omega
  have x0 : (0 : Int) ≤ (X : Int) := by omega
  have y0 : (0 : Int) ≤ (Y : Int) := by omega
  have r1 := fun W => run_cut_to A1 nx c1 X hX W
  have r2 := fun W => run_cut_to A2 ny c2 Y hY W
  have xi : (X : Int) ≤ (c1 : Int) := by omega
  have yi : (Y : Int) ≤ (c2 : Int) := by omega
  obtain ⟨p0, hp0⟩ : ∃ q, q = (w.alloc (.cells (cvrow th p pa (.slice A1 nx c1) (.slice A2 ny c2)) 27)).alloc (.cells (cvrow false .zero 0 (.slice none 0 0) (.slice none 0 0)) 27) := ⟨_, rfl⟩
  have hr : CvRow p0 w.heap.size th p pa (.slice A1 nx c1) (.slice A2 ny c2) := by rw [hp0]; exact (Whole.here _ _ _).alloc _
  have hz : CvRow p0 (w.heap.size + 1) false .zero 0 (.slice none 0 0) (.slice none 0 0) := by rw [hp0]; exact Whole.at_ _ _ _ _ (by simp)
  have hb : Below w.heap.size w p0 := by rw [hp0]; exact ((Below.refl _ _).alloc (Nat.le_refl _) _).alloc (by simp) _
  have HR := Lib.hid (Whole.drew hr)
  have HZ := Lib.hid (Whole.drew hz)
  have HB := Lib.hid (Below.drew hb)
  clear hr hz hb hnx hny hX hY a1 a2 b1 b2 hB1 hB2
  go_enter Try.func4, Try.ntmps4
  go_upto_region 1 with fail
  rw [← cvrow_zero, ← hp0]
  clear hp0
  refine wp_region_G (fun W : World => W.cell? ⟨w.heap.size, 8, none⟩ = some (.slice A1 nx c1) ∧ W.cell? ⟨w.heap.size, 9, none⟩ = some (.slice A2 ny c2)) (fun _ => True) [15] (by kernel_rfl) ?_
  generalize p0.drew = W0 at HR HZ HB ⊢
  have hHeld : (fun W : World => W.cell? ⟨w.heap.size, 8, none⟩ = some (.slice A1 nx c1) ∧ W.cell? ⟨w.heap.size, 9, none⟩ = some (.slice A2 ny c2)) W0 := ⟨HR.out.cell 8, HR.out.cell 9⟩
  apply AnyG_pure (i := 0) rfl (by kernel_rfl) (by kernel_rfl) (by kernel_rfl) (by kernel_rfl)
  case hQ => exact fun _ _ _ h => h
  case hB => exact trivial
  case hC => exact .inr hHeld
  case hy => (refine Or.inl ⟨by rfl, ?_⟩; intro w hSw; (try go_split_ands); go_simp; (try with_reducible rfl))
  (try simp only [List.getElem_toArray, List.getElem_cons_zero, Act.put, List.setIfInBounds_toArray, List.set_cons_zero, List.set_cons_succ])
  apply AnyG_take (i := 1) rfl (by kernel_rfl) (by kernel_rfl) (by kernel_rfl) (by kernel_rfl)
  case hQ => exact fun _ _ _ h => h
  case hB => exact trivial
  case hC => exact hHeld
  case hy => (refine Or.inl ⟨by rfl, ?_⟩; intro w hSw; (try go_split_ands); go_simp; (try with_reducible rfl))
  (try simp only [List.getElem_toArray, List.getElem_cons_succ, List.getElem_cons_zero, Act.put, List.setIfInBounds_toArray, List.set_cons_zero, List.set_cons_succ])
  apply AnyG_pure (i := 2) rfl (by kernel_rfl) (by kernel_rfl) (by kernel_rfl) (by kernel_rfl)
  case hQ => exact fun _ _ _ h => h
  case hB => exact trivial
  case hC => exact .inr hHeld
  case hy => (refine Or.inl ⟨by rfl, ?_⟩; intro w hSw; (try go_split_ands); go_simp; (try with_reducible rfl))
  (try simp only [List.getElem_toArray, List.getElem_cons_succ, List.getElem_cons_zero, Act.put, List.setIfInBounds_toArray, List.set_cons_zero, List.set_cons_succ])
  apply AnyG_take (i := 3) rfl (by kernel_rfl) (by kernel_rfl) (by kernel_rfl) (by kernel_rfl)
  case hQ => exact fun _ _ _ h => h
  case hB => exact trivial
  case hC => exact hHeld
  case hy => (refine Or.inl ⟨by rfl, ?_⟩; intro w hSw; (try go_split_ands); go_simp; (try with_reducible rfl))
  (try simp only [List.getElem_toArray, List.getElem_cons_succ, List.getElem_cons_zero, Act.put, List.setIfInBounds_toArray, List.set_cons_zero, List.set_cons_succ])
  apply AnyG_pure (i := 4) rfl (by kernel_rfl) (by kernel_rfl) (by kernel_rfl) (by kernel_rfl)
  case hQ => exact fun _ _ _ h => h
  case hB => exact trivial
  case hC => exact .inr hHeld
  case hy => (refine Or.inl ⟨by rfl, ?_⟩; intro w hSw; (try go_split_ands); go_simp; (try with_reducible rfl))
  (try simp only [List.getElem_toArray, List.getElem_cons_succ, List.getElem_cons_zero, Act.put, List.setIfInBounds_toArray, List.set_cons_zero, List.set_cons_succ])
  apply AnyG_pure (i := 5) rfl (by kernel_rfl) (by kernel_rfl) (by kernel_rfl) (by kernel_rfl)
  case hQ => exact fun _ _ _ h => h
  case hB => exact trivial
  case hC => exact .inr hHeld
  case hy => (refine Or.inl ⟨by rfl, ?_⟩; intro w hSw; (try go_split_ands); go_simp; (try with_reducible rfl))
  (try simp only [List.getElem_toArray, List.getElem_cons_succ, List.getElem_cons_zero, Act.put, List.setIfInBounds_toArray, List.set_cons_zero, List.set_cons_succ])
  apply AnyG_pure (i := 6) rfl (by kernel_rfl) (by kernel_rfl) (by kernel_rfl) (by kernel_rfl)
  case hQ => exact fun _ _ _ h => h
  case hB => exact trivial
  case hC => exact .inr hHeld
  case hy => (refine Or.inl ⟨by rfl, ?_⟩; intro w hSw; (try go_split_ands); go_simp; (try with_reducible rfl))
  (try simp only [List.getElem_toArray, List.getElem_cons_succ, List.getElem_cons_zero, Act.put, List.setIfInBounds_toArray, List.set_cons_zero, List.set_cons_succ])
  apply AnyG_pure (i := 7) rfl (by kernel_rfl) (by kernel_rfl) (by kernel_rfl) (by kernel_rfl)
  case hQ => exact fun _ _ _ h => h
  case hB => exact trivial
  case hC => exact .inr hHeld
  case hy => (refine Or.inl ⟨by rfl, ?_⟩; intro w hSw; (try go_split_ands); go_simp; (try with_reducible rfl))
  (try simp only [List.getElem_toArray, List.getElem_cons_succ, List.getElem_cons_zero, Act.put, List.setIfInBounds_toArray, List.set_cons_zero, List.set_cons_succ])
  apply AnyG_take (i := 8) rfl (by kernel_rfl) (by kernel_rfl) (by kernel_rfl) (by kernel_rfl)
  case hQ => exact fun _ _ _ h => h
  case hB => exact trivial
  case hC => exact hHeld
  case hy => (refine Or.inl ⟨by rfl, ?_⟩; intro w hSw; (try go_split_ands); go_simp; (try with_reducible rfl))
  (try simp only [List.getElem_toArray, List.getElem_cons_succ, List.getElem_cons_zero, Act.put, List.setIfInBounds_toArray, List.set_cons_zero, List.set_cons_succ])
  apply AnyG_pure (i := 9) rfl (by kernel_rfl) (by kernel_rfl) (by kernel_rfl) (by kernel_rfl)
  case hQ => exact fun _ _ _ h => h
  case hB => exact trivial
  case hC => exact .inr hHeld
  case hy => (refine Or.inl ⟨by rfl, ?_⟩; intro w hSw; (try go_split_ands); go_simp; (try with_reducible rfl))
  (try simp only [List.getElem_toArray, List.getElem_cons_succ, List.getElem_cons_zero, Act.put, List.setIfInBounds_toArray, List.set_cons_zero, List.set_cons_succ])
  apply AnyG_take (i := 10) rfl (by kernel_rfl) (by kernel_rfl) (by kernel_rfl) (by kernel_rfl)
  case hQ => exact fun _ _ _ h => h
  case hB => exact trivial
  case hC => exact hHeld
  case hy => (refine Or.inl ⟨by rfl, ?_⟩; intro w hSw; (try go_split_ands); go_simp; (try with_reducible rfl))
  (try simp only [List.getElem_toArray, List.getElem_cons_succ, List.getElem_cons_zero, Act.put, List.setIfInBounds_toArray, List.set_cons_zero, List.set_cons_succ])
  apply AnyG_pure (i := 11) rfl (by kernel_rfl) (by kernel_rfl) (by kernel_rfl) (by kernel_rfl)
  case hQ => exact fun _ _ _ h => h
  case hB => exact trivial
  case hC => exact .inr hHeld
  case hy => (refine Or.inl ⟨by rfl, ?_⟩; intro w hSw; (try go_split_ands); go_simp; (try with_reducible rfl))
  (try simp only [List.getElem_toArray, List.getElem_cons_succ, List.getElem_cons_zero, Act.put, List.setIfInBounds_toArray, List.set_cons_zero, List.set_cons_succ])
  apply AnyG_pure (i := 12) rfl (by kernel_rfl) (by kernel_rfl) (by kernel_rfl) (by kernel_rfl)
  case hQ => exact fun _ _ _ h => h
  case hB => exact trivial
  case hC => exact .inr hHeld
  case hy => (refine Or.inl ⟨by rfl, ?_⟩; intro w hSw; (try go_split_ands); go_simp; (try with_reducible rfl))
  (try simp only [List.getElem_toArray, List.getElem_cons_succ, List.getElem_cons_zero, Act.put, List.setIfInBounds_toArray, List.set_cons_zero, List.set_cons_succ])
  apply AnyG_pure (i := 13) rfl (by kernel_rfl) (by kernel_rfl) (by kernel_rfl) (by kernel_rfl)
  case hQ => exact fun _ _ _ h => h
  case hB => exact trivial
  case hC => exact .inr hHeld
  case hy => (refine Or.inl ⟨by rfl, ?_⟩; intro w hSw; (try go_split_ands); go_simp; (try with_reducible rfl))
  (try simp only [List.getElem_toArray, List.getElem_cons_succ, List.getElem_cons_zero, Act.put, List.setIfInBounds_toArray, List.set_cons_zero, List.set_cons_succ])
  apply AnyG_pure (i := 14) rfl (by kernel_rfl) (by kernel_rfl) (by kernel_rfl) (by kernel_rfl)
  case hQ => exact fun _ _ _ h => h
  case hB => exact trivial
  case hC => exact .inr hHeld
  case hy => (refine Or.inl ⟨by rfl, ?_⟩; intro w hSw; (try go_split_ands); go_simp; (try with_reducible rfl))
  (try simp only [List.getElem_toArray, List.getElem_cons_succ, List.getElem_cons_zero, Act.put, List.setIfInBounds_toArray, List.set_cons_zero, List.set_cons_succ])
  refine AnyG_one (i := 15) (by kernel_rfl) rfl (fun KK hKK => ?_)
  (try simp only [List.getElem_toArray, List.getElem_cons_succ, List.getElem_cons_zero])
  have f8 := HR.out.frozen 8
  have l8 : W0.cell? ⟨w.heap.size, 8, none⟩ = some (.slice A1 nx c1) := HR.out.cell 8
  go_simp
  obtain ⟨W5, hW5⟩ : ∃ q, q = W0.setCell ⟨w.heap.size, 8, none⟩ (.slice A1 X c1) := ⟨_, rfl⟩
  change KK _ (W0.setCell ⟨w.heap.size, 8, none⟩ (.slice A1 X c1))
  have HR5 : Hid (CvRow W5 w.heap.size th p pa (.slice A1 X c1) (.slice A2 ny c2)) := Lib.hid (by rw [hW5]; exact CvRow.set8 HR.out _)
  have HZ5 : Hid (CvRow W5 (w.heap.size + 1) false .zero 0 (.slice none 0 0) (.slice none 0 0)) := Lib.hid (by rw [hW5]; exact Whole.far HZ.out (a := ⟨w.heap.size, 8, none⟩) (by show w.heap.size + 1 ≠ w.heap.size; omega) _)
  have HB5 : Hid (Below w.heap.size w W5) := Lib.hid (by rw [hW5]; exact HB.out.setCell (p := ⟨w.heap.size, 8, none⟩) (Nat.le_refl _) _)
  rw [← hW5]
  clear hW5 f8 l8
  refine hKK.out _ _ (.inl (by kernel_rfl)) trivial ?_
  clear hKK KK
  (try simp only [List.getElem_toArray, List.getElem_cons_succ, List.getElem_cons_zero, Act.put, List.setIfInBounds_toArray, List.set_cons_zero, List.set_cons_succ])
  apply AnyG_pure (i := 16) rfl (by kernel_rfl) (by kernel_rfl) (by kernel_rfl) (by kernel_rfl)
  case hQ => exact fun _ _ _ h => h
  case hB => exact trivial
  case hC => exact .inl (by kernel_rfl)
  case hy => (refine Or.inl ⟨by rfl, ?_⟩; intro w hSw; (try go_split_ands); go_simp; (try with_reducible rfl))
  (try simp only [List.getElem_toArray, List.getElem_cons_succ, List.getElem_cons_zero, Act.put, List.setIfInBounds_toArray, List.set_cons_zero, List.set_cons_succ])
  refine AnyG_one (i := 17) (by kernel_rfl) rfl (fun KK hKK => ?_)
  (try simp only [List.getElem_toArray, List.getElem_cons_succ, List.getElem_cons_zero])
  have f9 := HR5.out.frozen 9
  have l9 : W5.cell? ⟨w.heap.size, 9, none⟩ = some (.slice A2 ny c2) := HR5.out.cell 9
  go_simp
  obtain ⟨W6, hW6⟩ : ∃ q, q = W5.setCell ⟨w.heap.size, 9, none⟩ (.slice A2 Y c2) := ⟨_, rfl⟩
  change KK _ (W5.setCell ⟨w.heap.size, 9, none⟩ (.slice A2 Y c2))
  have HR6 : Hid (CvRow W6 w.heap.size th p pa (.slice A1 X c1) (.slice A2 Y c2)) := Lib.hid (by rw [hW6]; exact CvRow.set9 HR5.out _)
  have HZ6 : Hid (CvRow W6 (w.heap.size + 1) false .zero 0 (.slice none 0 0) (.slice none 0 0)) := Lib.hid (by rw [hW6]; exact Whole.far HZ5.out (a := ⟨w.heap.size, 9, none⟩) (by show w.heap.size + 1 ≠ w.heap.size; omega) _)
  have HB6 : Hid (Below w.heap.size w W6) := Lib.hid (by rw [hW6]; exact HB5.out.setCell (p := ⟨w.heap.size, 9, none⟩) (Nat.le_refl _) _)
  rw [← hW6]
  clear hW6 f9 l9
  refine hKK.out _ _ (.inl (by kernel_rfl)) trivial ?_
  clear hKK KK
  (try simp only [List.getElem_toArray, List.getElem_cons_succ, List.getElem_cons_zero, Act.put, List.setIfInBounds_toArray, List.set_cons_zero, List.set_cons_succ])
  refine AnyG_done (by kernel_rfl) ?_ _
  (try clear hHeld)
  go_wp2_with (first | (with_reducible refine wpList_load_cav rfl _ rfl rfl HR6.out ?_) | (with_reducible refine wpList_store_cav rfl _ _ rfl (g := w.heap.size + 1) rfl rfl HZ6.out (cvrow_size _ _ _ _ _) ?_))
  have hz6 := Whole.setRow HZ6.out (cvrow th p pa (.slice A1 X c1) (.slice A2 Y c2))
  refine bodyPost_ret (results_cav Try.results4 _ rfl hz6) rfl ?_
  exact ⟨rfl, below_setRow HB6.out (by omega) _⟩
end Go.Proofs.Ytodmfippjcfbbaa
