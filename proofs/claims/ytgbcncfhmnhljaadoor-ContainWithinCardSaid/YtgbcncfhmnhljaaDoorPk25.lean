/-
  The program's Valid.
  What Meet comes to, in plain words (for a seat without it).
  The program's Contains.
  The calls of Contains, Valid and Full.
-/
import Derived.Deep.RegionHeld3
import Derived.Test.YtgbcncfhmnhljaaDoorPk20
import Derived.Test.YtgbcncfhmnhljaaDoorPk24
import Derived.Test.YtgbcncfhmnhljaaDoorPk15
import Derived.Deep.DeepCutAuto
import Derived.Test.YtgbcncfhmnhljaaDoorPk16
import Derived.Test.YtgbcncfhmnhljaaDoorPk26
import Derived.Test.YtgbcncfhmnhljaaDoorPk10
namespace Go.Proofs.YtgbcncfhmnhljaaDoor
open Go Go.RowKit Sh Leaf

set_option maxRecDepth 100000 in
set_option maxHeartbeats 4000000 in
theorem aval_t (z l d lo hi : Int) (A : Option Addr) (n c : Nat) (nm : List B8) (D : Bool) (w w1 : World) (C : World → Value → Prop) (hw1 : w1 = w.alloc (.cells (arow true z l d lo hi (.slice A n c) nm) 25))
    (k2 : ∀ W, Below w1.heap.size w1 W → Calls Tryd.prog 31 #[.agg (arow true z l d lo hi (.slice A n c) nm)] W fun e w' => (∃ y, e = .returned y ∧ C w' y) ∧ Below w1.heap.size w1 w')
    (k3 : ∀ W y, Below w1.heap.size w1 W → C W y → Calls Tryd.prog 38 #[.agg (arow true z l d lo hi (.slice A n c) nm), y] W fun e w' => e = .returned (.bool D) ∧ Below w1.heap.size w1 w')
    : Calls Tryd.prog 19 #[.agg (arow true z l d lo hi (.slice A n c) nm)] w fun e w' => e = .returned (.bool D) ∧ Below w.heap.size w w' := by
  have hsz : w1.heap.size = w.heap.size + 1 := by rw [hw1]; simp
  have hR : ARow w1 w.heap.size true z l d lo hi (.slice A n c) nm := by rw [hw1]; exact Whole.here _ _ _
  have HB : Hid (Below w.heap.size w w1) := Lib.hid (by rw [hw1]; exact (Below.refl w.heap.size w).alloc (Nat.le_refl _) _)
  have hcc : ∀ W, Below w1.heap.size w1 W → W.cell? ⟨w.heap.size, 0, none⟩ = some (.bool true) ∧ W.cell? ⟨w.heap.size, 1, none⟩ = some (.int .u64 z) ∧ W.cell? ⟨w.heap.size, 2, none⟩ = some (.int .u64 l) ∧ W.cell? ⟨w.heap.size, 3, none⟩ = some (.int .u64 d) ∧ W.cell? ⟨w.heap.size, 4, none⟩ = some (.int .i64 lo) ∧ W.cell? ⟨w.heap.size, 5, none⟩ = some (.int .i64 hi) ∧ W.cell? ⟨w.heap.size, 6, none⟩ = some (.slice A n c) ∧ W.cell? ⟨w.heap.size, 7, none⟩ = some (.string (sof nm)) := fun W hb => ARow.cells (Whole.below hR hb (by omega))
  have hbr := Below.refl w1.heap.size w1
  clear hR hsz
  go_enter Tryd.func19, Tryd.ntmps19
  go_upto_region 1 with fail
  rw [← hw1]
  clear hw1
  refine wp_region_held_drew (S := fun W => W.cell? ⟨w.heap.size, 0, none⟩ = some (.bool true) ∧ W.cell? ⟨w.heap.size, 1, none⟩ = some (.int .u64 z) ∧ W.cell? ⟨w.heap.size, 2, none⟩ = some (.int .u64 l) ∧ W.cell? ⟨w.heap.size, 3, none⟩ = some (.int .u64 d) ∧ W.cell? ⟨w.heap.size, 4, none⟩ = some (.int .i64 lo) ∧ W.cell? ⟨w.heap.size, 5, none⟩ = some (.int .i64 hi) ∧ W.cell? ⟨w.heap.size, 6, none⟩ = some (.slice A n c) ∧ W.cell? ⟨w.heap.size, 7, none⟩ = some (.string (sof nm))) (by kernel_rfl) (hcc _ (Below.refl _ _).drew) (fun hHeld => ?_)
  apply wpAnyH_take (i := 0) rfl (by kernel_rfl) (by kernel_rfl) (by kernel_rfl)
  case hQ => exact fun _ _ _ h => h
  case hS => exact hHeld
  case hy => (refine Or.inl ⟨by rfl, ?_⟩; intro w hSw; go_split_ands; go_simp; (try with_reducible rfl))
  (try simp only [List.getElem_toArray, List.getElem_cons_zero, Act.put, List.setIfInBounds_toArray, List.set_cons_zero, List.set_cons_succ])
  apply wpAnyH_take (i := 1) rfl (by kernel_rfl) (by kernel_rfl) (by kernel_rfl)
  case hQ => exact fun _ _ _ h => h
  case hS => exact hHeld
  case hy => (refine Or.inl ⟨by rfl, ?_⟩; intro w hSw; go_split_ands; go_simp; (try with_reducible rfl))
  (try simp only [List.getElem_toArray, List.getElem_cons_succ, List.getElem_cons_zero, Act.put, List.setIfInBounds_toArray, List.set_cons_zero, List.set_cons_succ])
  apply wpAnyH_take (i := 2) rfl (by kernel_rfl) (by kernel_rfl) (by kernel_rfl)
  case hQ => exact fun _ _ _ h => h
  case hS => exact hHeld
  case hy => (refine Or.inl ⟨by rfl, ?_⟩; intro w hSw; go_split_ands; go_simp; (try with_reducible rfl))
  (try simp only [List.getElem_toArray, List.getElem_cons_succ, List.getElem_cons_zero, Act.put, List.setIfInBounds_toArray, List.set_cons_zero, List.set_cons_succ])
  apply wpAnyH_take (i := 3) rfl (by kernel_rfl) (by kernel_rfl) (by kernel_rfl)
  case hQ => exact fun _ _ _ h => h
  case hS => exact hHeld
  case hy => exact Or.inr ⟨by rfl, rfl⟩
  (try simp only [List.getElem_toArray, List.getElem_cons_succ, List.getElem_cons_zero, Act.put, List.setIfInBounds_toArray, List.set_cons_zero, List.set_cons_succ])
  apply wpAnyH_take (i := 4) rfl (by kernel_rfl) (by kernel_rfl) (by kernel_rfl)
  case hQ => exact fun _ _ _ h => h
  case hS => exact hHeld
  case hy => exact Or.inr ⟨by rfl, rfl⟩
  (try simp only [List.getElem_toArray, List.getElem_cons_succ, List.getElem_cons_zero, Act.put, List.setIfInBounds_toArray, List.set_cons_zero, List.set_cons_succ])
  apply wpAnyH_take (i := 5) rfl (by kernel_rfl) (by kernel_rfl) (by kernel_rfl)
  case hQ => exact fun _ _ _ h => h
  case hS => exact hHeld
  case hy => (refine Or.inl ⟨by rfl, ?_⟩; intro w hSw; go_split_ands; go_simp; (try with_reducible rfl))
  (try simp only [List.getElem_toArray, List.getElem_cons_succ, List.getElem_cons_zero, Act.put, List.setIfInBounds_toArray, List.set_cons_zero, List.set_cons_succ])
  apply wpAnyH_take (i := 6) rfl (by kernel_rfl) (by kernel_rfl) (by kernel_rfl)
  case hQ => exact fun _ _ _ h => h
  case hS => exact hHeld
  case hy => (refine Or.inl ⟨by rfl, ?_⟩; intro w hSw; go_split_ands; go_simp; (try with_reducible rfl))
  (try simp only [List.getElem_toArray, List.getElem_cons_succ, List.getElem_cons_zero, Act.put, List.setIfInBounds_toArray, List.set_cons_zero, List.set_cons_succ])
  apply wpAnyH_take (i := 7) rfl (by kernel_rfl) (by kernel_rfl) (by kernel_rfl)
  case hQ => exact fun _ _ _ h => h
  case hS => exact hHeld
  case hy => (refine Or.inl ⟨by rfl, ?_⟩; intro w hSw; go_split_ands; go_simp; (try with_reducible rfl))
  (try simp only [List.getElem_toArray, List.getElem_cons_succ, List.getElem_cons_zero, Act.put, List.setIfInBounds_toArray, List.set_cons_zero, List.set_cons_succ])
  apply wpAnyH_take (i := 8) rfl (by kernel_rfl) (by kernel_rfl) (by kernel_rfl)
  case hQ => exact fun _ _ _ h => h
  case hS => exact hHeld
  case hy => (refine Or.inl ⟨by rfl, ?_⟩; intro w hSw; go_split_ands; go_simp; (try with_reducible rfl))
  (try simp only [List.getElem_toArray, List.getElem_cons_succ, List.getElem_cons_zero, Act.put, List.setIfInBounds_toArray, List.set_cons_zero, List.set_cons_succ])
  refine wpAnyH_ready (rs := [9]) (by kernel_rfl) (by simp) ?_
  refine AllReadyH.cons rfl (fun K hK => ?_) AllReadyH.nil
  (try simp only [List.getElem_toArray, List.getElem_cons_succ, List.getElem_cons_zero])
  go_simp
  go_at_call 31
  refine (k2 _ (Below.drew hbr)).mono ?_
  rintro e w2 ⟨⟨y, rfl, hC⟩, hb2⟩
  refine hK.out _ _ (hcc _ hb2) (fun hHeld => ?_)
  clear hK K
  (try simp only [List.getElem_toArray, List.getElem_cons_succ, List.getElem_cons_zero, Act.put, List.setIfInBounds_toArray, List.set_cons_zero, List.set_cons_succ])
  refine wpAnyH_ready (rs := [10]) (by kernel_rfl) (by simp) ?_
  refine AllReadyH.cons rfl (fun K hK => ?_) AllReadyH.nil
  (try simp only [List.getElem_toArray, List.getElem_cons_succ, List.getElem_cons_zero])
  go_simp
  go_at_call 38
  refine (k3 _ _ hb2 hC).mono ?_
  rintro e w3 ⟨rfl, hb3⟩
  refine hK.out _ _ (hcc _ hb3) (fun hHeld => ?_)
  clear hK K
  (try simp only [List.getElem_toArray, List.getElem_cons_succ, List.getElem_cons_zero, Act.put, List.setIfInBounds_toArray, List.set_cons_zero, List.set_cons_succ])
  apply wpAnyH_take (i := 11) rfl (by kernel_rfl) (by kernel_rfl) (by kernel_rfl)
  case hQ => exact fun _ _ _ h => h
  case hS => exact hHeld
  case hy => (refine Or.inl ⟨by rfl, ?_⟩; intro w hSw; go_split_ands; go_simp; (try with_reducible rfl))
  (try simp only [List.getElem_toArray, List.getElem_cons_succ, List.getElem_cons_zero, Act.put, List.setIfInBounds_toArray, List.set_cons_zero, List.set_cons_succ])
  apply wpAnyH_take (i := 12) rfl (by kernel_rfl) (by kernel_rfl) (by kernel_rfl)
  case hQ => exact fun _ _ _ h => h
  case hS => exact hHeld
  case hy => (refine Or.inl ⟨by rfl, ?_⟩; intro w hSw; go_split_ands; go_simp; (try with_reducible rfl))
  (try simp only [List.getElem_toArray, List.getElem_cons_succ, List.getElem_cons_zero, Act.put, List.setIfInBounds_toArray, List.set_cons_zero, List.set_cons_succ])
  refine wpAnyH_done (by kernel_rfl) ?_ _
  have HF := Lib.hid (HB.out.trans (hb3.mono HB.out.size))
  clear hb2 hb3 hcc hbr
  go_wp2
  go_ret
  exact ⟨rfl, HF.out⟩
set_option maxRecDepth 100000 in
set_option maxHeartbeats 4000000 in
theorem aval_f0 (z l d lo hi : Int) (A : Option Addr) (n c : Nat) (nm : List B8) (_ : Bool) (w w1 : World) (_ : World → Value → Prop) (hw1 : w1 = w.alloc (.cells (arow false z l d lo hi (.slice A n c) nm) 25))
    (k1 : ∀ W, Below w1.heap.size w1 W → Calls Tryd.prog 37 #[.agg (arow false z l d lo hi (.slice A n c) nm)] W fun e w' => e = .returned (.bool false) ∧ Below w1.heap.size w1 w')
    : Calls Tryd.prog 19 #[.agg (arow false z l d lo hi (.slice A n c) nm)] w fun e w' => e = .returned (.bool false) ∧ Below w.heap.size w w' := by
  have hsz : w1.heap.size = w.heap.size + 1 := by rw [hw1]; simp
  have hR : ARow w1 w.heap.size false z l d lo hi (.slice A n c) nm := by rw [hw1]; exact Whole.here _ _ _
  have HB : Hid (Below w.heap.size w w1) := Lib.hid (by rw [hw1]; exact (Below.refl w.heap.size w).alloc (Nat.le_refl _) _)
  have hcc : ∀ W, Below w1.heap.size w1 W → W.cell? ⟨w.heap.size, 0, none⟩ = some (.bool false) ∧ W.cell? ⟨w.heap.size, 1, none⟩ = some (.int .u64 z) ∧ W.cell? ⟨w.heap.size, 2, none⟩ = some (.int .u64 l) ∧ W.cell? ⟨w.heap.size, 3, none⟩ = some (.int .u64 d) ∧ W.cell? ⟨w.heap.size, 4, none⟩ = some (.int .i64 lo) ∧ W.cell? ⟨w.heap.size, 5, none⟩ = some (.int .i64 hi) ∧ W.cell? ⟨w.heap.size, 6, none⟩ = some (.slice A n c) ∧ W.cell? ⟨w.heap.size, 7, none⟩ = some (.string (sof nm)) := fun W hb => ARow.cells (Whole.below hR hb (by omega))
  have hbr := Below.refl w1.heap.size w1
  clear hR hsz
  go_enter Tryd.func19, Tryd.ntmps19
  go_upto_region 1 with fail
  rw [← hw1]
  clear hw1
  refine wp_region_held_drew (S := fun W => W.cell? ⟨w.heap.size, 0, none⟩ = some (.bool false) ∧ W.cell? ⟨w.heap.size, 1, none⟩ = some (.int .u64 z) ∧ W.cell? ⟨w.heap.size, 2, none⟩ = some (.int .u64 l) ∧ W.cell? ⟨w.heap.size, 3, none⟩ = some (.int .u64 d) ∧ W.cell? ⟨w.heap.size, 4, none⟩ = some (.int .i64 lo) ∧ W.cell? ⟨w.heap.size, 5, none⟩ = some (.int .i64 hi) ∧ W.cell? ⟨w.heap.size, 6, none⟩ = some (.slice A n c) ∧ W.cell? ⟨w.heap.size, 7, none⟩ = some (.string (sof nm))) (by kernel_rfl) (hcc _ (Below.refl _ _).drew) (fun hHeld => ?_)
  apply wpAnyH_take (i := 0) rfl (by kernel_rfl) (by kernel_rfl) (by kernel_rfl)
  case hQ => exact fun _ _ _ h => h
  case hS => exact hHeld
  case hy => (refine Or.inl ⟨by rfl, ?_⟩; intro w hSw; go_split_ands; go_simp; (try with_reducible rfl))
  (try simp only [List.getElem_toArray, List.getElem_cons_zero, Act.put, List.setIfInBounds_toArray, List.set_cons_zero, List.set_cons_succ])
  apply wpAnyH_take (i := 1) rfl (by kernel_rfl) (by kernel_rfl) (by kernel_rfl)
  case hQ => exact fun _ _ _ h => h
  case hS => exact hHeld
  case hy => (refine Or.inl ⟨by rfl, ?_⟩; intro w hSw; go_split_ands; go_simp; (try with_reducible rfl))
  (try simp only [List.getElem_toArray, List.getElem_cons_succ, List.getElem_cons_zero, Act.put, List.setIfInBounds_toArray, List.set_cons_zero, List.set_cons_succ])
  apply wpAnyH_take (i := 2) rfl (by kernel_rfl) (by kernel_rfl) (by kernel_rfl)
  case hQ => exact fun _ _ _ h => h
  case hS => exact hHeld
  case hy => (refine Or.inl ⟨by rfl, ?_⟩; intro w hSw; go_split_ands; go_simp; (try with_reducible rfl))
  (try simp only [List.getElem_toArray, List.getElem_cons_succ, List.getElem_cons_zero, Act.put, List.setIfInBounds_toArray, List.set_cons_zero, List.set_cons_succ])
  apply wpAnyH_take (i := 3) rfl (by kernel_rfl) (by kernel_rfl) (by kernel_rfl)
  case hQ => exact fun _ _ _ h => h
  case hS => exact hHeld
  case hy => (refine Or.inl ⟨by rfl, ?_⟩; intro w hSw; go_split_ands; go_simp; (try with_reducible rfl))
  (try simp only [List.getElem_toArray, List.getElem_cons_succ, List.getElem_cons_zero, Act.put, List.setIfInBounds_toArray, List.set_cons_zero, List.set_cons_succ])
  refine wpAnyH_ready (rs := [4]) (by kernel_rfl) (by simp) ?_
  refine AllReadyH.cons rfl (fun K hK => ?_) AllReadyH.nil
  (try simp only [List.getElem_toArray, List.getElem_cons_succ, List.getElem_cons_zero])
  go_simp
  go_at_call 37
  refine (k1 _ (Below.drew hbr)).mono ?_
  rintro e w2 ⟨rfl, hb2⟩
  refine hK.out _ _ (hcc _ hb2) (fun hHeld => ?_)
  clear hK K
  (try simp only [List.getElem_toArray, List.getElem_cons_succ, List.getElem_cons_zero, Act.put, List.setIfInBounds_toArray, List.set_cons_zero, List.set_cons_succ])
  apply wpAnyH_take (i := 5) rfl (by kernel_rfl) (by kernel_rfl) (by kernel_rfl)
  case hQ => exact fun _ _ _ h => h
  case hS => exact hHeld
  case hy => (refine Or.inl ⟨by rfl, ?_⟩; intro w hSw; go_split_ands; go_simp; (try with_reducible rfl))
  (try simp only [List.getElem_toArray, List.getElem_cons_succ, List.getElem_cons_zero, Act.put, List.setIfInBounds_toArray, List.set_cons_zero, List.set_cons_succ])
  apply wpAnyH_take (i := 6) rfl (by kernel_rfl) (by kernel_rfl) (by kernel_rfl)
  case hQ => exact fun _ _ _ h => h
  case hS => exact hHeld
  case hy => (refine Or.inl ⟨by rfl, ?_⟩; intro w hSw; go_split_ands; go_simp; (try with_reducible rfl))
  (try simp only [List.getElem_toArray, List.getElem_cons_succ, List.getElem_cons_zero, Act.put, List.setIfInBounds_toArray, List.set_cons_zero, List.set_cons_succ])
  apply wpAnyH_take (i := 7) rfl (by kernel_rfl) (by kernel_rfl) (by kernel_rfl)
  case hQ => exact fun _ _ _ h => h
  case hS => exact hHeld
  case hy => exact Or.inr ⟨by rfl, rfl⟩
  (try simp only [List.getElem_toArray, List.getElem_cons_succ, List.getElem_cons_zero, Act.put, List.setIfInBounds_toArray, List.set_cons_zero, List.set_cons_succ])
  apply wpAnyH_take (i := 8) rfl (by kernel_rfl) (by kernel_rfl) (by kernel_rfl)
  case hQ => exact fun _ _ _ h => h
  case hS => exact hHeld
  case hy => exact Or.inr ⟨by rfl, rfl⟩
  (try simp only [List.getElem_toArray, List.getElem_cons_succ, List.getElem_cons_zero, Act.put, List.setIfInBounds_toArray, List.set_cons_zero, List.set_cons_succ])
  apply wpAnyH_take (i := 9) rfl (by kernel_rfl) (by kernel_rfl) (by kernel_rfl)
  case hQ => exact fun _ _ _ h => h
  case hS => exact hHeld
  case hy => exact Or.inr ⟨by rfl, rfl⟩
  (try simp only [List.getElem_toArray, List.getElem_cons_succ, List.getElem_cons_zero, Act.put, List.setIfInBounds_toArray, List.set_cons_zero, List.set_cons_succ])
  apply wpAnyH_take (i := 10) rfl (by kernel_rfl) (by kernel_rfl) (by kernel_rfl)
  case hQ => exact fun _ _ _ h => h
  case hS => exact hHeld
  case hy => exact Or.inr ⟨by rfl, rfl⟩
  (try simp only [List.getElem_toArray, List.getElem_cons_succ, List.getElem_cons_zero, Act.put, List.setIfInBounds_toArray, List.set_cons_zero, List.set_cons_succ])
  apply wpAnyH_take (i := 11) rfl (by kernel_rfl) (by kernel_rfl) (by kernel_rfl)
  case hQ => exact fun _ _ _ h => h
  case hS => exact hHeld
  case hy => (refine Or.inl ⟨by rfl, ?_⟩; intro w hSw; go_split_ands; go_simp; (try with_reducible rfl))
  (try simp only [List.getElem_toArray, List.getElem_cons_succ, List.getElem_cons_zero, Act.put, List.setIfInBounds_toArray, List.set_cons_zero, List.set_cons_succ])
  apply wpAnyH_take (i := 12) rfl (by kernel_rfl) (by kernel_rfl) (by kernel_rfl)
  case hQ => exact fun _ _ _ h => h
  case hS => exact hHeld
  case hy => (refine Or.inl ⟨by rfl, ?_⟩; intro w hSw; go_split_ands; go_simp; (try with_reducible rfl))
  (try simp only [List.getElem_toArray, List.getElem_cons_succ, List.getElem_cons_zero, Act.put, List.setIfInBounds_toArray, List.set_cons_zero, List.set_cons_succ])
  refine wpAnyH_done (by kernel_rfl) ?_ _
  have HF := Lib.hid (HB.out.trans (hb2.mono HB.out.size))
  clear hb2 hcc hbr
  go_wp2
  go_ret
  exact ⟨rfl, HF.out⟩
set_option maxRecDepth 100000 in
set_option maxHeartbeats 4000000 in
theorem aval_f1 (z l d lo hi : Int) (A : Option Addr) (n c : Nat) (nm : List B8) (D : Bool) (w w1 : World) (C : World → Value → Prop) (hw1 : w1 = w.alloc (.cells (arow false z l d lo hi (.slice A n c) nm) 25))
    (k1 : ∀ W, Below w1.heap.size w1 W → Calls Tryd.prog 37 #[.agg (arow false z l d lo hi (.slice A n c) nm)] W fun e w' => e = .returned (.bool true) ∧ Below w1.heap.size w1 w')
    (k2 : ∀ W, Below w1.heap.size w1 W → Calls Tryd.prog 31 #[.agg (arow false z l d lo hi (.slice A n c) nm)] W fun e w' => (∃ y, e = .returned y ∧ C w' y) ∧ Below w1.heap.size w1 w')
    (k3 : ∀ W y, Below w1.heap.size w1 W → C W y → Calls Tryd.prog 38 #[.agg (arow false z l d lo hi (.slice A n c) nm), y] W fun e w' => e = .returned (.bool D) ∧ Below w1.heap.size w1 w')
    : Calls Tryd.prog 19 #[.agg (arow false z l d lo hi (.slice A n c) nm)] w fun e w' => e = .returned (.bool D) ∧ Below w.heap.size w w' := by
  have hsz : w1.heap.size = w.heap.size + 1 := by rw [hw1]; simp
  have hR : ARow w1 w.heap.size false z l d lo hi (.slice A n c) nm := by rw [hw1]; exact Whole.here _ _ _
  have HB : Hid (Below w.heap.size w w1) := Lib.hid (by rw [hw1]; exact (Below.refl w.heap.size w).alloc (Nat.le_refl _) _)
  have hcc : ∀ W, Below w1.heap.size w1 W → W.cell? ⟨w.heap.size, 0, none⟩ = some (.bool false) ∧ W.cell? ⟨w.heap.size, 1, none⟩ = some (.int .u64 z) ∧ W.cell? ⟨w.heap.size, 2, none⟩ = some (.int .u64 l) ∧ W.cell? ⟨w.heap.size, 3, none⟩ = some (.int .u64 d) ∧ W.cell? ⟨w.heap.size, 4, none⟩ = some (.int .i64 lo) ∧ W.cell? ⟨w.heap.size, 5, none⟩ = some (.int .i64 hi) ∧ W.cell? ⟨w.heap.size, 6, none⟩ = some (.slice A n c) ∧ W.cell? ⟨w.heap.size, 7, none⟩ = some (.string (sof nm)) := fun W hb => ARow.cells (Whole.below hR hb (by omega))
  have hbr := Below.refl w1.heap.size w1
  clear hR hsz
  go_enter Tryd.func19, Tryd.ntmps19
  go_upto_region 1 with fail
  rw [← hw1]
  clear hw1
  refine wp_region_held_drew (S := fun W => W.cell? ⟨w.heap.size, 0, none⟩ = some (.bool false) ∧ W.cell? ⟨w.heap.size, 1, none⟩ = some (.int .u64 z) ∧ W.cell? ⟨w.heap.size, 2, none⟩ = some (.int .u64 l) ∧ W.cell? ⟨w.heap.size, 3, none⟩ = some (.int .u64 d) ∧ W.cell? ⟨w.heap.size, 4, none⟩ = some (.int .i64 lo) ∧ W.cell? ⟨w.heap.size, 5, none⟩ = some (.int .i64 hi) ∧ W.cell? ⟨w.heap.size, 6, none⟩ = some (.slice A n c) ∧ W.cell? ⟨w.heap.size, 7, none⟩ = some (.string (sof nm))) (by kernel_rfl) (hcc _ (Below.refl _ _).drew) (fun hHeld => ?_)
  apply wpAnyH_take (i := 0) rfl (by kernel_rfl) (by kernel_rfl) (by kernel_rfl)
  case hQ => exact fun _ _ _ h => h
  case hS => exact hHeld
  case hy => (refine Or.inl ⟨by rfl, ?_⟩; intro w hSw; go_split_ands; go_simp; (try with_reducible rfl))
  (try simp only [List.getElem_toArray, List.getElem_cons_zero, Act.put, List.setIfInBounds_toArray, List.set_cons_zero, List.set_cons_succ])
  apply wpAnyH_take (i := 1) rfl (by kernel_rfl) (by kernel_rfl) (by kernel_rfl)
  case hQ => exact fun _ _ _ h => h
  case hS => exact hHeld
  case hy => (refine Or.inl ⟨by rfl, ?_⟩; intro w hSw; go_split_ands; go_simp; (try with_reducible rfl))
  (try simp only [List.getElem_toArray, List.getElem_cons_succ, List.getElem_cons_zero, Act.put, List.setIfInBounds_toArray, List.set_cons_zero, List.set_cons_succ])
  apply wpAnyH_take (i := 2) rfl (by kernel_rfl) (by kernel_rfl) (by kernel_rfl)
  case hQ => exact fun _ _ _ h => h
  case hS => exact hHeld
  case hy => (refine Or.inl ⟨by rfl, ?_⟩; intro w hSw; go_split_ands; go_simp; (try with_reducible rfl))
  (try simp only [List.getElem_toArray, List.getElem_cons_succ, List.getElem_cons_zero, Act.put, List.setIfInBounds_toArray, List.set_cons_zero, List.set_cons_succ])
  apply wpAnyH_take (i := 3) rfl (by kernel_rfl) (by kernel_rfl) (by kernel_rfl)
  case hQ => exact fun _ _ _ h => h
  case hS => exact hHeld
  case hy => (refine Or.inl ⟨by rfl, ?_⟩; intro w hSw; go_split_ands; go_simp; (try with_reducible rfl))
  (try simp only [List.getElem_toArray, List.getElem_cons_succ, List.getElem_cons_zero, Act.put, List.setIfInBounds_toArray, List.set_cons_zero, List.set_cons_succ])
  refine wpAnyH_ready (rs := [4]) (by kernel_rfl) (by simp) ?_
  refine AllReadyH.cons rfl (fun K hK => ?_) AllReadyH.nil
  (try simp only [List.getElem_toArray, List.getElem_cons_succ, List.getElem_cons_zero])
  go_simp
  go_at_call 37
  refine (k1 _ (Below.drew hbr)).mono ?_
  rintro e w2 ⟨rfl, hb2⟩
  refine hK.out _ _ (hcc _ hb2) (fun hHeld => ?_)
  clear hK K
  (try simp only [List.getElem_toArray, List.getElem_cons_succ, List.getElem_cons_zero, Act.put, List.setIfInBounds_toArray, List.set_cons_zero, List.set_cons_succ])
  apply wpAnyH_take (i := 5) rfl (by kernel_rfl) (by kernel_rfl) (by kernel_rfl)
  case hQ => exact fun _ _ _ h => h
  case hS => exact hHeld
  case hy => (refine Or.inl ⟨by rfl, ?_⟩; intro w hSw; go_split_ands; go_simp; (try with_reducible rfl))
  (try simp only [List.getElem_toArray, List.getElem_cons_succ, List.getElem_cons_zero, Act.put, List.setIfInBounds_toArray, List.set_cons_zero, List.set_cons_succ])
  apply wpAnyH_take (i := 6) rfl (by kernel_rfl) (by kernel_rfl) (by kernel_rfl)
  case hQ => exact fun _ _ _ h => h
  case hS => exact hHeld
  case hy => (refine Or.inl ⟨by rfl, ?_⟩; intro w hSw; go_split_ands; go_simp; (try with_reducible rfl))
  (try simp only [List.getElem_toArray, List.getElem_cons_succ, List.getElem_cons_zero, Act.put, List.setIfInBounds_toArray, List.set_cons_zero, List.set_cons_succ])
  apply wpAnyH_take (i := 7) rfl (by kernel_rfl) (by kernel_rfl) (by kernel_rfl)
  case hQ => exact fun _ _ _ h => h
  case hS => exact hHeld
  case hy => (refine Or.inl ⟨by rfl, ?_⟩; intro w hSw; go_split_ands; go_simp; (try with_reducible rfl))
  (try simp only [List.getElem_toArray, List.getElem_cons_succ, List.getElem_cons_zero, Act.put, List.setIfInBounds_toArray, List.set_cons_zero, List.set_cons_succ])
  apply wpAnyH_take (i := 8) rfl (by kernel_rfl) (by kernel_rfl) (by kernel_rfl)
  case hQ => exact fun _ _ _ h => h
  case hS => exact hHeld
  case hy => (refine Or.inl ⟨by rfl, ?_⟩; intro w hSw; go_split_ands; go_simp; (try with_reducible rfl))
  (try simp only [List.getElem_toArray, List.getElem_cons_succ, List.getElem_cons_zero, Act.put, List.setIfInBounds_toArray, List.set_cons_zero, List.set_cons_succ])
  refine wpAnyH_ready (rs := [9]) (by kernel_rfl) (by simp) ?_
  refine AllReadyH.cons rfl (fun K hK => ?_) AllReadyH.nil
  (try simp only [List.getElem_toArray, List.getElem_cons_succ, List.getElem_cons_zero])
  go_simp
  go_at_call 31
  refine (k2 _ hb2).mono ?_
  rintro e w3 ⟨⟨y, rfl, hC⟩, hb3⟩
  refine hK.out _ _ (hcc _ hb3) (fun hHeld => ?_)
  clear hK K
  (try simp only [List.getElem_toArray, List.getElem_cons_succ, List.getElem_cons_zero, Act.put, List.setIfInBounds_toArray, List.set_cons_zero, List.set_cons_succ])
  refine wpAnyH_ready (rs := [10]) (by kernel_rfl) (by simp) ?_
  refine AllReadyH.cons rfl (fun K hK => ?_) AllReadyH.nil
  (try simp only [List.getElem_toArray, List.getElem_cons_succ, List.getElem_cons_zero])
  go_simp
  go_at_call 38
  refine (k3 _ _ hb3 hC).mono ?_
  rintro e w4 ⟨rfl, hb4⟩
  refine hK.out _ _ (hcc _ hb4) (fun hHeld => ?_)
  clear hK K
  (try simp only [List.getElem_toArray, List.getElem_cons_succ, List.getElem_cons_zero, Act.put, List.setIfInBounds_toArray, List.set_cons_zero, List.set_cons_succ])
  apply wpAnyH_take (i := 11) rfl (by kernel_rfl) (by kernel_rfl) (by kernel_rfl)
  case hQ => exact fun _ _ _ h => h
  case hS => exact hHeld
  case hy => (refine Or.inl ⟨by rfl, ?_⟩; intro w hSw; go_split_ands; go_simp; (try with_reducible rfl))
  (try simp only [List.getElem_toArray, List.getElem_cons_succ, List.getElem_cons_zero, Act.put, List.setIfInBounds_toArray, List.set_cons_zero, List.set_cons_succ])
  apply wpAnyH_take (i := 12) rfl (by kernel_rfl) (by kernel_rfl) (by kernel_rfl)
  case hQ => exact fun _ _ _ h => h
  case hS => exact hHeld
  case hy => (refine Or.inl ⟨by rfl, ?_⟩; intro w hSw; go_split_ands; go_simp; (try with_reducible rfl))
  (try simp only [List.getElem_toArray, List.getElem_cons_succ, List.getElem_cons_zero, Act.put, List.setIfInBounds_toArray, List.set_cons_zero, List.set_cons_succ])
  refine wpAnyH_done (by kernel_rfl) ?_ _
  have HF := Lib.hid (HB.out.trans (hb4.mono HB.out.size))
  clear hb2 hb3 hb4 hcc hbr
  go_wp2
  go_ret
  exact ⟨rfl, HF.out⟩
theorem avalid {w : World} {Q : Nat → Prop} {x : Value} {a : Aut} (hx : Av w Q x a) :
    Calls Tryd.prog 19 #[x] w fun e w' => e = .returned (.bool (decide (aok a))) ∧ Below w.heap.size w w' := by
  have hx0 := hx.any
  obtain ⟨A, c, rfl, hS, hab⟩ := hx
  obtain ⟨w1, hw1⟩ : ∃ w1, w1 = w.alloc (.cells (avl a A c) 25) := ⟨_, rfl⟩
  have hB : Below w.heap.size w w1 := by rw [hw1]; exact (Below.refl w.heap.size w).alloc (Nat.le_refl _) _
  have hav : ∀ W, Below w1.heap.size w1 W → Av W (fun g => g < w1.heap.size) (.agg (avl a A c)) a := fun W hb => ((hx0.below hB (Nat.le_refl _)).low (hb.mono hB.size)).mono fun g _ hg => Nat.lt_of_lt_of_le hg hB.size
  have k1 : ∀ W, Below w1.heap.size w1 W → Calls Tryd.prog 37 #[.agg (avl a A c)] W fun e w' => e = .returned (.bool (decide (rng a))) ∧ Below w1.heap.size w1 w' := fun W hb => (alimits (hav W hb)).mono fun e w' h => ⟨h.1, hb.trans (h.2.mono hb.size)⟩
  have k2 : Wk a → ∀ W, Below w1.heap.size w1 W → Calls Tryd.prog 31 #[.agg (avl a A c)] W fun e w' => (∃ y, e = .returned y ∧ ∃ m, Av w' (fun g => w1.heap.size ≤ g) y m ∧ IsSet (ina a) m) ∧ Below w1.heap.size w1 w' := fun hk W hb => (ashrink (hav W hb) hk).mono fun e w' h => by
    obtain ⟨⟨y, m, he, hm, hi⟩, h2⟩ := h
    exact ⟨⟨y, he, m, hm.mono fun g _ hg => Nat.le_trans hb.size hg, hi⟩, hb.trans (h2.mono hb.size)⟩
  have k3 : ∀ W y, Below w1.heap.size w1 W → (∃ m, Av W (fun g => w1.heap.size ≤ g) y m ∧ IsSet (ina a) m) → Calls Tryd.prog 38 #[.agg (avl a A c), y] W fun e w' => e = .returned (.bool (decide (aok a))) ∧ Below w1.heap.size w1 w' := fun W y hb ⟨m, hm, hi⟩ => (aequal (hav W hb) hm).mono fun e w' h => by
    refine ⟨h.1.trans ?_, hb.trans (h.2.mono hb.size)⟩
    congr 2
    refine decide_eq_decide.2 ⟨fun e => ?_, fun ha => (aok_set ha).unique hi⟩
    rw [e]
    exact hi.1
  rcases (by cases a.none <;> simp : a.none = true ∨ a.none = false) with hn | hn
  · have ea : avl a A c = arow true a.zones a.lines a.days a.lo a.hi (.slice A a.daily.length c) a.holder := by unfold avl; rw [hn]
    by_cases hk : Wk a
    · have k2' := k2 hk
      rw [ea] at hw1 k2' k3 ⊢
      exact aval_t _ _ _ _ _ A _ c _ _ w w1 (fun W y => ∃ m, Av W (fun g => w1.heap.size ≤ g) y m ∧ IsSet (ina a) m) hw1 k2' k3
    · have k4 : ∀ W, Below w1.heap.size w1 W → Calls Tryd.prog 31 #[.agg (avl a A c)] W fun e w' => (∃ y, e = .returned y ∧ ∃ m, Av w' (fun g => w1.heap.size ≤ g) y m ∧ IsSet (ina a) m) ∧ Below w1.heap.size w1 w' := fun W hb => by
        rw [ea]
        refine (ashrink_bad (.inl rfl)).mono fun e w' h => ?_
        obtain ⟨rfl, h2⟩ := h
        exact ⟨⟨_, rfl, .never, av_never _ _, IsSet.never fun c _ => ina_void (.inl hn) c⟩, hb.trans (h2.mono hb.size)⟩
      rw [ea] at hw1 k4 k3 ⊢
      exact aval_t _ _ _ _ _ A _ c _ _ w w1 (fun W y => ∃ m, Av W (fun g => w1.heap.size ≤ g) y m ∧ IsSet (ina a) m) hw1 k4 k3
  · have ea : avl a A c = arow false a.zones a.lines a.days a.lo a.hi (.slice A a.daily.length c) a.holder := by unfold avl; rw [hn]
    by_cases hr : rng a
    · have k2' := k2 (rng_wk hab.1 hr)
      rw [decide_eq_true hr] at k1
      rw [ea] at hw1 k1 k2' k3 ⊢
      exact aval_f1 _ _ _ _ _ A _ c _ _ w w1 (fun W y => ∃ m, Av W (fun g => w1.heap.size ≤ g) y m ∧ IsSet (ina a) m) hw1 k1 k2' k3
    · rw [decide_eq_false hr] at k1
      rw [decide_eq_false fun h => hr (aok_rng h hn)]
      rw [ea] at hw1 k1 ⊢
      exact aval_f0 _ _ _ _ _ A _ c _ false w w1 (fun _ _ => True) hw1 k1
end Go.Proofs.YtgbcncfhmnhljaaDoor
namespace Go.Proofs.YtgbcncfhmnhljaaDoor
open Go Go.RowKit Sh Leaf
namespace Sh

/-- The minutes of the day are cut down to those of b. -/
def mday (a b : Aut) : Aut := { a with daily := cmn a.daily b.daily }
theorem mday_wk {a b : Aut} (ha : Wk a) (hb : Wk b) : Wk (mday a b) :=
  ⟨ha.z, ha.l, ha.d, ha.lo, ha.hi, ha.h, asc_le (by omega) (cmn_asc _ _ 0 0 ha.sp hb.sp), cmn_less _ _ _ ha.less⟩
theorem mday_ina {a b : Aut} (ha : Wk a) (hb : Wk b) {c : Ctx} (hc : cok c) : ina (mday a b) c ↔ ina a c ∧ spm b.daily (c.minute % 1440) := by
  obtain ⟨_, _, ⟨m0, m1⟩, _⟩ := hc
  have e : ((c.minute.toNat % 1440 : Nat) : Int) = c.minute % 1440 := by omega
  have h := cmn_spm a.daily b.daily 0 0 ha.sp hb.sp (c.minute % 1440)
  unfold ina mins mday
  simp only
  rw [e, h]
  constructor
  · rintro ⟨h1, h2, h3, ⟨h4, h5, h6, h7, h8⟩, h9⟩; exact ⟨⟨h1, h2, h3, ⟨h4, h5, h6, h7⟩, h9⟩, h8⟩
  · rintro ⟨⟨h1, h2, h3, ⟨h4, h5, h6, h7⟩, h9⟩, h8⟩; exact ⟨h1, h2, h3, ⟨h4, h5, h6, h7, h8⟩, h9⟩
theorem aok_bnds {b : Aut} (hb : aok b) (hn : b.none = false) : ∀ p ∈ bnds b, pok p := ((lim_rng b).2 (aok_rng hb hn)).1
theorem meet_set {a b m : Aut} (ha : aok a) (hb : aok b) (hn : b.none = false) (hm : IsSet (ina (mday (rstl a (bnds b)) b)) m) : IsSet (both a b) m :=
  hm.congr fun c hc => by
    rw [mday_ina (rstl_wk (aok_wk ha) (aok_bnds hb hn)) (aok_wk hb) hc, rstl_ina (aok_wk ha) (aok_bnds hb hn) c hc, and_assoc, bnds_ina hn hc]
    exact ⟨fun h => ⟨ha, hb, h.1, h.2⟩, fun h => h.2.2⟩
theorem meet_no {a b : Aut} (h : ¬ aok a ∨ ¬ aok b ∨ b.none = true) : IsSet (both a b) .never := IsSet.never fun c _ k => by
  rcases h with h | h | h
  · exact h k.1
  · exact h k.2.1
  · have := k.2.2.2.1; rw [h] at this; cases this
end Sh
end Go.Proofs.YtgbcncfhmnhljaaDoor
namespace Go.Proofs.YtgbcncfhmnhljaaDoor
open Go Go.RowKit Sh Leaf

set_option maxRecDepth 100000 in
set_option maxHeartbeats 4000000 in
theorem acon_in (z l d lo hi : Int) (A : Option Addr) (n c : Nat) (nm : List B8) (cz cl cm : Int) (cn : List B8) (M : Int) (hM : cm.tmod 1440 = M) (K D : Bool) (w w1 : World) (P : World → Option Addr → Nat → Nat → Prop) (hw1 : w1 = (w.alloc (.cells (arow false z l d lo hi (.slice A n c) nm) 25)).alloc (.cells (crow cz cl cm cn) 34))
    (k1 : ∀ W, Below w1.heap.size w1 W → Calls Tryd.prog 19 #[.agg (arow false z l d lo hi (.slice A n c) nm)] W fun e w' => e = .returned (.bool true) ∧ Below w1.heap.size w1 w')
    (k2 : ∀ W, Below w1.heap.size w1 W → Calls Tryd.prog 60 #[.agg (arow false z l d lo hi (.slice A n c) nm)] W fun e w' => (∃ Pd pc pn, e = .returned (.slice Pd pn pc) ∧ P w' Pd pc pn) ∧ Below w1.heap.size w1 w')
    (k3 : ∀ W Pd pc pn, Below w1.heap.size w1 W → P W Pd pc pn → Calls Tryd.prog 61 #[.slice Pd pn pc, .agg (crow cz cl cm cn)] W fun e w' => (∃ ix : Int, e = .returned (.tuple #[.int .i64 ix, .bool K])) ∧ Below w1.heap.size w1 w')
    (k4 : K = true → ∀ W g, Below w1.heap.size w1 W → g < W.heap.size → W.cell? ⟨g, 0, none⟩ = some (.int .i64 M) → Calls Tryd.prog 62 #[.slice A n c, .func (.func 63) #[] #[.pointer (some ⟨g, 0, none⟩)]] W fun e w' => e = .returned (.bool D) ∧ Below w1.heap.size w1 w') :
    Calls Tryd.prog 40 #[.agg (arow false z l d lo hi (.slice A n c) nm), .agg (crow cz cl cm cn)] w fun e w' => e = .returned (.bool (K && D)) ∧ Below w.heap.size w w' := by
  have hR : ARow w1 w.heap.size false z l d lo hi (.slice A n c) nm := by rw [hw1]; exact (Whole.here _ _ _).alloc _
  have hC : CRow w1 (w.heap.size + 1) cz cl cm cn := by rw [hw1]; exact Whole.at_ _ _ _ _ (by simp)
  have hsz : w1.heap.size = w.heap.size + 2 := by rw [hw1]; simp
  have HB : Hid (Below w.heap.size w w1) := Lib.hid (by rw [hw1]; exact ab_below w _ _)
  have hcc : ∀ W, Below w1.heap.size w1 W → W.cell? ⟨w.heap.size, 0, none⟩ = some (.bool false) ∧ W.cell? ⟨w.heap.size, 1, none⟩ = some (.int .u64 z) ∧ W.cell? ⟨w.heap.size, 2, none⟩ = some (.int .u64 l) ∧ W.cell? ⟨w.heap.size, 3, none⟩ = some (.int .u64 d) ∧ W.cell? ⟨w.heap.size, 4, none⟩ = some (.int .i64 lo) ∧ W.cell? ⟨w.heap.size, 5, none⟩ = some (.int .i64 hi) ∧ W.cell? ⟨w.heap.size, 6, none⟩ = some (.slice A n c) ∧ W.cell? ⟨w.heap.size, 7, none⟩ = some (.string (sof nm)) ∧ W.cell? ⟨w.heap.size + 1, 0, none⟩ = some (.int .i64 cz) ∧ W.cell? ⟨w.heap.size + 1, 1, none⟩ = some (.int .i64 cl) ∧ W.cell? ⟨w.heap.size + 1, 2, none⟩ = some (.int .i64 cm) ∧ W.cell? ⟨w.heap.size + 1, 3, none⟩ = some (.string (sof cn)) := fun W hb => by
    obtain ⟨a0, a1, a2, a3, a4, a5, a6, a7⟩ := ARow.cells (Whole.below hR hb (by omega))
    obtain ⟨b0, b1, b2, b3⟩ := CRow.cells (Whole.below hC hb (by omega))
    exact ⟨a0, a1, a2, a3, a4, a5, a6, a7, b0, b1, b2, b3⟩
  have HCC := Lib.hid hcc
  obtain ⟨a0, a1, a2, a3, a4, a5, a6, a7, -⟩ := hcc w1 (Below.refl _ _)
  have hv := k1 w1 (Below.refl _ _)
  clear hR hC hcc k1
  go_enter Tryd.func40, Tryd.ntmps40
  go_upto_region 1 with fail
  rw [← hw1]
  clear hw1
  go_wp2_with fail
  refine hv.mono ?_
  rintro e w2 ⟨rfl, hb2⟩
  have hcc := HCC.out
  clear hv a0 a1 a2 a3 a4 a5 a6 a7
  go_upto_region 3 with fail
  refine wp_region_held_drew (S := fun W => W.cell? ⟨w.heap.size, 0, none⟩ = some (.bool false) ∧ W.cell? ⟨w.heap.size, 1, none⟩ = some (.int .u64 z) ∧ W.cell? ⟨w.heap.size, 2, none⟩ = some (.int .u64 l) ∧ W.cell? ⟨w.heap.size, 3, none⟩ = some (.int .u64 d) ∧ W.cell? ⟨w.heap.size, 4, none⟩ = some (.int .i64 lo) ∧ W.cell? ⟨w.heap.size, 5, none⟩ = some (.int .i64 hi) ∧ W.cell? ⟨w.heap.size, 6, none⟩ = some (.slice A n c) ∧ W.cell? ⟨w.heap.size, 7, none⟩ = some (.string (sof nm)) ∧ W.cell? ⟨w.heap.size + 1, 0, none⟩ = some (.int .i64 cz) ∧ W.cell? ⟨w.heap.size + 1, 1, none⟩ = some (.int .i64 cl) ∧ W.cell? ⟨w.heap.size + 1, 2, none⟩ = some (.int .i64 cm) ∧ W.cell? ⟨w.heap.size + 1, 3, none⟩ = some (.string (sof cn))) (by kernel_rfl) (hcc _ (Below.drew hb2)) (fun hHeld => ?_)
  apply wpAnyH_take (i := 0) rfl (by kernel_rfl) (by kernel_rfl) (by kernel_rfl)
  case hQ => exact fun _ _ _ h => h
  case hS => exact hHeld
  case hy => (refine Or.inl ⟨by rfl, ?_⟩; intro w hSw; go_split_ands; go_simp; (try with_reducible rfl))
  (try simp only [List.getElem_toArray, List.getElem_cons_zero, Act.put, List.setIfInBounds_toArray, List.set_cons_zero, List.set_cons_succ])
  apply wpAnyH_take (i := 2) rfl (by kernel_rfl) (by kernel_rfl) (by kernel_rfl)
  case hQ => exact fun _ _ _ h => h
  case hS => exact hHeld
  case hy => (refine Or.inl ⟨by rfl, ?_⟩; intro w hSw; go_split_ands; go_simp; (try with_reducible rfl))
  (try simp only [List.getElem_toArray, List.getElem_cons_succ, List.getElem_cons_zero, Act.put, List.setIfInBounds_toArray, List.set_cons_zero, List.set_cons_succ])
  refine wpAnyH_ready (rs := [1]) (by kernel_rfl) (by simp) ?_
  refine AllReadyH.cons rfl (fun K hK => ?_) AllReadyH.nil
  (try simp only [List.getElem_toArray, List.getElem_cons_succ, List.getElem_cons_zero])
  go_simp
  go_at_call 60
  refine (k2 _ (Below.drew hb2)).mono ?_
  rintro e w3 ⟨⟨Pd, pc, pn, rfl, hP⟩, hb3⟩
  refine hK.out _ _ (hcc _ hb3) (fun hHeld => ?_)
  clear hK K
  (try simp only [List.getElem_toArray, List.getElem_cons_succ, List.getElem_cons_zero, Act.put, List.setIfInBounds_toArray, List.set_cons_zero, List.set_cons_succ])
  refine wpAnyH_ready (rs := [3]) (by kernel_rfl) (by simp) ?_
  refine AllReadyH.cons rfl (fun K hK => ?_) AllReadyH.nil
  (try simp only [List.getElem_toArray, List.getElem_cons_succ, List.getElem_cons_zero])
  go_simp
  go_at_call 61
  refine (k3 _ Pd pc pn hb3 hP).mono ?_
  rintro e w4 ⟨⟨ix, rfl⟩, hb4⟩
  refine hK.out _ _ (hcc _ hb4) (fun hHeld => ?_)
  clear hK K
  (try simp only [List.getElem_toArray, List.getElem_cons_succ, List.getElem_cons_zero, Act.put, List.setIfInBounds_toArray, List.set_cons_zero, List.set_cons_succ])
  apply wpAnyH_take (i := 4) rfl (by kernel_rfl) (by kernel_rfl) (by kernel_rfl)
  case hQ => exact fun _ _ _ h => h
  case hS => exact hHeld
  case hy => (refine Or.inl ⟨by rfl, ?_⟩; intro w hSw; go_split_ands; go_simp; (try with_reducible rfl))
  (try simp only [List.getElem_toArray, List.getElem_cons_succ, List.getElem_cons_zero, Act.put, List.setIfInBounds_toArray, List.set_cons_zero, List.set_cons_succ])
  apply wpAnyH_take (i := 5) rfl (by kernel_rfl) (by kernel_rfl) (by kernel_rfl)
  case hQ => exact fun _ _ _ h => h
  case hS => exact hHeld
  case hy => (refine Or.inl ⟨by rfl, ?_⟩; intro w hSw; go_split_ands; go_simp; (try with_reducible rfl))
  (try simp only [List.getElem_toArray, List.getElem_cons_succ, List.getElem_cons_zero, Act.put, List.setIfInBounds_toArray, List.set_cons_zero, List.set_cons_succ])
  apply wpAnyH_take (i := 6) rfl (by kernel_rfl) (by kernel_rfl) (by kernel_rfl)
  case hQ => exact fun _ _ _ h => h
  case hS => exact hHeld
  case hy => (refine Or.inl ⟨by rfl, ?_⟩; intro w hSw; go_split_ands; go_simp; (try with_reducible rfl))
  (try simp only [List.getElem_toArray, List.getElem_cons_succ, List.getElem_cons_zero, Act.put, List.setIfInBounds_toArray, List.set_cons_zero, List.set_cons_succ])
  apply wpAnyH_take (i := 7) rfl (by kernel_rfl) (by kernel_rfl) (by kernel_rfl)
  case hQ => exact fun _ _ _ h => h
  case hS => exact hHeld
  case hy => (refine Or.inl ⟨by rfl, ?_⟩; intro w hSw; go_split_ands; go_simp; (try with_reducible rfl))
  (try simp only [List.getElem_toArray, List.getElem_cons_succ, List.getElem_cons_zero, Act.put, List.setIfInBounds_toArray, List.set_cons_zero, List.set_cons_succ])
  apply wpAnyH_take (i := 8) rfl (by kernel_rfl) (by kernel_rfl) (by kernel_rfl)
  case hQ => exact fun _ _ _ h => h
  case hS => exact hHeld
  case hy => (refine Or.inl ⟨by rfl, ?_⟩; intro w hSw; go_split_ands; go_simp; (try with_reducible rfl))
  (try simp only [List.getElem_toArray, List.getElem_cons_succ, List.getElem_cons_zero, Act.put, List.setIfInBounds_toArray, List.set_cons_zero, List.set_cons_succ])
  refine wpAnyH_done (by kernel_rfl) ?_ _
  clear hHeld hb2 hP k2 k3
  obtain ⟨-, -, -, -, -, -, a6, -, -, -, b2, -⟩ := hcc w4 hb4
  obtain ⟨w5, hw5⟩ : ∃ w5, w5 = w4.alloc (.cells #[.int .i64 M] 3) := ⟨_, rfl⟩
  have hb5 : Below w1.heap.size w1 w5 := by rw [hw5]; exact hb4.alloc hb4.size _
  obtain ⟨-, -, -, -, -, -, a65, -, -, -, -, -⟩ := hcc w5 hb5
  have hcm : w5.cell? ⟨w4.heap.size, 0, none⟩ = some (.int .i64 M) := by rw [hw5]; exact (Whole.here w4 _ _).cell 0
  have hgl : w4.heap.size < w5.heap.size := by rw [hw5]; simp
  have HB5 := Lib.hid hb5
  clear hcc HCC hb3 hb4 hsz
  go_upto_region 5 with fail
  rw [← hw5]
  clear hw5 a6 b2 hM
  cases K
  · have HF : Hid (Below w.heap.size w w5) := Lib.hid (HB.out.trans (HB5.out.mono HB.out.size))
    clear k4 hb5 hcm hgl a65 HB5
    go_wp2_with fail
    go_ret
    exact ⟨rfl, HF.out⟩
  · have hk := k4 rfl w5 w4.heap.size hb5 hgl hcm
    clear k4 hb5
    go_wp2_with fail
    refine hk.mono ?_
    rintro e w6 ⟨rfl, hb6⟩
    have HF : Hid (Below w.heap.size w w6) := Lib.hid (HB.out.trans (hb6.mono HB.out.size))
    clear hk hb6 hcm hgl a65
    go_wp2_with fail
    go_ret
    exact ⟨rfl, HF.out⟩
theorem acon_no (no : Bool) (z l d lo hi : Int) (A : Option Addr) (n c : Nat) (nm : List B8) (cz cl cm : Int) (cn : List B8) (w w1 : World) (hw1 : w1 = (w.alloc (.cells (arow no z l d lo hi (.slice A n c) nm) 25)).alloc (.cells (crow cz cl cm cn) 34))
    (k1 : no = false → ∀ W, Below w1.heap.size w1 W → Calls Tryd.prog 19 #[.agg (arow no z l d lo hi (.slice A n c) nm)] W fun e w' => e = .returned (.bool false) ∧ Below w1.heap.size w1 w') :
    Calls Tryd.prog 40 #[.agg (arow no z l d lo hi (.slice A n c) nm), .agg (crow cz cl cm cn)] w fun e w' => e = .returned (.bool false) ∧ Below w.heap.size w w' := by
  have hR : ARow w1 w.heap.size no z l d lo hi (.slice A n c) nm := by rw [hw1]; exact (Whole.here _ _ _).alloc _
  have HB : Hid (Below w.heap.size w w1) := Lib.hid (by rw [hw1]; exact ab_below w _ _)
  obtain ⟨a0, a1, a2, a3, a4, a5, a6, a7⟩ := hR.cells
  cases no
  · have hv := k1 rfl w1 (Below.refl _ _)
    clear hR k1
    go_enter Tryd.func40, Tryd.ntmps40
    go_upto_region 1 with fail
    rw [← hw1]
    clear hw1
    go_wp2_with fail
    refine hv.mono ?_
    rintro e w2 ⟨rfl, hb2⟩
    have HF : Hid (Below w.heap.size w w2) := Lib.hid (HB.out.trans (hb2.mono HB.out.size))
    clear hv hb2 a0 a1 a2 a3 a4 a5 a6 a7
    go_wp2_with fail
    go_ret
    exact ⟨rfl, HF.out⟩
  · clear hR k1
    go_enter Tryd.func40, Tryd.ntmps40
    go_upto_region 1 with fail
    rw [← hw1]
    clear hw1
    go_wp2_with fail
    go_ret
    exact ⟨rfl, HB.out⟩
noncomputable instance (l : List (Int × Int)) (k : Int) : Decidable (spm l k) := Classical.propDecidable _
/-- Contains. -/
theorem acontains {w : World} {Q : Nat → Prop} {x : Value} {a : Aut} (hx : Av w Q x a) (c : Ctx) (hc : c.holder.length ≤ 9223372036854775807) :
    Calls Tryd.prog 40 #[x, cv c] w fun e w' => e = .returned (.bool (decide (aok a ∧ cok c ∧ ina a c))) ∧ Below w.heap.size w w' := by
  have hx0 := hx.any
  obtain ⟨A, n, rfl, hS, hab⟩ := hx
  rw [cv_row]
  obtain ⟨w1, hw1⟩ : ∃ w1, w1 = (w.alloc (.cells (avl a A n) 25)).alloc (.cells (crow c.zone c.line c.minute c.holder) 34) := ⟨_, rfl⟩
  have hB : Below w.heap.size w w1 := by rw [hw1]; exact ab_below w _ _
  have hav : ∀ W, Below w1.heap.size w1 W → Av W (fun g => g < w.heap.size) (.agg (avl a A n)) a := fun W hb => (hx0.below hB (Nat.le_refl _)).low (hb.mono hB.size)
  have k1 : ∀ W, Below w1.heap.size w1 W → Calls Tryd.prog 19 #[.agg (avl a A n)] W fun e w' => e = .returned (.bool (decide (aok a))) ∧ Below w1.heap.size w1 w' := fun W hb => (avalid (hav W hb)).mono fun e w' h => ⟨h.1, hb.trans (h.2.mono hb.size)⟩
  by_cases hok : a.none = false ∧ aok a
  case neg =>
    rw [decide_eq_false (p := _ ∧ _) fun h => hok ⟨h.2.2.1, h.1⟩]
    refine acon_no a.none a.zones a.lines a.days a.lo a.hi A a.daily.length n a.holder c.zone c.line c.minute c.holder w w1 hw1 fun hn W hb => ?_
    have := k1 W hb
    rw [decide_eq_false fun h => hok ⟨hn, h⟩] at this
    exact this
  obtain ⟨hn, ha⟩ := hok
  rw [decide_eq_true ha] at k1
  have ea : avl a A n = arow false a.zones a.lines a.days a.lo a.hi (.slice A a.daily.length n) a.holder := by unfold avl; rw [hn]
  have k2 : ∀ W, Below w1.heap.size w1 W → Calls Tryd.prog 60 #[.agg (avl a A n)] W fun e w' => (∃ Pd pc pn, e = .returned (.slice Pd pn pc) ∧ (Prds w' (fun _ => True) Pd pc (bnds a) ∧ pn = (bnds a).length)) ∧ Below w1.heap.size w1 w' := fun W hb => (abounds (hav W hb)).mono fun e w' h => by
    obtain ⟨⟨Pd, pc, pn, he, hl, hP⟩, h2⟩ := h
    exact ⟨⟨Pd, pc, pn, he, hP.mono fun _ _ _ => trivial, hl⟩, hb.trans (h2.mono hb.size)⟩
  have k3 : ∀ W Pd pc pn, Below w1.heap.size w1 W → (Prds W (fun _ => True) Pd pc (bnds a) ∧ pn = (bnds a).length) → Calls Tryd.prog 61 #[.slice Pd pn pc, .agg (crow c.zone c.line c.minute c.holder)] W fun e w' => (∃ ix : Int, e = .returned (.tuple #[.int .i64 ix, .bool (decide (∀ p ∈ bnds a, hd p c))])) ∧ Below w1.heap.size w1 w' := fun W Pd pc pn hb ⟨hP, hl⟩ => by
    subst hl
    have := hall_ (bnds a) c hc Pd pc (fun _ => True) W hP
    rw [cv_row, hdAll_all] at this
    exact this.mono fun e w' h => ⟨⟨_, h.1⟩, hb.trans (h.2.mono hb.size)⟩
  have hall : (∀ p ∈ bnds a, hd p c) → cok c := fun h => (h ⟨1, a.zones, 0, 0, [], 0⟩ (List.mem_append_left _ (by simp))).2.1
  obtain ⟨K, hK⟩ : ∃ K, K = decide (∀ p ∈ bnds a, hd p c) := ⟨_, rfl⟩
  rw [← hK] at k3
  obtain ⟨Dd, hDd⟩ : ∃ D, D = decide (spm a.daily (c.minute % 1440)) := ⟨_, rfl⟩
  have k4 : K = true → ∀ W g, Below w1.heap.size w1 W → g < W.heap.size → W.cell? ⟨g, 0, none⟩ = some (.int .i64 (c.minute.tmod 1440)) → Calls Tryd.prog 62 #[.slice A a.daily.length n, .func (.func 63) #[] #[.pointer (some ⟨g, 0, none⟩)]] W fun e w' => e = .returned (.bool Dd) ∧ Below w1.heap.size w1 w' := fun hk W g hb hg hm => by
    rw [hK] at hk
    have hco := hall (of_decide_eq_true hk)
    have e : c.minute.tmod 1440 = c.minute % 1440 := Int.tmod_eq_emod_of_nonneg hco.2.2.1.1
    rw [e] at hm
    have hsw : Spn W (fun g => g < w.heap.size) A n a.daily := (hS.mono (Q' := fun g => g < w.heap.size) fun g hg _ => hg).low (hB.trans (hb.mono hB.size))
    exact (acontf hsw (c.minute % 1440) g hg hm _ rfl Dd (by rw [hDd]; exact decide_eq_true_iff)).mono fun e w' h => ⟨h.1, hb.trans (h.2.mono hb.size)⟩
  rw [ea] at hw1 k1 k2 ⊢
  refine (acon_in a.zones a.lines a.days a.lo a.hi A a.daily.length n a.holder c.zone c.line c.minute c.holder _ rfl K Dd w w1 (fun W Pd pc pn => Prds W (fun _ => True) Pd pc (bnds a) ∧ pn = (bnds a).length) hw1 k1 k2 k3 k4).mono fun e w' h => ⟨h.1.trans ?_, h.2⟩
  congr 2
  rw [hK, hDd, ← Bool.decide_and]
  refine decide_eq_decide.2 ⟨fun h => ?_, fun h => ?_⟩
  · have hco := hall h.1
    exact ⟨ha, hco, (bnds_ina hn hco).1 ⟨fun p hp => (h.1 p hp).2.2, h.2⟩⟩
  · obtain ⟨_, hco, hin⟩ := h
    obtain ⟨h1, h2⟩ := (bnds_ina hn hco).2 hin
    exact ⟨fun p hp => ⟨aok_bnds ha hn p hp, hco, h1 p hp⟩, h2⟩
end Go.Proofs.YtgbcncfhmnhljaaDoor
namespace Go.Proofs.YtgbcncfhmnhljaaDoor
open Go Go.RowKit Sh Leaf

section
variable {p W : World} {x y : Value} {a b : Aut} {Q1 Q2 : Nat → Prop}
theorem law_con (hb : Below p.heap.size p W) (hx : Av W Q1 x a) {cz cl cm : Int} {cn : List B8} (hc : cn.length ≤ 9223372036854775807) {B : Bool} (e : decide (aok a ∧ cok ⟨cz, cl, cm, cn⟩ ∧ ina a ⟨cz, cl, cm, cn⟩) = B) :
    Calls Tryd.prog 40 #[x, .agg (crow cz cl cm cn)] W fun e w' => e = .returned (.bool B) ∧ Below p.heap.size p w' ∧ Below W.heap.size W w' :=
  by
  have k := acontains hx ⟨cz, cl, cm, cn⟩ hc
  rw [cv_row, e] at k
  exact k.mono fun _ _ h => ⟨h.1, hb.trans (h.2.mono hb.size), h.2⟩
theorem law_valid (hb : Below p.heap.size p W) (hx : Av W Q1 x a) {B : Bool} (e : decide (aok a) = B) :
    Calls Tryd.prog 19 #[x] W fun e w' => e = .returned (.bool B) ∧ Below p.heap.size p w' ∧ Below W.heap.size W w' :=
  (avalid hx).mono fun _ _ h => ⟨by rw [h.1, e], hb.trans (h.2.mono hb.size), h.2⟩
theorem law_full (hb : Below p.heap.size p W) :
    Calls Tryd.prog 14 #[] W fun e w' => (∃ z, e = .returned z ∧ Av w' (fun _ => True) z fullA) ∧ Below p.heap.size p w' ∧ Below W.heap.size W w' :=
  (afull W).mono fun _ _ h => by
    obtain ⟨⟨z, he, hz⟩, h2⟩ := h
    exact ⟨⟨z, he, hz.all⟩, hb.trans (h2.mono hb.size), h2⟩
end
end Go.Proofs.YtgbcncfhmnhljaaDoor
