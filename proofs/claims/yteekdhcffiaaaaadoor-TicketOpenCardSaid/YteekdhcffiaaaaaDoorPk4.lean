/-
  KCat2
  ShaConcat
-/
import Derived.LoopN
import Derived.Handy
import Derived.Test.YteekdhcffiaaaaaDoorPk3
namespace Go.Proofs.YteekdhcffiaaaaaDoor
open Go Go.RowKit Sh Leaf

set_option maxRecDepth 20000 in
set_option maxHeartbeats 2000000 in
theorem concat (g : Nat) (v1 v2 : Value) (l1 l2 : List B8) (Q1 Q2 : Nat → Prop) (w : World) (hc1 : w.cell? ⟨g, 0, none⟩ = some v1) (hc2 : w.cell? ⟨g, 1, none⟩ = some v2)
    (h1 : Bytes w Q1 v1 l1) (h2 : Bytes w Q2 v2 l2) (h0 : 0 < l1.length) (hl : l1.length + l2.length ≤ 1000000000) :
    Calls Tryd.prog 65 #[.slice (some ⟨g, 0, none⟩) 2 2] w fun e w' => ∃ v', e = .returned v' ∧ Bytes w' (fun g => w.heap.size ≤ g) v' (l1 ++ l2) ∧ Below w.heap.size w w' := by
  have hg : g < w.heap.size := block_lt_of_cell hc1
  obtain ⟨A1, c1, rfl, -⟩ := id h1
  obtain ⟨A2, c2, rfl, -⟩ := id h2
  have hgr := grow (l1.length + l2.length) (by omega) hl w
  rw [show ((l1.length + l2.length : Nat) : Int) = (l1.length : Int) + (l2.length : Int) by omega] at hgr
  have HG := Lib.hid hgr
  clear hgr
  go_enter Tryd.func65, Tryd.ntmps65
  go_wp2
  refine wp_loop_rounds 3 ?_
  iterate 3 (rw [rounds_succ]; go_wp2_with fail)
  refine HG.out.mono ?_
  rintro e w1 ⟨v', rfl, ho, hb⟩
  have hc1' : w1.cell? ⟨g, 0, none⟩ = some (.slice A1 l1.length c1) := (hb.cell (p := ⟨g, 0, none⟩) hg).trans hc1
  have hc2' : w1.cell? ⟨g, 1, none⟩ = some (.slice A2 l2.length c2) := (hb.cell (p := ⟨g, 1, none⟩) hg).trans hc2
  have h1' := h1.below hb (Nat.le_refl _)
  have H2 := Lib.hid h2
  have hbs := hb.size
  clear HG hc1 hc2 h1 h2
  go_wp2
  refine wp_loop_rounds 3 ?_
  rw [rounds_succ]
  go_wp2_with (at_builtin; refine wpList_append_bytes rfl _ _ rfl w.heap.size v' [] rfl ho Q1 _ l1 rfl h1' (by simp; omega) hbs ?_; intro v3 w3 ho3 hb3)
  rw [List.nil_append] at ho3
  have hc2'' : w3.cell? ⟨g, 1, none⟩ = some (.slice A2 l2.length c2) := (hb3.cell (p := ⟨g, 1, none⟩) hg).trans hc2'
  have h2'' : Bytes w3 Q2 (.slice A2 l2.length c2) l2 := H2.out.below (hb.trans hb3) (Nat.le_refl _)
  have hbs3 : w.heap.size ≤ w3.heap.size := Nat.le_trans hbs hb3.size
  rw [rounds_succ]
  go_wp2_with (at_builtin; refine wpList_append_bytes rfl _ _ rfl w.heap.size v3 l1 rfl ho3 Q2 _ l2 rfl h2'' (by omega) hbs3 ?_; intro v4 w4 ho4 hb4)
  rw [rounds_succ]
  go_wp2
  go_ret
  exact ⟨v4, rfl, Bytes.of_own ho4, hb.trans (hb3.trans hb4)⟩
end Go.Proofs.YteekdhcffiaaaaaDoor
namespace Go.Proofs.YteekdhcffiaaaaaDoor
open Go Go.RowKit Sh Leaf

end Go.Proofs.YteekdhcffiaaaaaDoor
