/-
  BxCat3
-/
import Derived.Lib.SlBytesConst
import Derived.RangeFuncNested
import Derived.Test.YteekdhcffiaaaaaDoorPk4
namespace Go.Proofs.YteekdhcffiaaaaaDoor
open Go Go.RowKit Sh Leaf
set_option maxRecDepth 100000 in
set_option maxHeartbeats 2000000 in
theorem concat3b (g : Nat) (v1 v2 v3 : Value) (l1 l2 l3 : List B8) (Q1 Q2 Q3 : Nat → Prop) (w : World) (hc1 : w.cell? ⟨g, 0, none⟩ = some v1) (hc2 : w.cell? ⟨g, 1, none⟩ = some v2) (hc3 : w.cell? ⟨g, 2, none⟩ = some v3)
    (h1 : Bytes w Q1 v1 l1) (h2 : Bytes w Q2 v2 l2) (h3 : Bytes w Q3 v3 l3) (h0 : 0 < l1.length) (hl : l1.length + l2.length + l3.length ≤ 1000000000) :
    Calls Tryd.prog 65 #[.slice (some ⟨g, 0, none⟩) 3 3] w fun e w' => ∃ v', e = .returned v' ∧ Bytes w' (fun g => w.heap.size ≤ g) v' (l1 ++ l2 ++ l3) ∧ Below w.heap.size w w' := by
  have hg : g < w.heap.size := block_lt_of_cell hc1
  obtain ⟨A1, c1, rfl, -⟩ := id h1
  obtain ⟨A2, c2, rfl, -⟩ := id h2
  obtain ⟨A3, c3, rfl, -⟩ := id h3
  have hgr := grow (l1.length + l2.length + l3.length) (by omega) hl w
  rw [show ((l1.length + l2.length + l3.length : Nat) : Int) = (l1.length : Int) + (l2.length : Int) + (l3.length : Int) by omega] at hgr
  have HG := Lib.hid hgr
  clear hgr
  go_enter Tryd.func65, Tryd.ntmps65
  go_wp2
  refine wp_loop_rounds 4 ?_
  iterate 4 (rw [rounds_succ]; go_wp2_with fail)
  refine HG.out.mono ?_
  rintro e w1 ⟨v', rfl, ho, hb⟩
  have hc1' : w1.cell? ⟨g, 0, none⟩ = some (.slice A1 l1.length c1) := (hb.cell (p := ⟨g, 0, none⟩) hg).trans hc1
  have hc2' : w1.cell? ⟨g, 1, none⟩ = some (.slice A2 l2.length c2) := (hb.cell (p := ⟨g, 1, none⟩) hg).trans hc2
  have hc3' : w1.cell? ⟨g, 2, none⟩ = some (.slice A3 l3.length c3) := (hb.cell (p := ⟨g, 2, none⟩) hg).trans hc3
  have h1' := h1.below hb (Nat.le_refl _)
  have H2 := Lib.hid h2
  have H3 := Lib.hid h3
  have hbs := hb.size
  clear HG hc1 hc2 hc3 h1 h2 h3
  go_wp2
  refine wp_loop_rounds 4 ?_
  rw [rounds_succ]
  go_wp2_with (at_builtin; refine wpList_append_bytes rfl _ _ rfl w.heap.size v' [] rfl ho Q1 _ l1 rfl h1' (by simp; omega) hbs ?_; intro v3 w3 ho3 hb3)
  rw [List.nil_append] at ho3
  have hc2'' : w3.cell? ⟨g, 1, none⟩ = some (.slice A2 l2.length c2) := (hb3.cell (p := ⟨g, 1, none⟩) hg).trans hc2'
  have hc3'' : w3.cell? ⟨g, 2, none⟩ = some (.slice A3 l3.length c3) := (hb3.cell (p := ⟨g, 2, none⟩) hg).trans hc3'
  have h2'' : Bytes w3 Q2 (.slice A2 l2.length c2) l2 := H2.out.below (hb.trans hb3) (Nat.le_refl _)
  have hbs3 : w.heap.size ≤ w3.heap.size := Nat.le_trans hbs hb3.size
  rw [rounds_succ]
  go_wp2_with (at_builtin; refine wpList_append_bytes rfl _ _ rfl w.heap.size v3 l1 rfl ho3 Q2 _ l2 rfl h2'' (by omega) hbs3 ?_; intro v4 w4 ho4 hb4)
  have hc3''' : w4.cell? ⟨g, 2, none⟩ = some (.slice A3 l3.length c3) := (hb4.cell (p := ⟨g, 2, none⟩) hg).trans hc3''
  have h3'' : Bytes w4 Q3 (.slice A3 l3.length c3) l3 := H3.out.below (hb.trans (hb3.trans hb4)) (Nat.le_refl _)
  have hbs4 : w.heap.size ≤ w4.heap.size := Nat.le_trans hbs3 hb4.size
  have hll : (l1 ++ l2).length = l1.length + l2.length := List.length_append
  rw [rounds_succ]
  go_wp2_with (at_builtin; refine wpList_append_bytes rfl _ _ rfl w.heap.size v4 (l1 ++ l2) rfl ho4 Q3 _ l3 rfl h3'' (by omega) hbs4 ?_; intro v5 w5 ho5 hb5)
  rw [rounds_succ]
  go_wp2
  go_ret
  exact ⟨v5, rfl, Bytes.of_own ho5, hb.trans (hb3.trans (hb4.trans hb5))⟩

def marked (G : Nat) (C : Array Value) (W : World) : World := W.putObj G (.cells C 5 (C.size, C.size + 1))
theorem conv_at (W : World) (G : Nat) (C : Array Value) (n c : Nat) (h : Whole W G 5 C) : (convert 39 39 (.slice (some ⟨G, 0, none⟩) n c)).run Tryd.prog W = .ok (.slice (some ⟨G, 0, none⟩) n c) (marked G C W) := by
  have hh : W.heap[G]? = some (.cells C 5) := h
  have hsh : W.shape? G = some (5, C.size) := by
    unfold World.shape?
    rw [hh]
  have hfr : ∀ (k : Nat), W.freeze ⟨G, k, none⟩ 1 = W.putObj G (.cells C 5 (k, k + 1)) := fun k => by
    unfold World.freeze World.putObj
    rw [if_neg (by decide)]
    have hlt := (Array.getElem?_eq_some_iff.1 hh).1
    have he := (Array.getElem?_eq_some_iff.1 hh).2
    show ({ W with heap := W.heap.modify G _ } : World) = _
    congr 1
    apply Array.ext
    · simp
    · intro i h1 h2
      simp only [Array.getElem_modify]
      by_cases hi : G = i
      · subst hi
        simp [he]
      · rw [if_neg hi, Array.getElem_setIfInBounds_ne _ hi]
  simp [convert, run_underlying Tryd.underlying39, run_underlying Tryd.underlying5, markStringish, hsh]
  exact hfr _
end Go.Proofs.YteekdhcffiaaaaaDoor
