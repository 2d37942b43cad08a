/-
  KPrd
  KCav
-/
import Derived.Laws.Rows
import Derived.Laws.Tables
import Derived.Test.YtiikhjifjdpgdaaDoorPk5
import Derived.Test.YtiikhjifjdpgdaaDoorPk0
import Derived.Test.YtiikhjifjdpgdaaDoorPk3
namespace Go.Proofs.YtiikhjifjdpgdaaDoor
open Go Go.RowKit Sh Leaf

abbrev prow (k m lo hi : Int) (nm : List B8) (nu : Int) : Array Value := #[.int .i64 k, .int .u64 m, .int .i64 lo, .int .i64 hi, .string (sof nm), .int .i64 nu]
abbrev PRow (w : World) (g : Nat) (k m lo hi : Int) (nm : List B8) (nu : Int) : Prop := Whole w g 57 (prow k m lo hi nm nu)
section
variable {w : World} {g : Nat} {k m lo hi : Int} {nm : List B8} {nu : Int}
theorem PRow.cells (h : PRow w g k m lo hi nm nu) :
    w.cell? ⟨g, 0, none⟩ = some (.int .i64 k) ∧ w.cell? ⟨g, 1, none⟩ = some (.int .u64 m) ∧ w.cell? ⟨g, 2, none⟩ = some (.int .i64 lo) ∧ w.cell? ⟨g, 3, none⟩ = some (.int .i64 hi) ∧ w.cell? ⟨g, 4, none⟩ = some (.string (sof nm)) ∧ w.cell? ⟨g, 5, none⟩ = some (.int .i64 nu) :=
  ⟨h.cell 0, h.cell 1, h.cell 2, h.cell 3, h.cell 4, h.cell 5⟩
theorem PRow.frees (h : PRow w g k m lo hi nm nu) : w.frozen? ⟨g, 0, none⟩ = false ∧ w.frozen? ⟨g, 1, none⟩ = false ∧ w.frozen? ⟨g, 2, none⟩ = false ∧ w.frozen? ⟨g, 3, none⟩ = false ∧ w.frozen? ⟨g, 4, none⟩ = false ∧ w.frozen? ⟨g, 5, none⟩ = false :=
  ⟨h.frozen 0, h.frozen 1, h.frozen 2, h.frozen 3, h.frozen 4, h.frozen 5⟩
theorem PRow.setRow (h : PRow w g k m lo hi nm nu) (k' m' lo' hi' : Int) (nm' : List B8) (nu' : Int) : PRow (w.setRow g (prow k' m' lo' hi' nm' nu')) g k' m' lo' hi' nm' nu' := Whole.setRow h _
end
end Go.Proofs.YtiikhjifjdpgdaaDoor
namespace Go.Proofs.YtiikhjifjdpgdaaDoor
open Go Go.RowKit Sh Leaf

abbrev cvrow (th : Bool) (p : Prd) (pa : Int) (vt vb : Value) : Array Value := #[.bool th, .int .i64 p.kind, .int .u64 (p.mask : Int), .int .i64 p.lo, .int .i64 p.hi, .string (sof p.name), .int .i64 p.num, .int .i64 pa, vt, vb]
abbrev CvRow (w : World) (g : Nat) (th : Bool) (p : Prd) (pa : Int) (vt vb : Value) : Prop := Whole w g 59 (cvrow th p pa vt vb)
def Cwf (c : Cav) : Prop := c.first.mask < 18446744073709551616 ∧ c.first.name.length ≤ 9223372036854775807 ∧ c.ticket.length ≤ 5000 ∧ c.box.length ≤ 5000
def CavV (w : World) (Q : Nat → Prop) (v : Value) (c : Cav) : Prop := ∃ A1 c1 A2 c2, v = .agg (cvrow c.third c.first c.party (.slice A1 c.ticket.length c1) (.slice A2 c.box.length c2)) ∧ Bytes w Q (.slice A1 c.ticket.length c1) c.ticket ∧ Bytes w Q (.slice A2 c.box.length c2) c.box ∧ Cwf c
section
variable {w w' : World} {g B : Nat} {th : Bool} {p : Prd} {pa : Int} {vt vb : Value} {Q Q' : Nat → Prop} {v : Value} {c : Cav}
theorem CavV.mono (h : CavV w Q v c) (k : ∀ b, b < w.heap.size → Q b → Q' b) : CavV w Q' v c := by
  obtain ⟨A1, c1, A2, c2, e, h1, h2, h3⟩ := h
  exact ⟨A1, c1, A2, c2, e, h1.mono k, h2.mono k, h3⟩
theorem CavV.below (h : CavV w Q v c) (hb : Below B w w') (hB : w.heap.size ≤ B) : CavV w' Q v c := by
  obtain ⟨A1, c1, A2, c2, e, h1, h2, h3⟩ := h
  exact ⟨A1, c1, A2, c2, e, h1.below hb hB, h2.below hb hB, h3⟩
theorem CavV.wf (h : CavV w Q v c) : Cwf c := by obtain ⟨_, _, _, _, _, _, _, h⟩ := h; exact h
theorem CavV.zero (w : World) (Q : Nat → Prop) : CavV w Q (.agg (cvrow false .zero 0 (.slice none 0 0) (.slice none 0 0))) .zero := ⟨none, 0, none, 0, rfl, Bytes.nil _ _, Bytes.nil _ _, by unfold Cwf; simp⟩
theorem CvRow.cells (h : CvRow w g th p pa vt vb) :
    w.cell? ⟨g, 0, none⟩ = some (.bool th) ∧ w.cell? ⟨g, 7, none⟩ = some (.int .i64 pa) ∧ w.cell? ⟨g, 8, none⟩ = some vt ∧ w.cell? ⟨g, 9, none⟩ = some vb := ⟨h.cell 0, h.cell 7, h.cell 8, h.cell 9⟩
end
end Go.Proofs.YtiikhjifjdpgdaaDoor
