/-
  RefCSm
-/
import Derived.Deep.CutBlock
import Derived.Deep.DeepCutAuto
import Derived.Deep.RegionHeld3
import Derived.Test.YtiikhjifjdpgdaaDoorKSq
import Derived.Test.YtiikhjifjdpgdaaDoorPk42
import Derived.Test.YtiikhjifjdpgdaaDoorPk11
namespace Go.Proofs.YtiikhjifjdpgdaaDoor
open Go Go.RowKit Sh Leaf

def Cvs (w : World) (A : Option Addr) (l : List Cav) : Prop := ∀ (i : Nat) (c : Cav), l[i]? = some c → ∃ g o A1 c1 A2 c2, A = some ⟨g, o, none⟩ ∧ g < w.heap.size ∧ w.rangeAt g (o + i * 10) [.bool c.third, .int .i64 c.first.kind, .int .u64 (c.first.mask : Int), .int .i64 c.first.lo, .int .i64 c.first.hi, .string (sof c.first.name), .int .i64 c.first.num, .int .i64 c.party, .slice A1 c.ticket.length c1, .slice A2 c.box.length c2] ∧ Bytes w (fun _ => True) (.slice A1 c.ticket.length c1) c.ticket ∧ Bytes w (fun _ => True) (.slice A2 c.box.length c2) c.box ∧ Cwf c
theorem Cvs.below {w w' : World} {A : Option Addr} {l : List Cav} (h : Cvs w A l) (hb : Below w.heap.size w w') : Cvs w' A l := fun i c hc => by
  obtain ⟨g, o, A1, c1, A2, c2, h1, h2, h3, h4, h5, h6⟩ := h i c hc
  exact ⟨g, o, A1, c1, A2, c2, h1, Nat.lt_of_lt_of_le h2 hb.size, fun j v hv => (hb.cell (p := ⟨g, o + i * 10 + j, none⟩) h2).trans (h3 j v hv), h4.below hb (Nat.le_refl _), h5.below hb (Nat.le_refl _), h6⟩
theorem Cvs.one {w : World} {g : Nat} {c : Cav} {A1 A2 : Option Addr} {c1 c2 : Nat} (h : CvRow w g c.third c.first c.party (.slice A1 c.ticket.length c1) (.slice A2 c.box.length c2)) (h1 : Bytes w (fun _ => True) (.slice A1 c.ticket.length c1) c.ticket) (h2 : Bytes w (fun _ => True) (.slice A2 c.box.length c2) c.box) (hw : Cwf c) : Cvs w (some ⟨g, 0, none⟩) [c] := fun i d hd => by
  match i, hd with
  | 0, hd =>
    injection hd with hd
    subst hd
    refine ⟨g, 0, A1, c1, A2, c2, rfl, h.lt, fun j v hj => ?_, h1, h2, hw⟩
    show w.cell? ⟨g, 0 + 0 * 10 + j, none⟩ = some v
    rw [Nat.zero_mul, Nat.zero_add, Whole.cell h]
    unfold cvrow
    rw [List.getElem?_toArray]
    exact hj
  | n + 1, hd => simp at hd
def TwP (P : World) (x y : Cav) (A1 A2 B1 B2 : Option Addr) (c1 c2 d1 d2 : Nat) (s6 s7 : Value) (wx : World) : Prop := ∃ G H, s6 = .pointer (some ⟨G, 0, none⟩) ∧ s7 = .pointer (some ⟨H, 0, none⟩) ∧ CvRow wx G x.third x.first x.party (.slice A1 x.ticket.length c1) (.slice A2 x.box.length c2) ∧ CvRow wx H y.third y.first y.party (.slice B1 y.ticket.length d1) (.slice B2 y.box.length d2) ∧ Below P.heap.size P wx
end Go.Proofs.YtiikhjifjdpgdaaDoor
