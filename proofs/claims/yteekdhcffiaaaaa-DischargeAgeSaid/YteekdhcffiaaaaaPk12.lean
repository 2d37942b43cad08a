/-
  KDby
-/
import Derived.Deep.CutBlock
import Derived.Test.YteekdhcffiaaaaaPk3
import Derived.Test.YteekdhcffiaaaaaPk7
namespace Go.Proofs.Yteekdhcffiaaaaa
open Go Go.RowKit Sh Leaf

theorem own_oth {g base n s : Nat} {e : TypeId} {w w' : World} {v : Value} {xs : List Value} (h : w.ownsRow base e s v n xs) (ho : Oth g w w') (hb : g < base) : w'.ownsRow base e s v n xs := by
  refine ⟨h.1, ?_⟩
  rcases h.2 with h2 | ⟨b, cap, cur, hv, hbb, hh, r⟩
  · exact .inl h2
  · exact .inr ⟨b, cap, cur, hv, hbb, ho.oth b _ _ (by omega) hh, r⟩
theorem Turn.below {g B : Nat} {a b c : World} (h : Turn g a b) (hb : Below B b c) (hB : g < B) (hs : a.heap.size ≤ B) : Turn g a c := by
  refine ⟨h.1.below hb hB, h.2.1.trans (hb.mono (by omega)), ⟨fun x t cs hx fr hw => ?_, fun v hv => ?_⟩⟩
  · have h1 := h.2.2.oth x t cs hx hw
    rw [hb.block x (by have := lt_of_heap hw; omega)]
    exact h1
  · exact (hb.cell (p := ⟨g, 0, none⟩) hB).trans (h.2.2.zero v hv)
theorem Deck.here {g : Nat} {w w' : World} (h : Deck g w) (hb : Below w.heap.size w w') : Turn g w w' := ⟨h.below hb h.lt, hb.mono (by have := h.lt; omega), Oth.below g hb⟩
end Go.Proofs.Yteekdhcffiaaaaa
