/-
  A row of bytes of the call's own; bytes as literals.
-/
import Derived.Test.YtefjdpanjioflaaKApp
namespace Go.Proofs.Ytefjdpanjioflaa
open Go Go.RowKit Sh Leaf

/-- The slice v has the bytes l at the head of a block of the call's own (from 'base' on), or is nil. -/
abbrev Own (w : World) (base : Nat) (v : Value) (l : List B8) : Prop := w.ownsRow base 5 1 v l.length (l.map byt)
theorem own_nil (w : World) (base : Nat) : Own w base (.slice none 0 0) [] := ⟨by simp, .inl ⟨rfl, by simp⟩⟩
theorem byt_lit (n : Nat) (h : n < 256) : byt (BitVec.ofNat 8 n) = .int .u8 (n : Int) := by rw [byt, bv_lit n h]
theorem own_mono {w : World} {base base' : Nat} {v : Value} {l : List B8} (h : Own w base v l) (hb : base' ≤ base) : Own w base' v l := by
  refine ⟨h.1, ?_⟩
  rcases h.2 with h2 | ⟨g, cap, cur, hv, hg, r⟩
  · exact .inl h2
  · exact .inr ⟨g, cap, cur, hv, by omega, r⟩
theorem own_alloc {w : World} {base : Nat} {v : Value} {l : List B8} (h : Own w base v l) (o : Obj) : Own (w.alloc o) base v l := own_below h ((Below.refl w.heap.size w).alloc (Nat.le_refl _) o) (Nat.le_refl _)
/-- Element k of a row of the call's own: its cell, and what a store leaves. -/
theorem own_cell {w : World} {base : Nat} {v : Value} {l : List B8} (h : Own w base v l) (k : Nat) (hk : k < l.length) :
    ∃ g cap, v = .slice (some ⟨g, 0, none⟩) l.length cap ∧ base ≤ g ∧ w.cell? ⟨g, k, none⟩ = some (byt (l.getD k 0)) ∧ w.frozen? ⟨g, k, none⟩ = false ∧ ∀ x : B8, Own (w.setCell ⟨g, k, none⟩ (byt x)) base v (l.set k x) := by
  obtain ⟨g, cap, cur, rfl, hg, hh, hc, hm, hs, ht⟩ := own_open h (by omega)
  refine ⟨g, cap, rfl, hg, ?_, hh.frozen k, fun x => ?_⟩
  · rw [hh.cell, ht k l[k] (List.getElem?_eq_getElem hk), List.getD_eq_getElem?_getD, List.getElem?_eq_getElem hk]; rfl
  · have hset := hh.set k (byt x)
    refine ⟨by simp, .inr ⟨g, cap, _, by rw [List.length_set], hg, hset, by rw [List.length_set]; exact hc, hm, ?_, ?_⟩⟩
    · have hsz : cur.size = cap := by
        rcases h.2 with ⟨h2, _⟩ | ⟨g', cap', cur', hv, _, hh', _, _, hs', _⟩
        · cases h2
        · cases hv
          have e : Whole w g 5 cur' := hh'
          unfold Whole at e hh
          rw [hh] at e
          cases e
          omega
      rw [Array.size_setIfInBounds]
      omega
    · apply List.ext_getElem?
      intro j
      rw [List.getElem?_take, List.getElem?_map, List.getElem?_set]
      by_cases hj : j < (l.set k x).length * 1
      · rw [if_pos hj]
        rw [List.length_set] at hj
        have hjl : j < l.length := by omega
        rw [Array.getElem?_toList, Array.getElem?_setIfInBounds]
        by_cases e : k = j
        · subst e
          rw [if_pos rfl, if_pos (by omega), if_pos rfl, if_pos hk]
          rfl
        · rw [if_neg e, if_neg e, ht j l[j] (List.getElem?_eq_getElem hjl), List.getElem?_eq_getElem hjl]
          rfl
      · rw [if_neg hj]
        rw [List.length_set] at hj
        rw [if_neg (by omega), List.getElem?_eq_none (by omega)]
        rfl
theorem bv_toNat (x : B8) : bv x = (x.toNat : Int) := by unfold bv; rfl
end Go.Proofs.Ytefjdpanjioflaa
