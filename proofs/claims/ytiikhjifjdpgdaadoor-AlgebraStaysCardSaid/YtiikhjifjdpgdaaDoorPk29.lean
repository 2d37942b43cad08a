/-
  The facts of two drawn regions: a tag made of a message that is put together, and what lies where behind it.
  The law AlgebraStays.
-/
import Derived.Test.YtiikhjifjdpgdaaDoorPk15
import Derived.Test.YtiikhjifjdpgdaaDoorPk20
import Derived.Test.YtiikhjifjdpgdaaDoorPk28
import Derived.Deep.CutBlock
import Derived.Deep.RegionHeld3
import Derived.Deep.DeepCutAuto
import Derived.Test.YtiikhjifjdpgdaaDoorPk30
import Derived.Test.YtiikhjifjdpgdaaDoorPk24
import Derived.Test.YtiikhjifjdpgdaaDoorPk3
import Derived.Test.YtiikhjifjdpgdaaDoorPk33
namespace Go.Proofs.YtiikhjifjdpgdaaDoor
open Go Go.RowKit Sh Leaf

def LaB : Nat → Option Nat
  | 2 => some 4
  | 4 => some 7
  | 5 => some 6
  | 6 => some 7
  | 7 => some 8
  | 13 => some 15
  | 14 => some 16
  | _ => none
def LaS : Nat → List Nat
  | 0 => [0]
  | 1 => [1]
  | 2 => [2]
  | 3 => [3]
  | 4 => [4]
  | 5 => [5]
  | 6 => [6]
  | 7 => [7]
  | 8 => [8]
  | 9 => [9, 8]
  | 10 => [10, 9]
  | 11 => [11, 9]
  | 12 => [12, 9]
  | 13 => [13]
  | 14 => [14]
  | 15 => [15, 13, 10]
  | 16 => [16, 14, 11]
  | 17 => [17, 12]
  | _ => []
def LaF (va vk vy : Value) (Y W : List B8) (C : Array Value) (N : Nat) (Q : Nat → Prop) (R : Alg × List B8 × Int) : Nat → (Nat → Value) → (Nat → Prop) → World → Prop
  | 0, v, _, _ => v 0 = va
  | 1, v, _, _ => v 1 = vk
  | 2, v, T, w => ∃ g, v 2 = .slice (some ⟨g, 0, none⟩) 0 0 ∧ (∀ k, k = g → T k) ∧ Whole w g 5 #[]
  | 3, v, _, _ => v 3 = vy
  | 4, v, T, w => OwnBf w 0 (v 4) Y ∧ ∀ g, (v 4).ownBlock = some g → T g
  | 5, v, T, w => ∃ g, v 5 = .slice (some ⟨g, 0, none⟩) C.size C.size ∧ (∀ k, k = g → T k) ∧ Whole w g 5 C
  | 6, v, T, w => ∃ A c, v 6 = .slice A W.length c ∧ Bytes w T (.slice A W.length c) W
  | 7, v, T, w => ∃ A c, v 7 = .slice A (Y ++ W).length c ∧ Bytes w T (.slice A (Y ++ W).length c) (Y ++ W)
  | 8, v, T, w => ∃ x, v 8 = .tuple #[x, tagv R.2.1, .int .i64 R.2.2] ∧ AlV w (fun g => (g < N ∧ Q g) ∨ T g) x R.1
  | 9, v, _, _ => v 9 = v 8
  | 10, v, _, _ => ∃ t e, v 9 = .tuple #[v 10, t, e]
  | 11, v, _, _ => ∃ x e, v 9 = .tuple #[x, v 11, e]
  | 12, v, _, _ => ∃ x t, v 9 = .tuple #[x, t, v 12]
  | 13, v, T, w => ∃ g, v 13 = .pointer (some ⟨g, 0, none⟩) ∧ (∀ k, k = g → T k) ∧ Whole w g 32 zar
  | 14, v, T, w => ∃ g, v 14 = .pointer (some ⟨g, 0, none⟩) ∧ (∀ k, k = g → T k) ∧ Whole w g 28 ztr
  | 15, v, T, w => ∃ g c, v 13 = .pointer (some ⟨g, 0, none⟩) ∧ v 10 = .agg c ∧ (∀ k, k = g → T k) ∧ Whole w g 32 c
  | 16, v, T, w => ∃ g c, v 14 = .pointer (some ⟨g, 0, none⟩) ∧ v 11 = .agg c ∧ (∀ k, k = g → T k) ∧ Whole w g 28 c
  | 17, v, _, _ => v 17 = v 12
  | _, _, _, _ => True
def LbB : Nat → Option Nat
  | 2 => some 4
  | 4 => some 7
  | 5 => some 6
  | 6 => some 7
  | 7 => some 8
  | 13 => some 15
  | _ => none
def LbS : Nat → List Nat
  | 0 => [0]
  | 1 => [1]
  | 2 => [2]
  | 3 => [3]
  | 4 => [4]
  | 5 => [5]
  | 6 => [6]
  | 7 => [7]
  | 8 => [8]
  | 9 => [9, 8]
  | 10 => [10, 9]
  | 11 => [11, 9]
  | 12 => [12, 9]
  | 13 => [13]
  | 14 => [14, 10]
  | 15 => [15, 13, 11]
  | 16 => [16, 12]
  | _ => []
def LbF (G : Nat) (va vk vy : Value) (Y W : List B8) (C : Array Value) (N : Nat) (Q : Nat → Prop) (R : Alg × List B8 × Int) : Nat → (Nat → Value) → (Nat → Prop) → World → Prop
  | 0, v, _, _ => v 0 = va
  | 1, v, _, _ => v 1 = vk
  | 2, v, T, w => ∃ g, v 2 = .slice (some ⟨g, 0, none⟩) 0 0 ∧ (∀ k, k = g → T k) ∧ Whole w g 5 #[]
  | 3, v, _, _ => v 3 = vy
  | 4, v, T, w => OwnBf w 0 (v 4) Y ∧ ∀ g, (v 4).ownBlock = some g → T g
  | 5, v, T, w => ∃ g, v 5 = .slice (some ⟨g, 0, none⟩) C.size C.size ∧ (∀ k, k = g → T k) ∧ Whole w g 5 C
  | 6, v, T, w => ∃ A c, v 6 = .slice A W.length c ∧ Bytes w T (.slice A W.length c) W
  | 7, v, T, w => ∃ A c, v 7 = .slice A (Y ++ W).length c ∧ Bytes w T (.slice A (Y ++ W).length c) (Y ++ W)
  | 8, v, T, w => ∃ x, v 8 = .tuple #[x, tagv R.2.1, .int .i64 R.2.2] ∧ AlV w (fun g => (g < N ∧ Q g) ∨ T g) x R.1
  | 9, v, _, _ => v 9 = v 8
  | 10, v, _, _ => ∃ t e, v 9 = .tuple #[v 10, t, e]
  | 11, v, _, _ => ∃ x e, v 9 = .tuple #[x, v 11, e]
  | 12, v, _, _ => ∃ x t, v 9 = .tuple #[x, t, v 12]
  | 13, v, T, w => ∃ g, v 13 = .pointer (some ⟨g, 0, none⟩) ∧ (∀ k, k = g → T k) ∧ Whole w g 28 ztr
  | 14, v, T, w => ∃ g c, G = g ∧ v 10 = .agg c ∧ (∀ k, k = g → T k) ∧ Whole w g 32 c
  | 15, v, T, w => ∃ g c, v 13 = .pointer (some ⟨g, 0, none⟩) ∧ v 11 = .agg c ∧ (∀ k, k = g → T k) ∧ Whole w g 28 c
  | 16, v, _, _ => v 16 = v 12
  | _, _, _, _ => True
def LaZ (_ : Nat) : Option Nat := none
def LbZ (G : Nat) : Nat → Option Nat
  | 14 => some G
  | _ => none
theorem LaF_sup (va vk vy : Value) (Y W : List B8) (C : Array Value) (N : Nat) (Q : Nat → Prop) (R : Alg × List B8 × Int) : ∀ i v v' T w, i < 18 → (∀ j, j ∈ LaS i → v j = v' j) → LaF va vk vy Y W C N Q R i v T w → LaF va vk vy Y W C N Q R i v' T w := by
  intro i v v' T w hi h hf
  have e : ∀ j, j ∈ LaS i → v' j = v j := fun j hj => (h j hj).symm
  obtain rfl | rfl | rfl | rfl | rfl | rfl | rfl | rfl | rfl | rfl | rfl | rfl | rfl | rfl | rfl | rfl | rfl | rfl : i = 0 ∨ i = 1 ∨ i = 2 ∨ i = 3 ∨ i = 4 ∨ i = 5 ∨ i = 6 ∨ i = 7 ∨ i = 8 ∨ i = 9 ∨ i = 10 ∨ i = 11 ∨ i = 12 ∨ i = 13 ∨ i = 14 ∨ i = 15 ∨ i = 16 ∨ i = 17 := by have : i < 18 := hi; omega
  · change v 0 = va at hf
    change v' 0 = va
    rw [e 0 (by decide)]
    exact hf
  · change v 1 = vk at hf
    change v' 1 = vk
    rw [e 1 (by decide)]
    exact hf
  · change ∃ g, v 2 = .slice (some ⟨g, 0, none⟩) 0 0 ∧ (∀ k, k = g → T k) ∧ Whole w g 5 #[] at hf
    change ∃ g, v' 2 = .slice (some ⟨g, 0, none⟩) 0 0 ∧ (∀ k, k = g → T k) ∧ Whole w g 5 #[]
    rw [e 2 (by decide)]
    exact hf
  · change v 3 = vy at hf
    change v' 3 = vy
    rw [e 3 (by decide)]
    exact hf
  · change OwnBf w 0 (v 4) Y ∧ ∀ g, (v 4).ownBlock = some g → T g at hf
    change OwnBf w 0 (v' 4) Y ∧ ∀ g, (v' 4).ownBlock = some g → T g
    rw [e 4 (by decide)]
    exact hf
  · change ∃ g, v 5 = .slice (some ⟨g, 0, none⟩) C.size C.size ∧ (∀ k, k = g → T k) ∧ Whole w g 5 C at hf
    change ∃ g, v' 5 = .slice (some ⟨g, 0, none⟩) C.size C.size ∧ (∀ k, k = g → T k) ∧ Whole w g 5 C
    rw [e 5 (by decide)]
    exact hf
  · change ∃ A c, v 6 = .slice A W.length c ∧ Bytes w T (.slice A W.length c) W at hf
    change ∃ A c, v' 6 = .slice A W.length c ∧ Bytes w T (.slice A W.length c) W
    rw [e 6 (by decide)]
    exact hf
  · change ∃ A c, v 7 = .slice A (Y ++ W).length c ∧ Bytes w T (.slice A (Y ++ W).length c) (Y ++ W) at hf
    change ∃ A c, v' 7 = .slice A (Y ++ W).length c ∧ Bytes w T (.slice A (Y ++ W).length c) (Y ++ W)
    rw [e 7 (by decide)]
    exact hf
  · change ∃ x, v 8 = .tuple #[x, tagv R.2.1, .int .i64 R.2.2] ∧ AlV w (fun g => (g < N ∧ Q g) ∨ T g) x R.1 at hf
    change ∃ x, v' 8 = .tuple #[x, tagv R.2.1, .int .i64 R.2.2] ∧ AlV w (fun g => (g < N ∧ Q g) ∨ T g) x R.1
    rw [e 8 (by decide)]
    exact hf
  · change v 9 = v 8 at hf
    change v' 9 = v' 8
    rw [e 9 (by decide), e 8 (by decide)]
    exact hf
  · change ∃ t e, v 9 = .tuple #[v 10, t, e] at hf
    change ∃ t e, v' 9 = .tuple #[v' 10, t, e]
    rw [e 10 (by decide), e 9 (by decide)]
    exact hf
  · change ∃ x e, v 9 = .tuple #[x, v 11, e] at hf
    change ∃ x e, v' 9 = .tuple #[x, v' 11, e]
    rw [e 11 (by decide), e 9 (by decide)]
    exact hf
  · change ∃ x t, v 9 = .tuple #[x, t, v 12] at hf
    change ∃ x t, v' 9 = .tuple #[x, t, v' 12]
    rw [e 12 (by decide), e 9 (by decide)]
    exact hf
  · change ∃ g, v 13 = .pointer (some ⟨g, 0, none⟩) ∧ (∀ k, k = g → T k) ∧ Whole w g 32 zar at hf
    change ∃ g, v' 13 = .pointer (some ⟨g, 0, none⟩) ∧ (∀ k, k = g → T k) ∧ Whole w g 32 zar
    rw [e 13 (by decide)]
    exact hf
  · change ∃ g, v 14 = .pointer (some ⟨g, 0, none⟩) ∧ (∀ k, k = g → T k) ∧ Whole w g 28 ztr at hf
    change ∃ g, v' 14 = .pointer (some ⟨g, 0, none⟩) ∧ (∀ k, k = g → T k) ∧ Whole w g 28 ztr
    rw [e 14 (by decide)]
    exact hf
  · change ∃ g c, v 13 = .pointer (some ⟨g, 0, none⟩) ∧ v 10 = .agg c ∧ (∀ k, k = g → T k) ∧ Whole w g 32 c at hf
    change ∃ g c, v' 13 = .pointer (some ⟨g, 0, none⟩) ∧ v' 10 = .agg c ∧ (∀ k, k = g → T k) ∧ Whole w g 32 c
    rw [e 13 (by decide), e 10 (by decide)]
    exact hf
  · change ∃ g c, v 14 = .pointer (some ⟨g, 0, none⟩) ∧ v 11 = .agg c ∧ (∀ k, k = g → T k) ∧ Whole w g 28 c at hf
    change ∃ g c, v' 14 = .pointer (some ⟨g, 0, none⟩) ∧ v' 11 = .agg c ∧ (∀ k, k = g → T k) ∧ Whole w g 28 c
    rw [e 14 (by decide), e 11 (by decide)]
    exact hf
  · change v 17 = v 12 at hf
    change v' 17 = v' 12
    rw [e 17 (by decide), e 12 (by decide)]
    exact hf
theorem LaF_keep (va vk vy : Value) (Y W : List B8) (C : Array Value) (N : Nat) (Q : Nat → Prop) (R : Alg × List B8 × Int) (hz : ∀ g, Q g → ∀ k, LaZ k ≠ some g) : ∀ i v T w w', i < 18 → LaF va vk vy Y W C N Q R i v T w → w.heap.size ≤ w'.heap.size → (∀ g, g < w.heap.size → ((g < N ∧ ∀ k, LaZ k ≠ some g) ∨ T g) → w'.heap[g]? = w.heap[g]?) → LaF va vk vy Y W C N Q R i v T w' := by
  intro i v T w w' hi hf hs hk
  obtain rfl | rfl | rfl | rfl | rfl | rfl | rfl | rfl | rfl | rfl | rfl | rfl | rfl | rfl | rfl | rfl | rfl | rfl : i = 0 ∨ i = 1 ∨ i = 2 ∨ i = 3 ∨ i = 4 ∨ i = 5 ∨ i = 6 ∨ i = 7 ∨ i = 8 ∨ i = 9 ∨ i = 10 ∨ i = 11 ∨ i = 12 ∨ i = 13 ∨ i = 14 ∨ i = 15 ∨ i = 16 ∨ i = 17 := by have : i < 18 := hi; omega
  · exact hf
  · exact hf
  · obtain ⟨g, h1, h2, h3⟩ := hf
    exact ⟨g, h1, h2, (hk g h3.lt (.inr (h2 g rfl))).trans h3⟩
  · exact hf
  · exact ⟨OwnS.keep hf.1 fun g hg => hk g (World.ownsRow.lt hf.1 g hg).2 (.inr (hf.2 g hg)), hf.2⟩
  · obtain ⟨g, h1, h2, h3⟩ := hf
    exact ⟨g, h1, h2, (hk g h3.lt (.inr (h2 g rfl))).trans h3⟩
  · obtain ⟨A, c, h1, h2⟩ := hf
    exact ⟨A, c, h1, h2.keep fun g hg hq => hk g hg (.inr hq)⟩
  · obtain ⟨A, c, h1, h2⟩ := hf
    exact ⟨A, c, h1, h2.keep fun g hg hq => hk g hg (.inr hq)⟩
  · obtain ⟨x, h1, h2⟩ := hf
    exact ⟨x, h1, h2.keep hs fun g hg hq => hk g hg (hq.imp (fun q => ⟨q.1, hz g q.2⟩) id)⟩
  · exact hf
  · exact hf
  · exact hf
  · exact hf
  · obtain ⟨g, h1, h2, h3⟩ := hf
    exact ⟨g, h1, h2, (hk g h3.lt (.inr (h2 g rfl))).trans h3⟩
  · obtain ⟨g, h1, h2, h3⟩ := hf
    exact ⟨g, h1, h2, (hk g h3.lt (.inr (h2 g rfl))).trans h3⟩
  · obtain ⟨g, c, h0, h1, h2, h3⟩ := hf
    exact ⟨g, c, h0, h1, h2, (hk g h3.lt (.inr (h2 g rfl))).trans h3⟩
  · obtain ⟨g, c, h0, h1, h2, h3⟩ := hf
    exact ⟨g, c, h0, h1, h2, (hk g h3.lt (.inr (h2 g rfl))).trans h3⟩
  · exact hf
theorem LbF_sup (G : Nat) (va vk vy : Value) (Y W : List B8) (C : Array Value) (N : Nat) (Q : Nat → Prop) (R : Alg × List B8 × Int) : ∀ i v v' T w, i < 17 → (∀ j, j ∈ LbS i → v j = v' j) → LbF G va vk vy Y W C N Q R i v T w → LbF G va vk vy Y W C N Q R i v' T w := by
  intro i v v' T w hi h hf
  have e : ∀ j, j ∈ LbS i → v' j = v j := fun j hj => (h j hj).symm
  obtain rfl | rfl | rfl | rfl | rfl | rfl | rfl | rfl | rfl | rfl | rfl | rfl | rfl | rfl | rfl | rfl | rfl : i = 0 ∨ i = 1 ∨ i = 2 ∨ i = 3 ∨ i = 4 ∨ i = 5 ∨ i = 6 ∨ i = 7 ∨ i = 8 ∨ i = 9 ∨ i = 10 ∨ i = 11 ∨ i = 12 ∨ i = 13 ∨ i = 14 ∨ i = 15 ∨ i = 16 := by have : i < 17 := hi; omega
  · change v 0 = va at hf
    change v' 0 = va
    rw [e 0 (by decide)]
    exact hf
  · change v 1 = vk at hf
    change v' 1 = vk
    rw [e 1 (by decide)]
    exact hf
  · change ∃ g, v 2 = .slice (some ⟨g, 0, none⟩) 0 0 ∧ (∀ k, k = g → T k) ∧ Whole w g 5 #[] at hf
    change ∃ g, v' 2 = .slice (some ⟨g, 0, none⟩) 0 0 ∧ (∀ k, k = g → T k) ∧ Whole w g 5 #[]
    rw [e 2 (by decide)]
    exact hf
  · change v 3 = vy at hf
    change v' 3 = vy
    rw [e 3 (by decide)]
    exact hf
  · change OwnBf w 0 (v 4) Y ∧ ∀ g, (v 4).ownBlock = some g → T g at hf
    change OwnBf w 0 (v' 4) Y ∧ ∀ g, (v' 4).ownBlock = some g → T g
    rw [e 4 (by decide)]
    exact hf
  · change ∃ g, v 5 = .slice (some ⟨g, 0, none⟩) C.size C.size ∧ (∀ k, k = g → T k) ∧ Whole w g 5 C at hf
    change ∃ g, v' 5 = .slice (some ⟨g, 0, none⟩) C.size C.size ∧ (∀ k, k = g → T k) ∧ Whole w g 5 C
    rw [e 5 (by decide)]
    exact hf
  · change ∃ A c, v 6 = .slice A W.length c ∧ Bytes w T (.slice A W.length c) W at hf
    change ∃ A c, v' 6 = .slice A W.length c ∧ Bytes w T (.slice A W.length c) W
    rw [e 6 (by decide)]
    exact hf
  · change ∃ A c, v 7 = .slice A (Y ++ W).length c ∧ Bytes w T (.slice A (Y ++ W).length c) (Y ++ W) at hf
    change ∃ A c, v' 7 = .slice A (Y ++ W).length c ∧ Bytes w T (.slice A (Y ++ W).length c) (Y ++ W)
    rw [e 7 (by decide)]
    exact hf
  · change ∃ x, v 8 = .tuple #[x, tagv R.2.1, .int .i64 R.2.2] ∧ AlV w (fun g => (g < N ∧ Q g) ∨ T g) x R.1 at hf
    change ∃ x, v' 8 = .tuple #[x, tagv R.2.1, .int .i64 R.2.2] ∧ AlV w (fun g => (g < N ∧ Q g) ∨ T g) x R.1
    rw [e 8 (by decide)]
    exact hf
  · change v 9 = v 8 at hf
    change v' 9 = v' 8
    rw [e 9 (by decide), e 8 (by decide)]
    exact hf
  · change ∃ t e, v 9 = .tuple #[v 10, t, e] at hf
    change ∃ t e, v' 9 = .tuple #[v' 10, t, e]
    rw [e 10 (by decide), e 9 (by decide)]
    exact hf
  · change ∃ x e, v 9 = .tuple #[x, v 11, e] at hf
    change ∃ x e, v' 9 = .tuple #[x, v' 11, e]
    rw [e 11 (by decide), e 9 (by decide)]
    exact hf
  · change ∃ x t, v 9 = .tuple #[x, t, v 12] at hf
    change ∃ x t, v' 9 = .tuple #[x, t, v' 12]
    rw [e 12 (by decide), e 9 (by decide)]
    exact hf
  · change ∃ g, v 13 = .pointer (some ⟨g, 0, none⟩) ∧ (∀ k, k = g → T k) ∧ Whole w g 28 ztr at hf
    change ∃ g, v' 13 = .pointer (some ⟨g, 0, none⟩) ∧ (∀ k, k = g → T k) ∧ Whole w g 28 ztr
    rw [e 13 (by decide)]
    exact hf
  · change ∃ g c, G = g ∧ v 10 = .agg c ∧ (∀ k, k = g → T k) ∧ Whole w g 32 c at hf
    change ∃ g c, G = g ∧ v' 10 = .agg c ∧ (∀ k, k = g → T k) ∧ Whole w g 32 c
    rw [e 10 (by decide)]
    exact hf
  · change ∃ g c, v 13 = .pointer (some ⟨g, 0, none⟩) ∧ v 11 = .agg c ∧ (∀ k, k = g → T k) ∧ Whole w g 28 c at hf
    change ∃ g c, v' 13 = .pointer (some ⟨g, 0, none⟩) ∧ v' 11 = .agg c ∧ (∀ k, k = g → T k) ∧ Whole w g 28 c
    rw [e 13 (by decide), e 11 (by decide)]
    exact hf
  · change v 16 = v 12 at hf
    change v' 16 = v' 12
    rw [e 16 (by decide), e 12 (by decide)]
    exact hf
theorem LbF_keep (G : Nat) (va vk vy : Value) (Y W : List B8) (C : Array Value) (N : Nat) (Q : Nat → Prop) (R : Alg × List B8 × Int) (hz : ∀ g, Q g → ∀ k, LbZ G k ≠ some g) : ∀ i v T w w', i < 17 → LbF G va vk vy Y W C N Q R i v T w → w.heap.size ≤ w'.heap.size → (∀ g, g < w.heap.size → ((g < N ∧ ∀ k, LbZ G k ≠ some g) ∨ T g) → w'.heap[g]? = w.heap[g]?) → LbF G va vk vy Y W C N Q R i v T w' := by
  intro i v T w w' hi hf hs hk
  obtain rfl | rfl | rfl | rfl | rfl | rfl | rfl | rfl | rfl | rfl | rfl | rfl | rfl | rfl | rfl | rfl | rfl : i = 0 ∨ i = 1 ∨ i = 2 ∨ i = 3 ∨ i = 4 ∨ i = 5 ∨ i = 6 ∨ i = 7 ∨ i = 8 ∨ i = 9 ∨ i = 10 ∨ i = 11 ∨ i = 12 ∨ i = 13 ∨ i = 14 ∨ i = 15 ∨ i = 16 := by have : i < 17 := hi; omega
  · exact hf
  · exact hf
  · obtain ⟨g, h1, h2, h3⟩ := hf
    exact ⟨g, h1, h2, (hk g h3.lt (.inr (h2 g rfl))).trans h3⟩
  · exact hf
  · exact ⟨OwnS.keep hf.1 fun g hg => hk g (World.ownsRow.lt hf.1 g hg).2 (.inr (hf.2 g hg)), hf.2⟩
  · obtain ⟨g, h1, h2, h3⟩ := hf
    exact ⟨g, h1, h2, (hk g h3.lt (.inr (h2 g rfl))).trans h3⟩
  · obtain ⟨A, c, h1, h2⟩ := hf
    exact ⟨A, c, h1, h2.keep fun g hg hq => hk g hg (.inr hq)⟩
  · obtain ⟨A, c, h1, h2⟩ := hf
    exact ⟨A, c, h1, h2.keep fun g hg hq => hk g hg (.inr hq)⟩
  · obtain ⟨x, h1, h2⟩ := hf
    exact ⟨x, h1, h2.keep hs fun g hg hq => hk g hg (hq.imp (fun q => ⟨q.1, hz g q.2⟩) id)⟩
  · exact hf
  · exact hf
  · exact hf
  · exact hf
  · obtain ⟨g, h1, h2, h3⟩ := hf
    exact ⟨g, h1, h2, (hk g h3.lt (.inr (h2 g rfl))).trans h3⟩
  · obtain ⟨g, c, h0, h1, h2, h3⟩ := hf
    exact ⟨g, c, h0, h1, h2, (hk g h3.lt (.inr (h2 g rfl))).trans h3⟩
  · obtain ⟨g, c, h0, h1, h2, h3⟩ := hf
    exact ⟨g, c, h0, h1, h2, (hk g h3.lt (.inr (h2 g rfl))).trans h3⟩
  · exact hf
/-- The mark of a constant's row. -/
def mkP (W : World) (G : Nat) (o : Obj) : World := { W with heap := W.heap.setIfInBounds G o }
def mkd (G : Nat) (C : Array Value) (W : World) : World := mkP W G (.cells C 5 (C.size, C.size + 1))
theorem conv_mk (W : World) (G : Nat) (C : Array Value) (n c : Nat) (h : Whole W G 5 C) : (convert 23 23 (.slice (some ⟨G, 0, none⟩) n c)).run Tryd.prog W = .ok (.slice (some ⟨G, 0, none⟩) n c) (mkd G C W) := by
  have hh : W.heap[G]? = some (.cells C 5) := h
  have hsh : W.shape? G = some (5, C.size) := by
    unfold World.shape?
    rw [hh]
  have hfr : ∀ (k : Nat), W.freeze ⟨G, k, none⟩ 1 = mkP W G (.cells C 5 (k, k + 1)) := fun k => by
    unfold World.freeze mkP
    rw [if_neg (by decide)]
    have hlt := (Array.getElem?_eq_some_iff.1 hh).1
    have he := (Array.getElem?_eq_some_iff.1 hh).2
    show ({ W with heap := W.heap.modify G _ } : World) = _
    congr 1
    apply Array.ext
    · simp
    · intro i h1 h2
      simp only [Array.getElem_modify]
      by_cases hi : G = i
      · subst hi
        simp [he]
      · rw [if_neg hi, Array.getElem_setIfInBounds_ne _ hi]
  simp [convert, run_underlying Tryd.underlying23, run_underlying Tryd.underlying5, markStringish, hsh]
  exact hfr _
theorem mkd_other {G g : Nat} {C : Array Value} {W : World} (h : g ≠ G) : (mkd G C W).heap[g]? = W.heap[g]? := by
  show (W.heap.setIfInBounds G _)[g]? = _
  rw [Array.getElem?_setIfInBounds_ne (Ne.symm h)]
theorem mkd_size {G : Nat} {C : Array Value} {W : World} : (mkd G C W).heap.size = W.heap.size := by
  show (W.heap.setIfInBounds G _).size = _
  simp
theorem mkd_below {G : Nat} {C : Array Value} {W : World} : Below 0 W (mkd G C W) := ⟨rfl, rfl, rfl, by rw [mkd_size]; exact Nat.le_refl _, fun k hk => by omega⟩
theorem mkd_bytes {G : Nat} {C : Array Value} {W : World} {l : List B8} (h : G < W.heap.size) (hC : C = (l.map byt).toArray) (hl : l.length ≤ 1000) : Bytes (mkd G C W) (fun k => k = G) (.slice (some ⟨G, 0, none⟩) l.length l.length) l := by
  refine ⟨_, _, rfl, Nat.le_refl _, by unfold maxLen; omega, fun q => (by cases q), fun _ => ⟨G, 0, rfl, rfl, fun j x hj => ?_⟩⟩
  have hh : (mkd G C W).heap[G]? = some (.cells C 5 (C.size, C.size + 1)) := by
    show (W.heap.setIfInBounds G _)[G]? = _
    rw [Array.getElem?_setIfInBounds_self, if_pos h]
  unfold World.cell?
  rw [hh]
  simp only [Nat.zero_add]
  rw [hC, List.getElem?_toArray, List.getElem?_map, hj]
  rfl
theorem algZero : (Tryd.prog.info? 32).bind (·.zero) = some (.agg zar) := by rw [← zar_lit]; kernel_rfl
theorem tagZero : (Tryd.prog.info? 28).bind (·.zero) = some (.agg ztr) := by rw [← ztr_lit]; kernel_rfl
end Go.Proofs.YtiikhjifjdpgdaaDoor
namespace Go.Proofs.YtiikhjifjdpgdaaDoor
open Go Go.RowKit Sh Leaf

def latw : List B8 := [108#8, 97#8, 116#8, 101#8, 114#8]
def latc : Array Value := #[.int .u8 108, .int .u8 97, .int .u8 116, .int .u8 101, .int .u8 114]
def stiw : List B8 := [115#8, 116#8, 105#8, 108#8, 108#8, 32#8, 108#8, 97#8, 116#8, 101#8, 114#8]
def stic : Array Value := #[.int .u8 115, .int .u8 116, .int .u8 105, .int .u8 108, .int .u8 108, .int .u8 32, .int .u8 108, .int .u8 97, .int .u8 116, .int .u8 101, .int .u8 114]
theorem latc_eq : latc = (latw.map byt).toArray := by unfold latc latw; simp only [List.map_cons, List.map_nil, byt, bv_lit 108 (by omega), bv_lit 97 (by omega), bv_lit 116 (by omega), bv_lit 101 (by omega), bv_lit 114 (by omega)]; rfl
theorem stic_eq : stic = (stiw.map byt).toArray := by unfold stic stiw; simp only [List.map_cons, List.map_nil, byt, bv_lit 115 (by omega), bv_lit 116 (by omega), bv_lit 105 (by omega), bv_lit 108 (by omega), bv_lit 32 (by omega), bv_lit 97 (by omega), bv_lit 101 (by omega), bv_lit 114 (by omega)]; rfl
theorem mac_more {a : Alg} {K m : List B8} (hm : m.length ≤ 4096) (ha : a.macs.length < 1000) : a.macs.length ≤ (aMac a K m).1.macs.length := by
  unfold aMac
  rw [if_neg (by omega)]
  split
  · exact Nat.le_refl _
  rw [if_neg (by omega)]
  simp
theorem LaZ_no (k g : Nat) : LaZ k ≠ some g := fun h => by unfold LaZ at h; cases h
theorem LbZ_is {G k g : Nat} (h : LbZ G k = some g) : k = 14 ∧ g = G := by
  unfold LbZ at h
  split at h
  · injection h with h; exact ⟨rfl, h.symm⟩
  · cases h
set_option linter.unusedSimpArgs false in
set_option linter.unusedVariables false in
set_option maxRecDepth 100000 in
set_option maxHeartbeats 8000000 in
theorem astays_law (A0 : Option Addr) (l0 : List Int) (c0 : Nat) {Q1 : Nat → Prop} (A1 : Option Addr) (x : List B8) (c1 : Nat) {Q2 : Nat → Prop} (A2 : Option Addr) (y : List B8) (c2 : Nat) (w : World) (hT : Tables w) (hI0 : Ints w (fun b => b < w.heap.size) A0 c0 l0) (hB1 : Bytes w Q1 (.slice A1 x.length c1) x) (hB2 : Bytes w Q2 (.slice A2 y.length c2) y) :
    Calls Tryd.prog 3 #[.slice A0 l0.length c0, .slice A1 x.length c1, .slice A2 y.length c2] w fun e w' => e = .returned (.bool true) ∧ Below w.heap.size w w' := by
  have HT := Lib.hid hT
  clear hT
  have H1 : Hid (Below w.heap.size w w) := Lib.hid (Below.refl _ _)
  obtain ⟨n0, hn0⟩ : ∃ n, n = l0.length := ⟨_, rfl⟩
  rw [← hn0]
  have HI0 := Lib.hid hI0
  have HN0 := Lib.hid hn0
  clear hI0 hn0
  have H2 : Hid (Bytes w (Off []) (.slice A1 x.length c1) x) := Lib.hid (hB1.mono fun _ _ _ => by intro y hy; cases hy)
  clear hB1
  have H3 : Hid (Bytes w (Off []) (.slice A2 y.length c2) y) := Lib.hid (hB2.mono fun _ _ _ => by intro y hy; cases hy)
  clear hB2
  go_enter Tryd.func3, Tryd.ntmps3
  have hcl := ashort H2.out
  go_wp2_with fail
  refine hcl.mono ?_
  rintro e w1 ⟨⟨X, rfl, hqX, hbx⟩, hww⟩
  clear hcl
  replace hww := hww.symm
  subst hww
  clear H2
  have H4 : Hid (Bytes w (Off []) (.slice A1 X.length c1) X) := Lib.hid (hbx)
  clear hbx
  have hcl := ashort H3.out
  go_wp2_with fail
  refine hcl.mono ?_
  rintro e w1 ⟨⟨Y, rfl, hqY, hbx⟩, hww⟩
  clear hcl
  replace hww := hww.symm
  subst hww
  clear H3
  have H5 : Hid (Bytes w (Off []) (.slice A2 Y.length c2) Y) := Lib.hid (hbx)
  clear hbx
  have hcl := dnew A0 _ c0 l0 w HN0.out ((HI0.out.below H1.out).mono (Below.size H1.out))
  go_wp2_with fail
  refine hcl.mono ?_
  rintro e d0 ⟨rfl, hdk, hbu⟩
  clear hcl
  have hsd0 : w.heap.size < d0.heap.size := hdk.lt
  have H6 : Hid (Bytes w (Off [w.heap.size]) (.slice A1 X.length c1) X) := Lib.hid (Bytes.grow H4.out (by omega))
  have H7 : Hid (Bytes w (Off [w.heap.size]) (.slice A2 Y.length c2) Y) := Lib.hid (Bytes.grow H5.out (by omega))
  clear H4 H5
  have H8 : Hid (Below w.heap.size w d0) := Lib.hid ((Below.trans H1.out (Below.mono hbu (Below.size H1.out))))
  have H9 : Hid (Bytes d0 (Off [w.heap.size]) (.slice A1 X.length c1) X) := Lib.hid ((Bytes.below H6.out hbu (Nat.le_refl _)))
  have H10 : Hid (Bytes d0 (Off [w.heap.size]) (.slice A2 Y.length c2) Y) := Lib.hid ((Bytes.below H7.out hbu (Nat.le_refl _)))
  clear H1 H6 H7
  have H11 : Hid (Deck w.heap.size d0) := Lib.hid (hdk)
  clear hdk hbu HI0 HN0
  have hcl := dalg w.heap.size d0 H11.out
  go_wp2_with fail
  refine hcl.mono ?_
  rintro e u1 ⟨⟨v, a, rfl, hv, h4a, hb4a, hf4a, hgd⟩, ht⟩
  clear hcl
  have HGa := Lib.hid hgd
  obtain ⟨Ama, cma, Aba, cba, rfl, hM, hBx, hA⟩ := hv
  have hsla : a.seed.length = 32 := hA.seed
  have hfra : 0 ≤ a.fresh := hA.lo
  have hsu1 : d0.heap.size ≤ u1.heap.size := Turn.size ht
  have H12 : Hid (Below w.heap.size w u1) := Lib.hid ((base_turn H8.out ht (by omega)))
  have H13 : Hid (Bytes u1 (Off [w.heap.size]) (.slice A1 X.length c1) X) := Lib.hid ((Bytes.turn H9.out ht (by simp)))
  have H14 : Hid (Bytes u1 (Off [w.heap.size]) (.slice A2 Y.length c2) Y) := Lib.hid ((Bytes.turn H10.out ht (by simp)))
  have H15 : Hid (Deck w.heap.size u1) := Lib.hid ((ht).1)
  clear H8 H9 H10 H11
  have H16 : Hid (AlV u1 (Off [w.heap.size]) (.agg (alc a.free a.seed a.fresh (.slice Ama a.macs.length cma) (.slice Aba a.boxes.length cba))) a) := Lib.hid (AlV.mono (Q' := _) ⟨Ama, cma, Aba, cba, rfl, hM, hBx, hA⟩ (fun _ _ h => off_one h))
  clear hM hBx hA ht hgd
  have ks0 : ∀ z0 : Array Value, Whole (u1.alloc (.cells z0 32)) u1.heap.size 32 z0 := fun _ => (Whole.here _ _ _)
  go_upto_region 4 with (with_reducible refine wpList_store_alg rfl _ _ rfl (g := u1.heap.size) rfl rfl (ks0 _) rfl (alc_size _ _ _ _ _) (alc_one _ _ _ _ _ _ _ _ _) ?_)
  clear ks0
  rw [zar_lit]
  obtain ⟨q2, hq⟩ : ∃ q, q = ((u1.alloc (.cells zar 32)).setRow u1.heap.size (alc a.free a.seed a.fresh (.slice Ama a.macs.length cma) (.slice Aba a.boxes.length cba))) := ⟨_, rfl⟩
  rw [← hq]
  have hsq2 : u1.heap.size + 1 ≤ q2.heap.size := by rw [hq]; simp
  have H17 : Hid (Below w.heap.size w q2) := Lib.hid (by rw [hq]; exact (below_setRow (Below.trans H12.out (Below.mono (Below.alloc (Below.refl _ _) (Nat.le_refl _) _) (Below.size H12.out))) (by omega) _))
  have H18 : Hid (Bytes q2 (Off [u1.heap.size, w.heap.size]) (.slice A1 X.length c1) X) := Lib.hid (by rw [hq]; exact (Bytes.store (Bytes.below (Bytes.grow H13.out (by omega)) (Below.alloc (Below.refl _ _) (Nat.le_refl _) _) (Nat.le_refl _)) (by simp) _))
  have H19 : Hid (Bytes q2 (Off [u1.heap.size, w.heap.size]) (.slice A2 Y.length c2) Y) := Lib.hid (by rw [hq]; exact (Bytes.store (Bytes.below (Bytes.grow H14.out (by omega)) (Below.alloc (Below.refl _ _) (Nat.le_refl _) _) (Nat.le_refl _)) (by simp) _))
  have H20 : Hid (Deck w.heap.size q2) := Lib.hid (by rw [hq]; exact (Deck.store (Deck.below H15.out (Below.alloc (Below.refl _ _) (Nat.le_refl _) _) (Deck.lt H15.out)) (by omega) _))
  have H21 : Hid (AlV q2 (Off [u1.heap.size, w.heap.size]) (.agg (alc a.free a.seed a.fresh (.slice Ama a.macs.length cma) (.slice Aba a.boxes.length cba))) a) := Lib.hid (by rw [hq]; exact (AlV.store (AlV.below (AlV.grow H16.out (by omega)) (Below.alloc (Below.refl _ _) (Nat.le_refl _) _) (Nat.le_refl _)) (by simp) _))
  clear H12 H13 H14 H15 H16
  have H22 : Hid (ALRow q2 u1.heap.size a.free a.seed a.fresh (.slice Ama a.macs.length cma) (.slice Aba a.boxes.length cba)) := Lib.hid (by rw [hq]; exact (Whole.setRow (Whole.here _ _ _) _))
  clear hq
  have hcl := dknown w.heap.size q2 H20.out H21.out (fun b h => h _ (by simp))
  go_wp2_with (with_reducible refine wpList_load_alg rfl _ rfl rfl H22.out (alc_size _ _ _ _ _) ?_)
  refine hcl.mono ?_
  rintro e u3 ⟨⟨K, hlK, rfl⟩, ht⟩
  clear hcl
  have hsu3 : q2.heap.size ≤ u3.heap.size := Turn.size ht
  have H23 : Hid (Below w.heap.size w u3) := Lib.hid ((base_turn H17.out ht (by omega)))
  have H24 : Hid (Bytes u3 (Off [u1.heap.size, w.heap.size]) (.slice A1 X.length c1) X) := Lib.hid ((Bytes.turn H18.out ht (by simp)))
  have H25 : Hid (Bytes u3 (Off [u1.heap.size, w.heap.size]) (.slice A2 Y.length c2) Y) := Lib.hid ((Bytes.turn H19.out ht (by simp)))
  have H26 : Hid (Deck w.heap.size u3) := Lib.hid ((ht).1)
  have H27 : Hid (AlV u3 (Off [u1.heap.size, w.heap.size]) (.agg (alc a.free a.seed a.fresh (.slice Ama a.macs.length cma) (.slice Aba a.boxes.length cba))) a) := Lib.hid ((AlV.turn H21.out ht (by simp) (Turn.size ht)))
  have H28 : Hid (ALRow u3 u1.heap.size a.free a.seed a.fresh (.slice Ama a.macs.length cma) (.slice Aba a.boxes.length cba)) := Lib.hid (((ht).2.2.oth _ _ _ (by omega) H22.out))
  clear H17 H18 H19 H20 H21 H22
  clear ht
  have ks0 : ∀ z0 : Array Value, Whole (u3.alloc (.cells z0 28)) u3.heap.size 28 z0 := fun _ => (Whole.here _ _ _)
  go_upto_region 5 with (with_reducible refine wpList_store_tag rfl _ _ rfl (g := u3.heap.size) rfl rfl (ks0 _) rfl (tag_size hlK) (tag_one _) ?_)
  clear ks0
  rw [ztr_lit]
  obtain ⟨q4, hq⟩ : ∃ q, q = ((u3.alloc (.cells ztr 28)).setRow u3.heap.size (K.map byt).toArray) := ⟨_, rfl⟩
  rw [← hq]
  have hsq4 : u3.heap.size + 1 ≤ q4.heap.size := by rw [hq]; simp
  have H29 : Hid (Below w.heap.size w q4) := Lib.hid (by rw [hq]; exact (below_setRow (Below.trans H23.out (Below.mono (Below.alloc (Below.refl _ _) (Nat.le_refl _) _) (Below.size H23.out))) (by omega) _))
  have H30 : Hid (Bytes q4 (Off [u3.heap.size, u1.heap.size, w.heap.size]) (.slice A1 X.length c1) X) := Lib.hid (by rw [hq]; exact (Bytes.store (Bytes.below (Bytes.grow H24.out (by omega)) (Below.alloc (Below.refl _ _) (Nat.le_refl _) _) (Nat.le_refl _)) (by simp) _))
  have H31 : Hid (Bytes q4 (Off [u3.heap.size, u1.heap.size, w.heap.size]) (.slice A2 Y.length c2) Y) := Lib.hid (by rw [hq]; exact (Bytes.store (Bytes.below (Bytes.grow H25.out (by omega)) (Below.alloc (Below.refl _ _) (Nat.le_refl _) _) (Nat.le_refl _)) (by simp) _))
  have H32 : Hid (Deck w.heap.size q4) := Lib.hid (by rw [hq]; exact (Deck.store (Deck.below H26.out (Below.alloc (Below.refl _ _) (Nat.le_refl _) _) (Deck.lt H26.out)) (by omega) _))
  have H33 : Hid (AlV q4 (Off [u3.heap.size, u1.heap.size, w.heap.size]) (.agg (alc a.free a.seed a.fresh (.slice Ama a.macs.length cma) (.slice Aba a.boxes.length cba))) a) := Lib.hid (by rw [hq]; exact (AlV.store (AlV.below (AlV.grow H27.out (by omega)) (Below.alloc (Below.refl _ _) (Nat.le_refl _) _) (Nat.le_refl _)) (by simp) _))
  have H34 : Hid (ALRow q4 u1.heap.size a.free a.seed a.fresh (.slice Ama a.macs.length cma) (.slice Aba a.boxes.length cba)) := Lib.hid (by rw [hq]; exact (Whole.setRow_far (Whole.below H28.out (Below.alloc (Below.refl _ _) (Nat.le_refl _) _) (Whole.lt H28.out)) (by omega) _))
  clear H23 H24 H25 H26 H27 H28
  have H35 : Hid (TGRow q4 u3.heap.size K) := Lib.hid (by rw [hq]; exact (Whole.setRow (Whole.here _ _ _) _))
  clear hq
  have hcl := pmac (m := X) H33.out (by omega) hlK H30.out (by omega) (Tables.below HT.out (Nat.le_refl _) H29.out)
  obtain ⟨R, hR⟩ : ∃ R, R = aMac a K X := ⟨_, rfl⟩
  have hlT : R.2.1.length = 32 := by rw [hR]; exact AlV.mac_len H33.out _ _
  rw [← hR] at hcl
  obtain ⟨b, T, eT⟩ := R
  have HEb := Lib.hid hR
  clear hR
  dsimp only [AlgR] at hcl hlT
  go_wp2_with (first
    | (with_reducible refine wpList_load_alg rfl _ rfl rfl H34.out (alc_size _ _ _ _ _) ?_)
    | (with_reducible refine wpList_load_tag rfl _ rfl rfl H35.out (tag_size hlK) ?_))
  refine hcl.mono ?_
  rintro e u5 ⟨⟨x, rfl, hx⟩, hbu⟩
  clear hcl
  obtain ⟨Amb, cmb, Abb, cbb, rfl, hM, hBx, hA⟩ := hx
  have hsu5 : q4.heap.size ≤ u5.heap.size := hbu.size
  have hlast : ∀ y ∈ ([u3.heap.size, u1.heap.size, w.heap.size] : List Nat), y < q4.heap.size := by intro y hy; simp at hy; have := (Whole.lt H35.out); omega
  have H36 : Hid (Below w.heap.size w u5) := Lib.hid ((Below.trans H29.out (Below.mono hbu (Below.size H29.out))))
  have H37 : Hid (Bytes u5 (Off [u3.heap.size, u1.heap.size, w.heap.size]) (.slice A1 X.length c1) X) := Lib.hid ((Bytes.below H30.out hbu (Nat.le_refl _)))
  have H38 : Hid (Bytes u5 (Off [u3.heap.size, u1.heap.size, w.heap.size]) (.slice A2 Y.length c2) Y) := Lib.hid ((Bytes.below H31.out hbu (Nat.le_refl _)))
  have H39 : Hid (Deck w.heap.size u5) := Lib.hid ((Deck.below H32.out hbu (Deck.lt H32.out)))
  have H40 : Hid (AlV u5 (Off [u3.heap.size, u1.heap.size, w.heap.size]) (.agg (alc a.free a.seed a.fresh (.slice Ama a.macs.length cma) (.slice Aba a.boxes.length cba))) a) := Lib.hid ((AlV.below H33.out hbu (Nat.le_refl _)))
  have H41 : Hid (ALRow u5 u1.heap.size a.free a.seed a.fresh (.slice Ama a.macs.length cma) (.slice Aba a.boxes.length cba)) := Lib.hid ((Whole.below H34.out hbu (Whole.lt H34.out)))
  have H42 : Hid (TGRow u5 u3.heap.size K) := Lib.hid ((Whole.below H35.out hbu (Whole.lt H35.out)))
  clear H29 H30 H31 H32 H33 H34 H35
  have H43 : Hid (AlV u5 (Off [u3.heap.size, u1.heap.size, w.heap.size]) (.agg (alc b.free b.seed b.fresh (.slice Amb b.macs.length cmb) (.slice Abb b.boxes.length cbb))) b) := Lib.hid (AlV.fresh ⟨Amb, cmb, Abb, cbb, rfl, hM, hBx, hA⟩ hlast)
  clear hM hBx hA hbu hlast
  have hnb : b.macs.length ≤ a.macs.length + 1 := by have := mac_le a K X; rw [← HEb.out] at this; exact this
  have ks0 : ∀ z0 z1 : Array Value, Whole ((u5.alloc (.cells z0 32)).alloc (.cells z1 28)) u5.heap.size 32 z0 := fun _ _ => (Whole.alloc (Whole.here _ _ _) _)
  have ks1 : ∀ z0 z1 : Array Value, Whole (((u5.alloc (.cells z0 32)).alloc (.cells z1 28)).setRow u5.heap.size (alc b.free b.seed b.fresh (.slice Amb b.macs.length cmb) (.slice Abb b.boxes.length cbb))) (u5.heap.size + 1) 28 z1 := fun _ _ => (Whole.setRow_far (Whole.at_ _ _ _ _ (by simp)) (by omega) _)
  go_upto_region 6 with (first
    | (with_reducible refine wpList_store_alg rfl _ _ rfl (g := u5.heap.size) rfl rfl (ks0 _ _) rfl (alc_size _ _ _ _ _) (alc_one _ _ _ _ _ _ _ _ _) ?_)
    | (with_reducible refine wpList_store_tag rfl _ _ rfl (g := (u5.heap.size + 1)) rfl rfl (ks1 _ _) rfl (tag_size hlT) (tag_one _) ?_))
  clear ks0 ks1
  rw [ztr_lit]
  rw [zar_lit]
  obtain ⟨q6, hq⟩ : ∃ q, q = ((((u5.alloc (.cells zar 32)).alloc (.cells ztr 28)).setRow u5.heap.size (alc b.free b.seed b.fresh (.slice Amb b.macs.length cmb) (.slice Abb b.boxes.length cbb))).setRow (u5.heap.size + 1) (T.map byt).toArray) := ⟨_, rfl⟩
  rw [← hq]
  have hsq6 : u5.heap.size + 2 ≤ q6.heap.size := by rw [hq]; simp
  have H44 : Hid (Below w.heap.size w q6) := Lib.hid (by rw [hq]; exact (below_setRow (below_setRow (Below.trans H36.out (Below.mono (Below.alloc (Below.alloc (Below.refl _ _) (Nat.le_refl _) _) (by simp) _) (Below.size H36.out))) (by omega) _) (by omega) _))
  have H45 : Hid (Bytes q6 (Off [(u5.heap.size + 1), u5.heap.size, u3.heap.size, u1.heap.size, w.heap.size]) (.slice A1 X.length c1) X) := Lib.hid (by rw [hq]; exact (Bytes.store (Bytes.store (Bytes.below (Bytes.grow (Bytes.grow H37.out (by omega)) (by omega)) (Below.alloc (Below.alloc (Below.refl _ _) (Nat.le_refl _) _) (by simp) _) (Nat.le_refl _)) (by simp) _) (by simp) _))
  have H46 : Hid (Bytes q6 (Off [(u5.heap.size + 1), u5.heap.size, u3.heap.size, u1.heap.size, w.heap.size]) (.slice A2 Y.length c2) Y) := Lib.hid (by rw [hq]; exact (Bytes.store (Bytes.store (Bytes.below (Bytes.grow (Bytes.grow H38.out (by omega)) (by omega)) (Below.alloc (Below.alloc (Below.refl _ _) (Nat.le_refl _) _) (by simp) _) (Nat.le_refl _)) (by simp) _) (by simp) _))
  have H47 : Hid (Deck w.heap.size q6) := Lib.hid (by rw [hq]; exact (Deck.store (Deck.store (Deck.below H39.out (Below.alloc (Below.alloc (Below.refl _ _) (Nat.le_refl _) _) (by simp) _) (Deck.lt H39.out)) (by omega) _) (by omega) _))
  have H48 : Hid (AlV q6 (Off [(u5.heap.size + 1), u5.heap.size, u3.heap.size, u1.heap.size, w.heap.size]) (.agg (alc a.free a.seed a.fresh (.slice Ama a.macs.length cma) (.slice Aba a.boxes.length cba))) a) := Lib.hid (by rw [hq]; exact (AlV.store (AlV.store (AlV.below (AlV.grow (AlV.grow H40.out (by omega)) (by omega)) (Below.alloc (Below.alloc (Below.refl _ _) (Nat.le_refl _) _) (by simp) _) (Nat.le_refl _)) (by simp) _) (by simp) _))
  have H49 : Hid (ALRow q6 u1.heap.size a.free a.seed a.fresh (.slice Ama a.macs.length cma) (.slice Aba a.boxes.length cba)) := Lib.hid (by rw [hq]; exact (Whole.setRow_far (Whole.setRow_far (Whole.below H41.out (Below.alloc (Below.alloc (Below.refl _ _) (Nat.le_refl _) _) (by simp) _) (Whole.lt H41.out)) (by omega) _) (by omega) _))
  have H50 : Hid (TGRow q6 u3.heap.size K) := Lib.hid (by rw [hq]; exact (Whole.setRow_far (Whole.setRow_far (Whole.below H42.out (Below.alloc (Below.alloc (Below.refl _ _) (Nat.le_refl _) _) (by simp) _) (Whole.lt H42.out)) (by omega) _) (by omega) _))
  have H51 : Hid (AlV q6 (Off [(u5.heap.size + 1), u5.heap.size, u3.heap.size, u1.heap.size, w.heap.size]) (.agg (alc b.free b.seed b.fresh (.slice Amb b.macs.length cmb) (.slice Abb b.boxes.length cbb))) b) := Lib.hid (by rw [hq]; exact (AlV.store (AlV.store (AlV.below (AlV.grow (AlV.grow H43.out (by omega)) (by omega)) (Below.alloc (Below.alloc (Below.refl _ _) (Nat.le_refl _) _) (by simp) _) (Nat.le_refl _)) (by simp) _) (by simp) _))
  clear H36 H37 H38 H39 H40 H41 H42 H43
  have H52 : Hid (ALRow q6 u5.heap.size b.free b.seed b.fresh (.slice Amb b.macs.length cmb) (.slice Abb b.boxes.length cbb)) := Lib.hid (by rw [hq]; exact (Whole.setRow_far (Whole.setRow (Whole.alloc (Whole.here _ _ _) _) _) (by omega) _))
  have H53 : Hid (TGRow q6 (u5.heap.size + 1) T) := Lib.hid (by rw [hq]; exact (Whole.setRow (Whole.setRow_far (Whole.at_ _ _ _ _ (by simp)) (by omega) _) _))
  clear hq
  obtain ⟨R, hR⟩ : ∃ R, R = aMac a K (Y ++ latw) := ⟨_, rfl⟩
  have hlV : R.2.1.length = 32 := by rw [hR]; exact AlV.mac_len H48.out _ _
  have hnc : R.1.macs.length ≤ a.macs.length + 1 := by rw [hR]; exact mac_le a K (Y ++ latw)
  have hYl : (Y ++ latw).length ≤ 300 := by rw [List.length_append]; have : latw.length = 5 := rfl; omega
  obtain ⟨c, V, ec⟩ := R
  have HEc := Lib.hid hR
  clear hR
  dsimp only at hlV hnc
  have hqz : ∀ g, (Off [(u5.heap.size + 1), u5.heap.size, u3.heap.size, u1.heap.size, w.heap.size]) g → ∀ k, LaZ k ≠ some g := fun _ _ k => LaZ_no k _
  have hsr := fun i v v' T x hi h => LaF_sup (.agg (alc a.free a.seed a.fresh (.slice Ama a.macs.length cma) (.slice Aba a.boxes.length cba))) (.agg (K.map byt).toArray) (.slice A2 Y.length c2) Y latw latc q6.heap.size (Off [(u5.heap.size + 1), u5.heap.size, u3.heap.size, u1.heap.size, w.heap.size]) (c, V, ec) i v v' T x hi h
  have hkr := fun i v T x x' hi hf hs hk => LaF_keep (.agg (alc a.free a.seed a.fresh (.slice Ama a.macs.length cma) (.slice Aba a.boxes.length cba))) (.agg (K.map byt).toArray) (.slice A2 Y.length c2) Y latw latc q6.heap.size (Off [(u5.heap.size + 1), u5.heap.size, u3.heap.size, u1.heap.size, w.heap.size]) (c, V, ec) hqz i v T x x' hi hf hs hk
  refine wp_region_puts (w0 := q6) (by kernel_rfl) (LaF (.agg (alc a.free a.seed a.fresh (.slice Ama a.macs.length cma) (.slice Aba a.boxes.length cba))) (.agg (K.map byt).toArray) (.slice A2 Y.length c2) Y latw latc q6.heap.size (Off [(u5.heap.size + 1), u5.heap.size, u3.heap.size, u1.heap.size, w.heap.size]) (c, V, ec)) LaB LaZ LaS (by kernel_rfl) (by kernel_rfl) (fun _ _ _ h => absurd h (LaZ_no _ _)) (fun _ _ h => absurd h (LaZ_no _ _)) (fun _ _ _ => rfl) (by kernel_rfl) hsr hkr ?_ ?_
  · clear hsr hkr
    intro l v TT W0 i hi hdep hun hS A KK hE hE0 hK
    obtain rfl | rfl | rfl | rfl | rfl | rfl | rfl | rfl | rfl | rfl | rfl | rfl | rfl | rfl | rfl | rfl | rfl | rfl : i = 0 ∨ i = 1 ∨ i = 2 ∨ i = 3 ∨ i = 4 ∨ i = 5 ∨ i = 6 ∨ i = 7 ∨ i = 8 ∨ i = 9 ∨ i = 10 ∨ i = 11 ∨ i = 12 ∨ i = 13 ∨ i = 14 ∨ i = 15 ∨ i = 16 ∨ i = 17 := by have : i < 18 := hi; omega
    · have hold : ∀ g, g < q6.heap.size → True → W0.heap[g]? = q6.heap[g]? := fun g hg hz => hS.old g hg fun k _ h => LaZ_no _ _ h
      have hr : ALRow W0 u1.heap.size a.free a.seed a.fresh (.slice Ama a.macs.length cma) (.slice Aba a.boxes.length cba) := (hold _ H49.out.lt trivial).trans H49.out
      refine wpOp_row rfl rfl rfl (b := u1.heap.size) (f := 0) ((hE0 8 (by kernel_rfl)).trans rfl) (Whole.range hr) Tryd.underlying32 rfl (by rw [algSize, alcl_length]) (hK _ _ W0 (Gives.read rfl))
    · have hold : ∀ g, g < q6.heap.size → True → W0.heap[g]? = q6.heap[g]? := fun g hg hz => hS.old g hg fun k _ h => LaZ_no _ _ h
      have hr : TGRow W0 u3.heap.size K := (hold _ H50.out.lt trivial).trans H50.out
      refine wpOp_row rfl rfl rfl (b := u3.heap.size) (f := 0) ((hE0 9 (by kernel_rfl)).trans rfl) (TGRow.range hr) Tryd.underlying28 rfl (by rw [tagSize, tag_len hlK]) (hK _ _ W0 (Gives.read rfl))
    · refine wpOp_empty rfl rfl rfl Tryd.underlying23 (by kernel_rfl) (hK _ (fun g => g = W0.heap.size) _ (Gives.make (Below.alloc (Below.refl _ _) (Nat.le_refl _) _) ⟨_, rfl, fun _ h => h, Whole.here _ _ _⟩ (fun g h => by rw [h]; simp)))
    · refine wpOp_move rfl rfl (.inl rfl) ((hE0 2 (by kernel_rfl)).trans rfl) (hK _ _ W0 (Gives.read rfl))
    · have l2 := hdep 2 (by kernel_rfl)
      have l3 := hdep 3 (by kernel_rfl)
      have hold : ∀ g, g < q6.heap.size → True → W0.heap[g]? = q6.heap[g]? := fun g hg hz => hS.old g hg fun k _ h => LaZ_no _ _ h
      have hl2 := Live.by_ (b := LaB) l2 rfl hun
      obtain ⟨g2, e2, t2, h2⟩ := hS.f 2 hl2
      have e3 : v 3 = .slice A2 Y.length c2 := hS.f 3 (Live.none_ l3 rfl)
      have q2 : ∀ g, (v 2).ownBlock = some g → TT 2 g := fun g h => by rw [e2] at h; injection h with h; exact t2 g h.symm
      have ho2 : OwnBf W0 0 (v 2) [] := by rw [e2]; exact owns_empty h2 (Nat.zero_le _)
      have hy2 : Bytes W0 (fun g => g < q6.heap.size ∧ (Off [(u5.heap.size + 1), u5.heap.size, u3.heap.size, u1.heap.size, w.heap.size]) g) (.slice A2 Y.length c2) Y := Bytes.keep (Bytes.mono H46.out fun g hg q => ⟨hg, q⟩) fun g hg h => hold g h.1 trivial
      obtain ⟨v', W0', hrun, ho, hb0, hgb, hbl⟩ := run_append_at (ty := 23) 23 5 (.int .u8 0) 1 Tryd.underlying23 byteInfo byte_size (by omega) (by omega) bf_len bf_one (v 2) [] ho2 (seq_bytes hy2) (by simp; omega)
      rw [List.nil_append] at ho
      refine wpOp_append rfl rfl rfl (hE 2 45 l2 (lt_k (by kernel_rfl)) (by kernel_rfl) (lt_k (by kernel_rfl))) ((hE 3 46 l3 (lt_k (by kernel_rfl)) (by kernel_rfl) (lt_k (by kernel_rfl))).trans e3) hrun (hK _ (fun g => v'.ownBlock = some g) _ ⟨hb0, fun g hg _ hn => hgb.block g hg fun q => hn 2 rfl hl2 (q2 g q.symm), ⟨ho, fun g h => h⟩, fun g hg => ⟨(hbl g hg).1, (hbl g hg).2.elim (fun q => .inr (.inr ⟨2, rfl, hl2, q2 g q⟩)) .inl⟩⟩)
    · refine wpOp_flat rfl rfl rfl .u8 [108, 97, 116, 101, 114] Tryd.underlying23 (by kernel_rfl) (by kernel_rfl) rfl (by decide) (by decide) rfl (hK _ (fun g => g = W0.heap.size) _ (Gives.make (Below.alloc (Below.refl _ _) (Nat.le_refl _) _) ⟨_, rfl, fun _ h => h, Whole.here _ _ _⟩ (fun g h => by rw [h]; simp)))
    · have l5 := hdep 5 (by kernel_rfl)
      have hl5 := Live.by_ (b := LaB) l5 rfl hun
      obtain ⟨g5, e5, t5, h5⟩ := hS.f 5 hl5
      refine wpOp_conv rfl rfl rfl ((hE 5 48 l5 (lt_k (by kernel_rfl)) (by kernel_rfl) (lt_k (by kernel_rfl))).trans e5) (conv_mk W0 g5 _ _ _ h5) (hK _ (fun g => g = g5) _ (Gives.over rfl hl5 (t5 _ rfl) mkd_below (fun g _ h => mkd_other h) (by rw [mkd_size]; exact h5.lt) ⟨_, _, rfl, mkd_bytes h5.lt latc_eq (by decide)⟩))
    · have l4 := hdep 4 (by kernel_rfl)
      have l6 := hdep 6 (by kernel_rfl)
      have hl4 := Live.by_ (b := LaB) l4 rfl hun
      obtain ⟨o4, t4⟩ := hS.f 4 hl4
      obtain ⟨A6, c6, e6, h6⟩ := hS.f 6 (Live.by_ l6 rfl hun)
      obtain ⟨v', W0', hrun, ho, hb0, hgb, hbl⟩ := run_append_at (ty := 23) 23 5 (.int .u8 0) 1 Tryd.underlying23 byteInfo byte_size (by omega) (by omega) bf_len bf_one (v 4) Y o4 (seq_bytes h6) (by rw [List.length_append] at hYl; omega)
      obtain ⟨A7, c7, e7, h7⟩ := OwnS.src (ok := fun _ => True) ho fun _ _ => trivial
      refine wpOp_append rfl rfl rfl (hE 4 47 l4 (lt_k (by kernel_rfl)) (by kernel_rfl) (lt_k (by kernel_rfl))) ((hE 6 49 l6 (lt_k (by kernel_rfl)) (by kernel_rfl) (lt_k (by kernel_rfl))).trans e6) hrun (hK _ (fun g => v'.ownBlock = some g) _ ⟨hb0, fun g hg _ hn => hgb.block g hg fun q => hn 4 rfl hl4 (t4 g q.symm), ⟨A7, c7, e7, bytes_seq h7⟩, fun g hg => ⟨(hbl g hg).1, (hbl g hg).2.elim (fun q => .inr (.inr ⟨4, rfl, hl4, t4 g q⟩)) .inl⟩⟩)
    · have l0 := hdep 0 (by kernel_rfl)
      have l1 := hdep 1 (by kernel_rfl)
      have l7 := hdep 7 (by kernel_rfl)
      have hold : ∀ g, g < q6.heap.size → True → W0.heap[g]? = q6.heap[g]? := fun g hg hz => hS.old g hg fun k _ h => LaZ_no _ _ h
      have e0 : v 0 = .agg (alc a.free a.seed a.fresh (.slice Ama a.macs.length cma) (.slice Aba a.boxes.length cba)) := hS.f 0 (Live.none_ l0 rfl)
      have e1 : v 1 = .agg (K.map byt).toArray := hS.f 1 (Live.none_ l1 rfl)
      obtain ⟨A7, c7, e7, h7⟩ := hS.f 7 (Live.by_ l7 rfl hun)
      have hav : AlV W0 (fun g => g < q6.heap.size ∧ (Off [(u5.heap.size + 1), u5.heap.size, u3.heap.size, u1.heap.size, w.heap.size]) g) (.agg (alc a.free a.seed a.fresh (.slice Ama a.macs.length cma) (.slice Aba a.boxes.length cba))) a := AlV.keep (AlV.mono H48.out fun g hg q => ⟨hg, q⟩) hS.low.size fun g hg h => hold g hg trivial
      have hcl := pmac (m := Y ++ latw) hav (by omega) hlK h7 (by omega) (Tables.below HT.out (Nat.le_refl _) (Below.trans H44.out (hS.below (Nat.le_trans (Below.size H44.out) (Nat.le_refl _)) (fun k g h => absurd h (LaZ_no k g)))))
      rw [← HEc.out] at hcl
      refine wpOp_call rfl rfl rfl Tryd.func12 (by kernel_rfl) (by kernel_rfl) (vs := #[.agg (alc a.free a.seed a.fresh (.slice Ama a.macs.length cma) (.slice Aba a.boxes.length cba)), .agg (K.map byt).toArray, .slice A7 (Y ++ latw).length c7]) (by simp only [List.map_toArray, List.map_cons, List.map_nil, (hE 0 43 l0 (lt_k (by kernel_rfl)) (by kernel_rfl) (lt_k (by kernel_rfl))).trans e0, (hE 1 44 l1 (lt_k (by kernel_rfl)) (by kernel_rfl) (lt_k (by kernel_rfl))).trans e1, (hE 7 50 l7 (lt_k (by kernel_rfl)) (by kernel_rfl) (lt_k (by kernel_rfl))).trans e7]) (hcl.mono ?_)
      rintro e W0' ⟨⟨x, rfl, hx⟩, hb⟩
      exact ⟨_, rfl, hK _ (fun g => W0.heap.size ≤ g ∧ g < W0'.heap.size) _ (Gives.make hb ⟨x, rfl, AlV.mono hx fun g hg q => q.imp id fun q => ⟨q, hg⟩⟩ fun _ h => h)⟩
    · have l8 := hdep 8 (by kernel_rfl)
      refine wpOp_move rfl rfl (.inl rfl) (hE 8 51 l8 (lt_k (by kernel_rfl)) (by kernel_rfl) (lt_k (by kernel_rfl))) (hK _ _ W0 (Gives.read rfl))
    · have l9 := hdep 9 (by kernel_rfl)
      have l8 := hS.wait l9 (j := 8) (by kernel_rfl)
      obtain ⟨x, e8, h8⟩ := hS.f 8 (Live.none_ l8 rfl)
      have e9 : v 9 = v 8 := hS.f 9 (Live.none_ l9 rfl)
      refine wpOp_extract rfl rfl rfl ((hE 9 42 l9 (lt_k (by kernel_rfl)) (by kernel_rfl) (lt_k (by kernel_rfl))).trans (e9.trans e8)) rfl (hK _ _ W0 (Gives.read ⟨_, _, e9.trans e8⟩))
    · have l9 := hdep 9 (by kernel_rfl)
      have l8 := hS.wait l9 (j := 8) (by kernel_rfl)
      obtain ⟨x, e8, h8⟩ := hS.f 8 (Live.none_ l8 rfl)
      have e9 : v 9 = v 8 := hS.f 9 (Live.none_ l9 rfl)
      refine wpOp_extract rfl rfl rfl ((hE 9 42 l9 (lt_k (by kernel_rfl)) (by kernel_rfl) (lt_k (by kernel_rfl))).trans (e9.trans e8)) rfl (hK _ _ W0 (Gives.read ⟨_, _, e9.trans e8⟩))
    · have l9 := hdep 9 (by kernel_rfl)
      have l8 := hS.wait l9 (j := 8) (by kernel_rfl)
      obtain ⟨x, e8, h8⟩ := hS.f 8 (Live.none_ l8 rfl)
      have e9 : v 9 = v 8 := hS.f 9 (Live.none_ l9 rfl)
      refine wpOp_extract rfl rfl rfl ((hE 9 42 l9 (lt_k (by kernel_rfl)) (by kernel_rfl) (lt_k (by kernel_rfl))).trans (e9.trans e8)) rfl (hK _ _ W0 (Gives.read ⟨_, _, e9.trans e8⟩))
    · refine wpOp_alloc rfl rfl rfl algZero (hK _ (fun g => g = W0.heap.size) _ (Gives.make (Below.alloc (Below.refl _ _) (Nat.le_refl _) _) ⟨_, rfl, fun _ h => h, Whole.here _ _ _⟩ (fun g h => by rw [h]; simp)))
    · refine wpOp_alloc rfl rfl rfl tagZero (hK _ (fun g => g = W0.heap.size) _ (Gives.make (Below.alloc (Below.refl _ _) (Nat.le_refl _) _) ⟨_, rfl, fun _ h => h, Whole.here _ _ _⟩ (fun g h => by rw [h]; simp)))
    · have l10 := hdep 10 (by kernel_rfl)
      have l9 := hS.wait l10 (j := 9) (by kernel_rfl)
      have l8 := hS.wait l9 (j := 8) (by kernel_rfl)
      obtain ⟨x, e8, h8⟩ := hS.f 8 (Live.none_ l8 rfl)
      have e9 : v 9 = v 8 := hS.f 9 (Live.none_ l9 rfl)
      obtain ⟨s, t, e10⟩ := hS.f 10 (Live.none_ l10 rfl)
      have hx := (tup3 (e10.symm.trans (e9.trans e8))).1
      obtain ⟨Am, cm, Ab, cb, hxe, -, -, -⟩ := id h8
      have hx := hx.trans hxe
      have l13 := hdep 13 (by kernel_rfl)
      have hlp := Live.by_ (b := LaB) l13 rfl hun
      obtain ⟨gp, ep, tp, hp⟩ := hS.f 13 hlp
      refine wpOp_store rfl rfl rfl ((hE 13 13 l13 (lt_k (by kernel_rfl)) (by kernel_rfl) (lt_k (by kernel_rfl))).trans ep) ((hE 10 52 l10 (lt_k (by kernel_rfl)) (by kernel_rfl) (lt_k (by kernel_rfl))).trans hx) hp (by rw [algSize, alc_size]) (by rw [zar_size, alc_size]) (alc_one _ _ _ _ _ _ _ _ _) (hK _ (fun g => g = gp) _ (Gives.over rfl hlp (tp _ rfl) (below_setRow (Below.refl _ _) (Nat.zero_le _) _) (fun g _ h => setRow_other _ _ _ _ h) (by simp; exact hp.lt) ⟨gp, _, ep, hx, fun _ h => h, Whole.setRow hp _⟩))
    · have l11 := hdep 11 (by kernel_rfl)
      have l9 := hS.wait l11 (j := 9) (by kernel_rfl)
      have l8 := hS.wait l9 (j := 8) (by kernel_rfl)
      obtain ⟨x, e8, h8⟩ := hS.f 8 (Live.none_ l8 rfl)
      have e9 : v 9 = v 8 := hS.f 9 (Live.none_ l9 rfl)
      obtain ⟨s, t, e10⟩ := hS.f 11 (Live.none_ l11 rfl)
      have hx := (tup3 (e10.symm.trans (e9.trans e8))).2.1
      have l14 := hdep 14 (by kernel_rfl)
      have hlp := Live.by_ (b := LaB) l14 rfl hun
      obtain ⟨gp, ep, tp, hp⟩ := hS.f 14 hlp
      refine wpOp_store rfl rfl rfl ((hE 14 14 l14 (lt_k (by kernel_rfl)) (by kernel_rfl) (lt_k (by kernel_rfl))).trans ep) ((hE 11 53 l11 (lt_k (by kernel_rfl)) (by kernel_rfl) (lt_k (by kernel_rfl))).trans hx) hp (by rw [tagSize, tag_size hlV]) (by rw [ztr_size, tag_size hlV]) (tag_one _) (hK _ (fun g => g = gp) _ (Gives.over rfl hlp (tp _ rfl) (below_setRow (Below.refl _ _) (Nat.zero_le _) _) (fun g _ h => setRow_other _ _ _ _ h) (by simp; exact hp.lt) ⟨gp, _, ep, hx, fun _ h => h, Whole.setRow hp _⟩))
    · have l12 := hdep 12 (by kernel_rfl)
      refine wpOp_move rfl rfl (.inr rfl) (hE 12 54 l12 (lt_k (by kernel_rfl)) (by kernel_rfl) (lt_k (by kernel_rfl))) (hK _ _ W0 (Gives.read rfl))
  clear hsr hkr
  intro l v TT r7 hall hS
  obtain ⟨x, e8, h8⟩ := hS.f 8 (Live.all hall (lt_k (by kernel_rfl)) rfl)
  have e9 : v 9 = v 8 := hS.f 9 (Live.all hall (lt_k (by kernel_rfl)) rfl)
  obtain ⟨s10, t10, e10⟩ := hS.f 10 (Live.all hall (lt_k (by kernel_rfl)) rfl)
  obtain ⟨s11, t11, e11⟩ := hS.f 11 (Live.all hall (lt_k (by kernel_rfl)) rfl)
  obtain ⟨s12, t12, e12⟩ := hS.f 12 (Live.all hall (lt_k (by kernel_rfl)) rfl)
  have x10 := (tup3 (e10.symm.trans (e9.trans e8))).1
  have x11 := (tup3 (e11.symm.trans (e9.trans e8))).2.1
  have x12 := (tup3 (e12.symm.trans (e9.trans e8))).2.2
  obtain ⟨Amc, cmc, Abc, cbc, rfl, hM, hBx, hA⟩ := id h8
  obtain ⟨ga6, c15, e13, f15, t15, h15⟩ := hS.f 15 (Live.all hall (lt_k (by kernel_rfl)) rfl)
  obtain ⟨gt6, c16, e14, f16, t16, h16⟩ := hS.f 16 (Live.all hall (lt_k (by kernel_rfl)) rfl)
  have e17 : v 17 = v 12 := hS.f 17 (Live.all hall (lt_k (by kernel_rfl)) rfl)
  have hd15 : ∀ g, TT 8 g → g ≠ ga6 := fun g h q => hS.d 8 15 (Live.all hall (lt_k (by kernel_rfl)) rfl) (Live.all hall (lt_k (by kernel_rfl)) rfl) (by decide) g h (t15 _ q)
  have hd16 : ∀ g, TT 8 g → g ≠ gt6 := fun g h q => hS.d 8 16 (Live.all hall (lt_k (by kernel_rfl)) rfl) (Live.all hall (lt_k (by kernel_rfl)) rfl) (by decide) g h (t16 _ q)
  have hne : ga6 ≠ gt6 := fun q => hS.d 15 16 (Live.all hall (lt_k (by kernel_rfl)) rfl) (Live.all hall (lt_k (by kernel_rfl)) rfl) (by decide) ga6 (t15 _ rfl) (t16 _ q)
  have ha6 : q6.heap.size ≤ ga6 := (hS.t 15 (Live.all hall (lt_k (by kernel_rfl)) rfl) ga6 (t15 _ rfl)).1.elim id fun h => absurd h (LaZ_no _ _)
  have ht6 : q6.heap.size ≤ gt6 := (hS.t 16 (Live.all hall (lt_k (by kernel_rfl)) rfl) gt6 (t16 _ rfl)).1.elim id fun h => absurd h (LaZ_no _ _)
  change Exit.then _ _ Exit.normal (Act.put (Act.put (Act.put (Act.put (Act.put (Act.put (Act.put (Act.put (Act.put (Act.put (Act.put (Act.put (Act.put (Act.put (Act.put (Act.put (Act.put (Act.put _ (some 43) (v 0)) (some 44) (v 1)) (some 45) (v 2)) (some 46) (v 3)) (some 47) (v 4)) (some 48) (v 5)) (some 49) (v 6)) (some 50) (v 7)) (some 51) (v 8)) (some 42) (v 9)) (some 52) (v 10)) (some 53) (v 11)) (some 54) (v 12)) (some 13) (v 13)) (some 14) (v 14)) none (v 15)) none (v 16)) (some 15) (v 17)) _
  rw [e13, e14, e17, x12]
  simp only [putAll_zero, Act.put, List.setIfInBounds_toArray, List.set_cons_zero, List.set_cons_succ]
  clear H47
  have hbe := hS.below (Nat.le_refl _) (fun k g h => absurd h (LaZ_no k g))
  have hsr7 : q6.heap.size ≤ r7.heap.size := hbe.size
  have ec15 : c15 = alc c.free c.seed c.fresh (.slice Amc c.macs.length cmc) (.slice Abc c.boxes.length cbc) := by have := f15.symm.trans x10; injection this
  rw [ec15] at h15
  have hg6 : ga6 < r7.heap.size := h15.lt
  have H54 : Hid (Bytes q6 (Off [ga6, (u5.heap.size + 1), u5.heap.size, u3.heap.size, u1.heap.size, w.heap.size]) (.slice A1 X.length c1) X) := Lib.hid (Bytes.grow H45.out ha6)
  have H55 : Hid (Bytes q6 (Off [ga6, (u5.heap.size + 1), u5.heap.size, u3.heap.size, u1.heap.size, w.heap.size]) (.slice A2 Y.length c2) Y) := Lib.hid (Bytes.grow H46.out ha6)
  have H56 : Hid (AlV q6 (Off [ga6, (u5.heap.size + 1), u5.heap.size, u3.heap.size, u1.heap.size, w.heap.size]) (.agg (alc a.free a.seed a.fresh (.slice Ama a.macs.length cma) (.slice Aba a.boxes.length cba))) a) := Lib.hid (AlV.grow H48.out ha6)
  have H57 : Hid (AlV q6 (Off [ga6, (u5.heap.size + 1), u5.heap.size, u3.heap.size, u1.heap.size, w.heap.size]) (.agg (alc b.free b.seed b.fresh (.slice Amb b.macs.length cmb) (.slice Abb b.boxes.length cbb))) b) := Lib.hid (AlV.grow H51.out ha6)
  clear H45 H46 H48 H51
  have H58 : Hid (Below w.heap.size w r7) := Lib.hid ((Below.trans H44.out (Below.mono hbe (Below.size H44.out))))
  have H59 : Hid (Bytes r7 (Off [ga6, (u5.heap.size + 1), u5.heap.size, u3.heap.size, u1.heap.size, w.heap.size]) (.slice A1 X.length c1) X) := Lib.hid ((Bytes.below H54.out hbe (Nat.le_refl _)))
  have H60 : Hid (Bytes r7 (Off [ga6, (u5.heap.size + 1), u5.heap.size, u3.heap.size, u1.heap.size, w.heap.size]) (.slice A2 Y.length c2) Y) := Lib.hid ((Bytes.below H55.out hbe (Nat.le_refl _)))
  have H61 : Hid (AlV r7 (Off [ga6, (u5.heap.size + 1), u5.heap.size, u3.heap.size, u1.heap.size, w.heap.size]) (.agg (alc a.free a.seed a.fresh (.slice Ama a.macs.length cma) (.slice Aba a.boxes.length cba))) a) := Lib.hid ((AlV.below H56.out hbe (Nat.le_refl _)))
  have H62 : Hid (ALRow r7 u1.heap.size a.free a.seed a.fresh (.slice Ama a.macs.length cma) (.slice Aba a.boxes.length cba)) := Lib.hid ((Whole.below H49.out hbe (Whole.lt H49.out)))
  have H63 : Hid (TGRow r7 u3.heap.size K) := Lib.hid ((Whole.below H50.out hbe (Whole.lt H50.out)))
  have H64 : Hid (AlV r7 (Off [ga6, (u5.heap.size + 1), u5.heap.size, u3.heap.size, u1.heap.size, w.heap.size]) (.agg (alc b.free b.seed b.fresh (.slice Amb b.macs.length cmb) (.slice Abb b.boxes.length cbb))) b) := Lib.hid ((AlV.below H57.out hbe (Nat.le_refl _)))
  have H65 : Hid (ALRow r7 u5.heap.size b.free b.seed b.fresh (.slice Amb b.macs.length cmb) (.slice Abb b.boxes.length cbb)) := Lib.hid ((Whole.below H52.out hbe (Whole.lt H52.out)))
  have H66 : Hid (TGRow r7 (u5.heap.size + 1) T) := Lib.hid ((Whole.below H53.out hbe (Whole.lt H53.out)))
  clear H44 H54 H55 H56 H49 H50 H57 H52 H53
  have H67 : Hid (ALRow r7 ga6 c.free c.seed c.fresh (.slice Amc c.macs.length cmc) (.slice Abc c.boxes.length cbc)) := Lib.hid (h15)
  have H68 : Hid (AlV r7 (Off [ga6, (u5.heap.size + 1), u5.heap.size, u3.heap.size, u1.heap.size, w.heap.size]) (.agg (alc c.free c.seed c.fresh (.slice Amc c.macs.length cmc) (.slice Abc c.boxes.length cbc))) c) := Lib.hid (AlV.mono h8 fun g hg q y hy => by
      rcases List.mem_cons.1 hy with rfl | hy
      · exact q.elim (fun q => by omega) (hd15 g)
      · exact q.elim (fun q => q.2 y hy) (fun q => by have h1 := (hS.t 8 (Live.all hall (lt_k (by kernel_rfl)) rfl) g q).1.elim id (fun h => absurd h (LaZ_no _ _)); simp at hy; omega))
  clear hbe h15 h8 hd15 hd16 hne h16 hS hall hM hBx hA ht6 f15 f16 t15 t16 x10 x11 x12 e8 e9 e10 e11 e12 e13 e14 e17
  go_upto_region 7 with fail
  obtain ⟨R, hR⟩ : ∃ R, R = aMac c K (Y ++ stiw) := ⟨_, rfl⟩
  have hlV2 : R.2.1.length = 32 := by rw [hR]; exact AlV.mac_len H68.out _ _
  have hnd : R.1.macs.length ≤ c.macs.length + 1 := by rw [hR]; exact mac_le c K (Y ++ stiw)
  have hYl : (Y ++ stiw).length ≤ 300 := by rw [List.length_append]; have : stiw.length = 11 := rfl; omega
  obtain ⟨d, V2, ed⟩ := R
  have HEd := Lib.hid hR
  clear hR
  dsimp only at hlV2 hnd
  have hqz : ∀ g, (Off [ga6, (u5.heap.size + 1), u5.heap.size, u3.heap.size, u1.heap.size, w.heap.size]) g → ∀ k, LbZ ga6 k ≠ some g := fun g hg k h => hg ga6 (by simp) (LbZ_is h).2
  have hsr := fun i v v' T x hi h => LbF_sup (ga6) (.agg (alc c.free c.seed c.fresh (.slice Amc c.macs.length cmc) (.slice Abc c.boxes.length cbc))) (.agg (K.map byt).toArray) (.slice A2 Y.length c2) Y stiw stic r7.heap.size (Off [ga6, (u5.heap.size + 1), u5.heap.size, u3.heap.size, u1.heap.size, w.heap.size]) (d, V2, ed) i v v' T x hi h
  have hkr := fun i v T x x' hi hf hs hk => LbF_keep (ga6) (.agg (alc c.free c.seed c.fresh (.slice Amc c.macs.length cmc) (.slice Abc c.boxes.length cbc))) (.agg (K.map byt).toArray) (.slice A2 Y.length c2) Y stiw stic r7.heap.size (Off [ga6, (u5.heap.size + 1), u5.heap.size, u3.heap.size, u1.heap.size, w.heap.size]) (d, V2, ed) hqz i v T x x' hi hf hs hk
  refine wp_region_puts (w0 := r7) (by kernel_rfl) (LbF (ga6) (.agg (alc c.free c.seed c.fresh (.slice Amc c.macs.length cmc) (.slice Abc c.boxes.length cbc))) (.agg (K.map byt).toArray) (.slice A2 Y.length c2) Y stiw stic r7.heap.size (Off [ga6, (u5.heap.size + 1), u5.heap.size, u3.heap.size, u1.heap.size, w.heap.size]) (d, V2, ed)) LbB (LbZ ga6) LbS (by kernel_rfl) (by kernel_rfl) (fun _ _ _ h k => (LbZ_is h).1.trans (LbZ_is k).1.symm) (fun _ _ h => by rw [(LbZ_is h).2]; exact H67.out.lt) (fun c i h => by unfold LbB at h; split at h <;> first | rfl | cases h) (by kernel_rfl) hsr hkr ?_ ?_
  · clear hsr hkr
    intro l v TT W0 i hi hdep hun hS A KK hE hE0 hK
    obtain rfl | rfl | rfl | rfl | rfl | rfl | rfl | rfl | rfl | rfl | rfl | rfl | rfl | rfl | rfl | rfl | rfl : i = 0 ∨ i = 1 ∨ i = 2 ∨ i = 3 ∨ i = 4 ∨ i = 5 ∨ i = 6 ∨ i = 7 ∨ i = 8 ∨ i = 9 ∨ i = 10 ∨ i = 11 ∨ i = 12 ∨ i = 13 ∨ i = 14 ∨ i = 15 ∨ i = 16 := by have : i < 17 := hi; omega
    · have hr : ALRow W0 ga6 c.free c.seed c.fresh (.slice Amc c.macs.length cmc) (.slice Abc c.boxes.length cbc) := (hS.old _ H67.out.lt fun k hk h => by have h1 := (LbZ_is h).1; subst h1; have := hS.wait hk (j := 0) (by kernel_rfl); rw [hun] at this; cases this).trans H67.out
      refine wpOp_row rfl rfl rfl (b := ga6) (f := 0) ((hE0 13 (by kernel_rfl)).trans rfl) (Whole.range hr) Tryd.underlying32 rfl (by rw [algSize, alcl_length]) (hK _ _ W0 (Gives.read rfl))
    · have hold : ∀ g, g < r7.heap.size → g ≠ ga6 → W0.heap[g]? = r7.heap[g]? := fun g hg hz => hS.old g hg fun k _ h => hz (LbZ_is h).2
      have hr : TGRow W0 u3.heap.size K := (hold _ H63.out.lt (by omega)).trans H63.out
      refine wpOp_row rfl rfl rfl (b := u3.heap.size) (f := 0) ((hE0 9 (by kernel_rfl)).trans rfl) (TGRow.range hr) Tryd.underlying28 rfl (by rw [tagSize, tag_len hlK]) (hK _ _ W0 (Gives.read rfl))
    · refine wpOp_empty rfl rfl rfl Tryd.underlying23 (by kernel_rfl) (hK _ (fun g => g = W0.heap.size) _ (Gives.make (Below.alloc (Below.refl _ _) (Nat.le_refl _) _) ⟨_, rfl, fun _ h => h, Whole.here _ _ _⟩ (fun g h => by rw [h]; simp)))
    · refine wpOp_move rfl rfl (.inl rfl) ((hE0 2 (by kernel_rfl)).trans rfl) (hK _ _ W0 (Gives.read rfl))
    · have l2 := hdep 2 (by kernel_rfl)
      have l3 := hdep 3 (by kernel_rfl)
      have hold : ∀ g, g < r7.heap.size → g ≠ ga6 → W0.heap[g]? = r7.heap[g]? := fun g hg hz => hS.old g hg fun k _ h => hz (LbZ_is h).2
      have hl2 := Live.by_ (b := LbB) l2 rfl hun
      obtain ⟨g2, e2, t2, h2⟩ := hS.f 2 hl2
      have e3 : v 3 = .slice A2 Y.length c2 := hS.f 3 (Live.none_ l3 rfl)
      have q2 : ∀ g, (v 2).ownBlock = some g → TT 2 g := fun g h => by rw [e2] at h; injection h with h; exact t2 g h.symm
      have ho2 : OwnBf W0 0 (v 2) [] := by rw [e2]; exact owns_empty h2 (Nat.zero_le _)
      have hy2 : Bytes W0 (fun g => g < r7.heap.size ∧ (Off [ga6, (u5.heap.size + 1), u5.heap.size, u3.heap.size, u1.heap.size, w.heap.size]) g) (.slice A2 Y.length c2) Y := Bytes.keep (Bytes.mono H60.out fun g hg q => ⟨hg, q⟩) fun g hg h => hold g h.1 (h.2 ga6 (by simp))
      obtain ⟨v', W0', hrun, ho, hb0, hgb, hbl⟩ := run_append_at (ty := 23) 23 5 (.int .u8 0) 1 Tryd.underlying23 byteInfo byte_size (by omega) (by omega) bf_len bf_one (v 2) [] ho2 (seq_bytes hy2) (by simp; omega)
      rw [List.nil_append] at ho
      refine wpOp_append rfl rfl rfl (hE 2 58 l2 (lt_k (by kernel_rfl)) (by kernel_rfl) (lt_k (by kernel_rfl))) ((hE 3 59 l3 (lt_k (by kernel_rfl)) (by kernel_rfl) (lt_k (by kernel_rfl))).trans e3) hrun (hK _ (fun g => v'.ownBlock = some g) _ ⟨hb0, fun g hg _ hn => hgb.block g hg fun q => hn 2 rfl hl2 (q2 g q.symm), ⟨ho, fun g h => h⟩, fun g hg => ⟨(hbl g hg).1, (hbl g hg).2.elim (fun q => .inr (.inr ⟨2, rfl, hl2, q2 g q⟩)) .inl⟩⟩)
    · refine wpOp_flat rfl rfl rfl .u8 [115, 116, 105, 108, 108, 32, 108, 97, 116, 101, 114] Tryd.underlying23 (by kernel_rfl) (by kernel_rfl) rfl (by decide) (by decide) rfl (hK _ (fun g => g = W0.heap.size) _ (Gives.make (Below.alloc (Below.refl _ _) (Nat.le_refl _) _) ⟨_, rfl, fun _ h => h, Whole.here _ _ _⟩ (fun g h => by rw [h]; simp)))
    · have l5 := hdep 5 (by kernel_rfl)
      have hl5 := Live.by_ (b := LbB) l5 rfl hun
      obtain ⟨g5, e5, t5, h5⟩ := hS.f 5 hl5
      refine wpOp_conv rfl rfl rfl ((hE 5 61 l5 (lt_k (by kernel_rfl)) (by kernel_rfl) (lt_k (by kernel_rfl))).trans e5) (conv_mk W0 g5 _ _ _ h5) (hK _ (fun g => g = g5) _ (Gives.over rfl hl5 (t5 _ rfl) mkd_below (fun g _ h => mkd_other h) (by rw [mkd_size]; exact h5.lt) ⟨_, _, rfl, mkd_bytes h5.lt stic_eq (by decide)⟩))
    · have l4 := hdep 4 (by kernel_rfl)
      have l6 := hdep 6 (by kernel_rfl)
      have hl4 := Live.by_ (b := LbB) l4 rfl hun
      obtain ⟨o4, t4⟩ := hS.f 4 hl4
      obtain ⟨A6, c6, e6, h6⟩ := hS.f 6 (Live.by_ l6 rfl hun)
      obtain ⟨v', W0', hrun, ho, hb0, hgb, hbl⟩ := run_append_at (ty := 23) 23 5 (.int .u8 0) 1 Tryd.underlying23 byteInfo byte_size (by omega) (by omega) bf_len bf_one (v 4) Y o4 (seq_bytes h6) (by rw [List.length_append] at hYl; omega)
      obtain ⟨A7, c7, e7, h7⟩ := OwnS.src (ok := fun _ => True) ho fun _ _ => trivial
      refine wpOp_append rfl rfl rfl (hE 4 60 l4 (lt_k (by kernel_rfl)) (by kernel_rfl) (lt_k (by kernel_rfl))) ((hE 6 62 l6 (lt_k (by kernel_rfl)) (by kernel_rfl) (lt_k (by kernel_rfl))).trans e6) hrun (hK _ (fun g => v'.ownBlock = some g) _ ⟨hb0, fun g hg _ hn => hgb.block g hg fun q => hn 4 rfl hl4 (t4 g q.symm), ⟨A7, c7, e7, bytes_seq h7⟩, fun g hg => ⟨(hbl g hg).1, (hbl g hg).2.elim (fun q => .inr (.inr ⟨4, rfl, hl4, t4 g q⟩)) .inl⟩⟩)
    · have l0 := hdep 0 (by kernel_rfl)
      have l1 := hdep 1 (by kernel_rfl)
      have l7 := hdep 7 (by kernel_rfl)
      have hold : ∀ g, g < r7.heap.size → g ≠ ga6 → W0.heap[g]? = r7.heap[g]? := fun g hg hz => hS.old g hg fun k _ h => hz (LbZ_is h).2
      have e0 : v 0 = .agg (alc c.free c.seed c.fresh (.slice Amc c.macs.length cmc) (.slice Abc c.boxes.length cbc)) := hS.f 0 (Live.none_ l0 rfl)
      have e1 : v 1 = .agg (K.map byt).toArray := hS.f 1 (Live.none_ l1 rfl)
      obtain ⟨A7, c7, e7, h7⟩ := hS.f 7 (Live.by_ l7 rfl hun)
      have hav : AlV W0 (fun g => g < r7.heap.size ∧ (Off [ga6, (u5.heap.size + 1), u5.heap.size, u3.heap.size, u1.heap.size, w.heap.size]) g) (.agg (alc c.free c.seed c.fresh (.slice Amc c.macs.length cmc) (.slice Abc c.boxes.length cbc))) c := AlV.keep (AlV.mono H68.out fun g hg q => ⟨hg, q⟩) hS.low.size fun g hg h => hold g hg (h.2 ga6 (by simp))
      have hcl := pmac (m := Y ++ stiw) hav (by omega) hlK h7 (by omega) (Tables.below HT.out (Nat.le_refl _) (Below.trans H58.out (hS.below (Nat.le_trans (Below.size H58.out) (Nat.le_refl _)) (fun k g h => by have := (LbZ_is h).2; omega))))
      rw [← HEd.out] at hcl
      refine wpOp_call rfl rfl rfl Tryd.func12 (by kernel_rfl) (by kernel_rfl) (vs := #[.agg (alc c.free c.seed c.fresh (.slice Amc c.macs.length cmc) (.slice Abc c.boxes.length cbc)), .agg (K.map byt).toArray, .slice A7 (Y ++ stiw).length c7]) (by simp only [List.map_toArray, List.map_cons, List.map_nil, (hE 0 56 l0 (lt_k (by kernel_rfl)) (by kernel_rfl) (lt_k (by kernel_rfl))).trans e0, (hE 1 57 l1 (lt_k (by kernel_rfl)) (by kernel_rfl) (lt_k (by kernel_rfl))).trans e1, (hE 7 63 l7 (lt_k (by kernel_rfl)) (by kernel_rfl) (lt_k (by kernel_rfl))).trans e7]) (hcl.mono ?_)
      rintro e W0' ⟨⟨x, rfl, hx⟩, hb⟩
      exact ⟨_, rfl, hK _ (fun g => W0.heap.size ≤ g ∧ g < W0'.heap.size) _ (Gives.make hb ⟨x, rfl, AlV.mono hx fun g hg q => q.imp id fun q => ⟨q, hg⟩⟩ fun _ h => h)⟩
    · have l8 := hdep 8 (by kernel_rfl)
      refine wpOp_move rfl rfl (.inl rfl) (hE 8 64 l8 (lt_k (by kernel_rfl)) (by kernel_rfl) (lt_k (by kernel_rfl))) (hK _ _ W0 (Gives.read rfl))
    · have l9 := hdep 9 (by kernel_rfl)
      have l8 := hS.wait l9 (j := 8) (by kernel_rfl)
      obtain ⟨x, e8, h8⟩ := hS.f 8 (Live.none_ l8 rfl)
      have e9 : v 9 = v 8 := hS.f 9 (Live.none_ l9 rfl)
      refine wpOp_extract rfl rfl rfl ((hE 9 55 l9 (lt_k (by kernel_rfl)) (by kernel_rfl) (lt_k (by kernel_rfl))).trans (e9.trans e8)) rfl (hK _ _ W0 (Gives.read ⟨_, _, e9.trans e8⟩))
    · have l9 := hdep 9 (by kernel_rfl)
      have l8 := hS.wait l9 (j := 8) (by kernel_rfl)
      obtain ⟨x, e8, h8⟩ := hS.f 8 (Live.none_ l8 rfl)
      have e9 : v 9 = v 8 := hS.f 9 (Live.none_ l9 rfl)
      refine wpOp_extract rfl rfl rfl ((hE 9 55 l9 (lt_k (by kernel_rfl)) (by kernel_rfl) (lt_k (by kernel_rfl))).trans (e9.trans e8)) rfl (hK _ _ W0 (Gives.read ⟨_, _, e9.trans e8⟩))
    · have l9 := hdep 9 (by kernel_rfl)
      have l8 := hS.wait l9 (j := 8) (by kernel_rfl)
      obtain ⟨x, e8, h8⟩ := hS.f 8 (Live.none_ l8 rfl)
      have e9 : v 9 = v 8 := hS.f 9 (Live.none_ l9 rfl)
      refine wpOp_extract rfl rfl rfl ((hE 9 55 l9 (lt_k (by kernel_rfl)) (by kernel_rfl) (lt_k (by kernel_rfl))).trans (e9.trans e8)) rfl (hK _ _ W0 (Gives.read ⟨_, _, e9.trans e8⟩))
    · refine wpOp_alloc rfl rfl rfl tagZero (hK _ (fun g => g = W0.heap.size) _ (Gives.make (Below.alloc (Below.refl _ _) (Nat.le_refl _) _) ⟨_, rfl, fun _ h => h, Whole.here _ _ _⟩ (fun g h => by rw [h]; simp)))
    · have l10 := hdep 10 (by kernel_rfl)
      have l9 := hS.wait l10 (j := 9) (by kernel_rfl)
      have l8 := hS.wait l9 (j := 8) (by kernel_rfl)
      obtain ⟨x, e8, h8⟩ := hS.f 8 (Live.none_ l8 rfl)
      have e9 : v 9 = v 8 := hS.f 9 (Live.none_ l9 rfl)
      obtain ⟨s, t, e10⟩ := hS.f 10 (Live.none_ l10 rfl)
      have hx := (tup3 (e10.symm.trans (e9.trans e8))).1
      obtain ⟨Am, cm, Ab, cb, hxe, -, -, -⟩ := id h8
      have hx := hx.trans hxe
      have hp : ALRow W0 ga6 c.free c.seed c.fresh (.slice Amc c.macs.length cmc) (.slice Abc c.boxes.length cbc) := (hS.old _ H67.out.lt fun k hk h => by have h1 := (LbZ_is h).1; subst h1; rw [hun] at hk; cases hk).trans H67.out
      refine wpOp_store rfl rfl rfl ((hE0 13 (by kernel_rfl)).trans rfl) ((hE 10 65 l10 (lt_k (by kernel_rfl)) (by kernel_rfl) (lt_k (by kernel_rfl))).trans hx) hp (by rw [algSize, alc_size]) (by rw [alc_size, alc_size]) (alc_one _ _ _ _ _ _ _ _ _) (hK _ (fun g => g = ga6) _ (Gives.old rfl (below_setRow (Below.refl _ _) (Nat.zero_le _) _) (fun g _ h => setRow_other _ _ _ _ h) (by simp; exact hp.lt) ⟨_, _, rfl, hx, fun _ h => h, Whole.setRow hp _⟩))
    · have l11 := hdep 11 (by kernel_rfl)
      have l9 := hS.wait l11 (j := 9) (by kernel_rfl)
      have l8 := hS.wait l9 (j := 8) (by kernel_rfl)
      obtain ⟨x, e8, h8⟩ := hS.f 8 (Live.none_ l8 rfl)
      have e9 : v 9 = v 8 := hS.f 9 (Live.none_ l9 rfl)
      obtain ⟨s, t, e10⟩ := hS.f 11 (Live.none_ l11 rfl)
      have hx := (tup3 (e10.symm.trans (e9.trans e8))).2.1
      have l13 := hdep 13 (by kernel_rfl)
      have hlp := Live.by_ (b := LbB) l13 rfl hun
      obtain ⟨gp, ep, tp, hp⟩ := hS.f 13 hlp
      refine wpOp_store rfl rfl rfl ((hE 13 16 l13 (lt_k (by kernel_rfl)) (by kernel_rfl) (lt_k (by kernel_rfl))).trans ep) ((hE 11 66 l11 (lt_k (by kernel_rfl)) (by kernel_rfl) (lt_k (by kernel_rfl))).trans hx) hp (by rw [tagSize, tag_size hlV2]) (by rw [ztr_size, tag_size hlV2]) (tag_one _) (hK _ (fun g => g = gp) _ (Gives.over rfl hlp (tp _ rfl) (below_setRow (Below.refl _ _) (Nat.zero_le _) _) (fun g _ h => setRow_other _ _ _ _ h) (by simp; exact hp.lt) ⟨gp, _, ep, hx, fun _ h => h, Whole.setRow hp _⟩))
    · have l12 := hdep 12 (by kernel_rfl)
      refine wpOp_move rfl rfl (.inr rfl) (hE 12 67 l12 (lt_k (by kernel_rfl)) (by kernel_rfl) (lt_k (by kernel_rfl))) (hK _ _ W0 (Gives.read rfl))
  clear hsr hkr
  intro l v TT r8 hall hS
  obtain ⟨x, e8, h8⟩ := hS.f 8 (Live.all hall (lt_k (by kernel_rfl)) rfl)
  have e9 : v 9 = v 8 := hS.f 9 (Live.all hall (lt_k (by kernel_rfl)) rfl)
  obtain ⟨s10, t10, e10⟩ := hS.f 10 (Live.all hall (lt_k (by kernel_rfl)) rfl)
  obtain ⟨s11, t11, e11⟩ := hS.f 11 (Live.all hall (lt_k (by kernel_rfl)) rfl)
  obtain ⟨s12, t12, e12⟩ := hS.f 12 (Live.all hall (lt_k (by kernel_rfl)) rfl)
  have x10 := (tup3 (e10.symm.trans (e9.trans e8))).1
  have x11 := (tup3 (e11.symm.trans (e9.trans e8))).2.1
  have x12 := (tup3 (e12.symm.trans (e9.trans e8))).2.2
  obtain ⟨Amd, cmd, Abd, cbd, rfl, hM, hBx, hA⟩ := id h8
  obtain ⟨ga7, c15, e13, f15, t15, h15⟩ := hS.f 14 (Live.all hall (lt_k (by kernel_rfl)) rfl)
  obtain ⟨gt7, c16, e14, f16, t16, h16⟩ := hS.f 15 (Live.all hall (lt_k (by kernel_rfl)) rfl)
  have e17 : v 16 = v 12 := hS.f 16 (Live.all hall (lt_k (by kernel_rfl)) rfl)
  change Exit.then _ _ Exit.normal (Act.put (Act.put (Act.put (Act.put (Act.put (Act.put (Act.put (Act.put (Act.put (Act.put (Act.put (Act.put (Act.put (Act.put (Act.put (Act.put (Act.put _ (some 56) (v 0)) (some 57) (v 1)) (some 58) (v 2)) (some 59) (v 3)) (some 60) (v 4)) (some 61) (v 5)) (some 62) (v 6)) (some 63) (v 7)) (some 64) (v 8)) (some 55) (v 9)) (some 65) (v 10)) (some 66) (v 11)) (some 67) (v 12)) (some 16) (v 13)) none (v 14)) none (v 15)) (some 17) (v 16)) _
  rw [e14, e17, x12]
  simp only [putAll_zero, Act.put, List.setIfInBounds_toArray, List.set_cons_zero, List.set_cons_succ]
  have hol : ∀ g, g < r7.heap.size → g ≠ ga6 → r8.heap[g]? = r7.heap[g]? := fun g hg hz => hS.old g hg fun k _ h => hz (LbZ_is h).2
  have hsr8 : r7.heap.size ≤ r8.heap.size := hS.low.size
  have hba : Below w.heap.size w r8 := Below.trans H58.out (hS.below (Below.size H58.out) (fun k g h => by have := (LbZ_is h).2; omega))
  have ec15 : c15 = alc d.free d.seed d.fresh (.slice Amd d.macs.length cmd) (.slice Abd d.boxes.length cbd) := by have := f15.symm.trans x10; injection this
  rw [ec15] at h15
  subst e13
  have hg6' : ga6 < r8.heap.size := h15.lt
  have H69 : Hid (Below w.heap.size w r8) := Lib.hid (hba)
  have H70 : Hid (Bytes r8 (Off [ga6, (u5.heap.size + 1), u5.heap.size, u3.heap.size, u1.heap.size, w.heap.size]) (.slice A1 X.length c1) X) := Lib.hid ((Bytes.keep H59.out fun g hg h => hol g hg (h ga6 (by simp))))
  have H71 : Hid (Bytes r8 (Off [ga6, (u5.heap.size + 1), u5.heap.size, u3.heap.size, u1.heap.size, w.heap.size]) (.slice A2 Y.length c2) Y) := Lib.hid ((Bytes.keep H60.out fun g hg h => hol g hg (h ga6 (by simp))))
  have H72 : Hid (AlV r8 (Off [ga6, (u5.heap.size + 1), u5.heap.size, u3.heap.size, u1.heap.size, w.heap.size]) (.agg (alc a.free a.seed a.fresh (.slice Ama a.macs.length cma) (.slice Aba a.boxes.length cba))) a) := Lib.hid ((AlV.keep H61.out hS.low.size fun g hg h => hol g hg (h ga6 (by simp))))
  have H73 : Hid (ALRow r8 u1.heap.size a.free a.seed a.fresh (.slice Ama a.macs.length cma) (.slice Aba a.boxes.length cba)) := Lib.hid (((hol _ (Whole.lt H62.out) (by omega)).trans H62.out))
  have H74 : Hid (TGRow r8 u3.heap.size K) := Lib.hid (((hol _ (Whole.lt H63.out) (by omega)).trans H63.out))
  have H75 : Hid (AlV r8 (Off [ga6, (u5.heap.size + 1), u5.heap.size, u3.heap.size, u1.heap.size, w.heap.size]) (.agg (alc b.free b.seed b.fresh (.slice Amb b.macs.length cmb) (.slice Abb b.boxes.length cbb))) b) := Lib.hid ((AlV.keep H64.out hS.low.size fun g hg h => hol g hg (h ga6 (by simp))))
  have H76 : Hid (ALRow r8 u5.heap.size b.free b.seed b.fresh (.slice Amb b.macs.length cmb) (.slice Abb b.boxes.length cbb)) := Lib.hid (((hol _ (Whole.lt H65.out) (by omega)).trans H65.out))
  have H77 : Hid (TGRow r8 (u5.heap.size + 1) T) := Lib.hid (((hol _ (Whole.lt H66.out) (by omega)).trans H66.out))
  clear H58 H59 H60 H61 H62 H63 H64 H65 H66
  have H78 : Hid (ALRow r8 ga6 d.free d.seed d.fresh (.slice Amd d.macs.length cmd) (.slice Abd d.boxes.length cbd)) := Lib.hid (h15)
  clear hol hba h15 h8 h16 hS hall hM hBx hA f15 f16 t15 t16 x10 x11 x12 e8 e9 e10 e11 e12 e14 e17 ec15
  go_upto_region 8 with fail
  have hcl := plook (m := X) H75.out hlK H70.out (by omega) (Tables.below HT.out (Nat.le_refl _) H69.out)
  obtain ⟨R, hR⟩ : ∃ R, R = aLook b K X := ⟨_, rfl⟩
  have hlU : R.1.length = 32 := by rw [hR]; exact AlV.look_len H75.out _ _
  rw [← hR] at hcl
  obtain ⟨U, ok⟩ := R
  have HEU := Lib.hid hR
  clear hR
  dsimp only [lres] at hcl hlU
  go_wp2_with (first
    | (with_reducible refine wpList_load_alg rfl _ rfl rfl H76.out (alc_size _ _ _ _ _) ?_)
    | (with_reducible refine wpList_load_tag rfl _ rfl rfl H74.out (tag_size hlK) ?_))
  refine hcl.mono ?_
  rintro e u9 ⟨rfl, hbu⟩
  clear hcl
  have hsu9 : r8.heap.size ≤ u9.heap.size := hbu.size
  have H79 : Hid (Below w.heap.size w u9) := Lib.hid ((Below.trans H69.out (Below.mono hbu (Below.size H69.out))))
  have H80 : Hid (Bytes u9 (Off [ga6, (u5.heap.size + 1), u5.heap.size, u3.heap.size, u1.heap.size, w.heap.size]) (.slice A1 X.length c1) X) := Lib.hid ((Bytes.below H70.out hbu (Nat.le_refl _)))
  have H81 : Hid (Bytes u9 (Off [ga6, (u5.heap.size + 1), u5.heap.size, u3.heap.size, u1.heap.size, w.heap.size]) (.slice A2 Y.length c2) Y) := Lib.hid ((Bytes.below H71.out hbu (Nat.le_refl _)))
  have H82 : Hid (AlV u9 (Off [ga6, (u5.heap.size + 1), u5.heap.size, u3.heap.size, u1.heap.size, w.heap.size]) (.agg (alc a.free a.seed a.fresh (.slice Ama a.macs.length cma) (.slice Aba a.boxes.length cba))) a) := Lib.hid ((AlV.below H72.out hbu (Nat.le_refl _)))
  have H83 : Hid (ALRow u9 u1.heap.size a.free a.seed a.fresh (.slice Ama a.macs.length cma) (.slice Aba a.boxes.length cba)) := Lib.hid ((Whole.below H73.out hbu (Whole.lt H73.out)))
  have H84 : Hid (TGRow u9 u3.heap.size K) := Lib.hid ((Whole.below H74.out hbu (Whole.lt H74.out)))
  have H85 : Hid (AlV u9 (Off [ga6, (u5.heap.size + 1), u5.heap.size, u3.heap.size, u1.heap.size, w.heap.size]) (.agg (alc b.free b.seed b.fresh (.slice Amb b.macs.length cmb) (.slice Abb b.boxes.length cbb))) b) := Lib.hid ((AlV.below H75.out hbu (Nat.le_refl _)))
  have H86 : Hid (ALRow u9 u5.heap.size b.free b.seed b.fresh (.slice Amb b.macs.length cmb) (.slice Abb b.boxes.length cbb)) := Lib.hid ((Whole.below H76.out hbu (Whole.lt H76.out)))
  have H87 : Hid (TGRow u9 (u5.heap.size + 1) T) := Lib.hid ((Whole.below H77.out hbu (Whole.lt H77.out)))
  have H88 : Hid (ALRow u9 ga6 d.free d.seed d.fresh (.slice Amd d.macs.length cmd) (.slice Abd d.boxes.length cbd)) := Lib.hid ((Whole.below H78.out hbu (Whole.lt H78.out)))
  clear H69 H70 H71 H72 H73 H74 H75 H76 H77 H78
  clear hbu
  have ks0 : ∀ z0 : Array Value, Whole (u9.alloc (.cells z0 28)) u9.heap.size 28 z0 := fun _ => (Whole.here _ _ _)
  go_upto_region 9 with (with_reducible refine wpList_store_tag rfl _ _ rfl (g := u9.heap.size) rfl rfl (ks0 _) rfl (tag_size hlU) (tag_one _) ?_)
  clear ks0
  rw [ztr_lit]
  obtain ⟨q10, hq⟩ : ∃ q, q = ((u9.alloc (.cells ztr 28)).setRow u9.heap.size (U.map byt).toArray) := ⟨_, rfl⟩
  rw [← hq]
  have hsq10 : u9.heap.size + 1 ≤ q10.heap.size := by rw [hq]; simp
  have H89 : Hid (Below w.heap.size w q10) := Lib.hid (by rw [hq]; exact (below_setRow (Below.trans H79.out (Below.mono (Below.alloc (Below.refl _ _) (Nat.le_refl _) _) (Below.size H79.out))) (by omega) _))
  have H90 : Hid (Bytes q10 (Off [u9.heap.size, ga6, (u5.heap.size + 1), u5.heap.size, u3.heap.size, u1.heap.size, w.heap.size]) (.slice A1 X.length c1) X) := Lib.hid (by rw [hq]; exact (Bytes.store (Bytes.below (Bytes.grow H80.out (by omega)) (Below.alloc (Below.refl _ _) (Nat.le_refl _) _) (Nat.le_refl _)) (by simp) _))
  have H91 : Hid (Bytes q10 (Off [u9.heap.size, ga6, (u5.heap.size + 1), u5.heap.size, u3.heap.size, u1.heap.size, w.heap.size]) (.slice A2 Y.length c2) Y) := Lib.hid (by rw [hq]; exact (Bytes.store (Bytes.below (Bytes.grow H81.out (by omega)) (Below.alloc (Below.refl _ _) (Nat.le_refl _) _) (Nat.le_refl _)) (by simp) _))
  have H92 : Hid (AlV q10 (Off [u9.heap.size, ga6, (u5.heap.size + 1), u5.heap.size, u3.heap.size, u1.heap.size, w.heap.size]) (.agg (alc a.free a.seed a.fresh (.slice Ama a.macs.length cma) (.slice Aba a.boxes.length cba))) a) := Lib.hid (by rw [hq]; exact (AlV.store (AlV.below (AlV.grow H82.out (by omega)) (Below.alloc (Below.refl _ _) (Nat.le_refl _) _) (Nat.le_refl _)) (by simp) _))
  have H93 : Hid (ALRow q10 u1.heap.size a.free a.seed a.fresh (.slice Ama a.macs.length cma) (.slice Aba a.boxes.length cba)) := Lib.hid (by rw [hq]; exact (Whole.setRow_far (Whole.below H83.out (Below.alloc (Below.refl _ _) (Nat.le_refl _) _) (Whole.lt H83.out)) (by omega) _))
  have H94 : Hid (TGRow q10 u3.heap.size K) := Lib.hid (by rw [hq]; exact (Whole.setRow_far (Whole.below H84.out (Below.alloc (Below.refl _ _) (Nat.le_refl _) _) (Whole.lt H84.out)) (by omega) _))
  have H95 : Hid (AlV q10 (Off [u9.heap.size, ga6, (u5.heap.size + 1), u5.heap.size, u3.heap.size, u1.heap.size, w.heap.size]) (.agg (alc b.free b.seed b.fresh (.slice Amb b.macs.length cmb) (.slice Abb b.boxes.length cbb))) b) := Lib.hid (by rw [hq]; exact (AlV.store (AlV.below (AlV.grow H85.out (by omega)) (Below.alloc (Below.refl _ _) (Nat.le_refl _) _) (Nat.le_refl _)) (by simp) _))
  have H96 : Hid (ALRow q10 u5.heap.size b.free b.seed b.fresh (.slice Amb b.macs.length cmb) (.slice Abb b.boxes.length cbb)) := Lib.hid (by rw [hq]; exact (Whole.setRow_far (Whole.below H86.out (Below.alloc (Below.refl _ _) (Nat.le_refl _) _) (Whole.lt H86.out)) (by omega) _))
  have H97 : Hid (TGRow q10 (u5.heap.size + 1) T) := Lib.hid (by rw [hq]; exact (Whole.setRow_far (Whole.below H87.out (Below.alloc (Below.refl _ _) (Nat.le_refl _) _) (Whole.lt H87.out)) (by omega) _))
  have H98 : Hid (ALRow q10 ga6 d.free d.seed d.fresh (.slice Amd d.macs.length cmd) (.slice Abd d.boxes.length cbd)) := Lib.hid (by rw [hq]; exact (Whole.setRow_far (Whole.below H88.out (Below.alloc (Below.refl _ _) (Nat.le_refl _) _) (Whole.lt H88.out)) (by omega) _))
  clear H79 H80 H81 H82 H83 H84 H85 H86 H87 H88
  have H99 : Hid (TGRow q10 u9.heap.size U) := Lib.hid (by rw [hq]; exact (Whole.setRow (Whole.here _ _ _) _))
  clear hq
  have hcl := rmac (m := X) H92.out (by omega) hlK H90.out (by omega)
  obtain ⟨R, hR⟩ : ∃ R, R = aMac a K X := ⟨_, rfl⟩
  have hlV3 : R.2.1.length = 32 := by rw [hR]; exact AlV.mac_len H92.out _ _
  rw [← hR] at hcl
  obtain ⟨h, V3, eh⟩ := R
  have HEh := Lib.hid hR
  clear hR
  dsimp only [AlgR] at hcl hlV3
  go_wp2_with (first
    | (with_reducible refine wpList_load_alg rfl _ rfl rfl H93.out (alc_size _ _ _ _ _) ?_)
    | (with_reducible refine wpList_load_tag rfl _ rfl rfl H94.out (tag_size hlK) ?_))
  refine hcl.mono ?_
  rintro e u11 ⟨⟨x, rfl, hx⟩, hbu⟩
  clear hcl
  obtain ⟨Amh, cmh, Abh, cbh, rfl, hM, hBx, hA⟩ := hx
  have hsu11 : q10.heap.size ≤ u11.heap.size := hbu.size
  have hlast : ∀ y ∈ ([u9.heap.size, ga6, (u5.heap.size + 1), u5.heap.size, u3.heap.size, u1.heap.size, w.heap.size] : List Nat), y < q10.heap.size := by intro y hy; simp at hy; have := (Whole.lt H99.out); omega
  have H100 : Hid (Below w.heap.size w u11) := Lib.hid ((Below.trans H89.out (Below.mono hbu (Below.size H89.out))))
  have H101 : Hid (Bytes u11 (Off [u9.heap.size, ga6, (u5.heap.size + 1), u5.heap.size, u3.heap.size, u1.heap.size, w.heap.size]) (.slice A1 X.length c1) X) := Lib.hid ((Bytes.below H90.out hbu (Nat.le_refl _)))
  have H102 : Hid (Bytes u11 (Off [u9.heap.size, ga6, (u5.heap.size + 1), u5.heap.size, u3.heap.size, u1.heap.size, w.heap.size]) (.slice A2 Y.length c2) Y) := Lib.hid ((Bytes.below H91.out hbu (Nat.le_refl _)))
  have H103 : Hid (AlV u11 (Off [u9.heap.size, ga6, (u5.heap.size + 1), u5.heap.size, u3.heap.size, u1.heap.size, w.heap.size]) (.agg (alc a.free a.seed a.fresh (.slice Ama a.macs.length cma) (.slice Aba a.boxes.length cba))) a) := Lib.hid ((AlV.below H92.out hbu (Nat.le_refl _)))
  have H104 : Hid (ALRow u11 u1.heap.size a.free a.seed a.fresh (.slice Ama a.macs.length cma) (.slice Aba a.boxes.length cba)) := Lib.hid ((Whole.below H93.out hbu (Whole.lt H93.out)))
  have H105 : Hid (TGRow u11 u3.heap.size K) := Lib.hid ((Whole.below H94.out hbu (Whole.lt H94.out)))
  have H106 : Hid (AlV u11 (Off [u9.heap.size, ga6, (u5.heap.size + 1), u5.heap.size, u3.heap.size, u1.heap.size, w.heap.size]) (.agg (alc b.free b.seed b.fresh (.slice Amb b.macs.length cmb) (.slice Abb b.boxes.length cbb))) b) := Lib.hid ((AlV.below H95.out hbu (Nat.le_refl _)))
  have H107 : Hid (ALRow u11 u5.heap.size b.free b.seed b.fresh (.slice Amb b.macs.length cmb) (.slice Abb b.boxes.length cbb)) := Lib.hid ((Whole.below H96.out hbu (Whole.lt H96.out)))
  have H108 : Hid (TGRow u11 (u5.heap.size + 1) T) := Lib.hid ((Whole.below H97.out hbu (Whole.lt H97.out)))
  have H109 : Hid (ALRow u11 ga6 d.free d.seed d.fresh (.slice Amd d.macs.length cmd) (.slice Abd d.boxes.length cbd)) := Lib.hid ((Whole.below H98.out hbu (Whole.lt H98.out)))
  have H110 : Hid (TGRow u11 u9.heap.size U) := Lib.hid ((Whole.below H99.out hbu (Whole.lt H99.out)))
  clear H89 H90 H91 H92 H93 H94 H95 H96 H97 H98 H99
  have H111 : Hid (AlV u11 (Off [u9.heap.size, ga6, (u5.heap.size + 1), u5.heap.size, u3.heap.size, u1.heap.size, w.heap.size]) (.agg (alc h.free h.seed h.fresh (.slice Amh h.macs.length cmh) (.slice Abh h.boxes.length cbh))) h) := Lib.hid (AlV.fresh ⟨Amh, cmh, Abh, cbh, rfl, hM, hBx, hA⟩ hlast)
  clear hM hBx hA hbu hlast
  have hnh : h.macs.length ≤ a.macs.length + 1 := by have := mac_le a K X; rw [← HEh.out] at this; exact this
  have ks0 : ∀ z0 z1 : Array Value, Whole ((u11.alloc (.cells z0 32)).alloc (.cells z1 28)) u11.heap.size 32 z0 := fun _ _ => (Whole.alloc (Whole.here _ _ _) _)
  have ks1 : ∀ z0 z1 : Array Value, Whole (((u11.alloc (.cells z0 32)).alloc (.cells z1 28)).setRow u11.heap.size (alc h.free h.seed h.fresh (.slice Amh h.macs.length cmh) (.slice Abh h.boxes.length cbh))) (u11.heap.size + 1) 28 z1 := fun _ _ => (Whole.setRow_far (Whole.at_ _ _ _ _ (by simp)) (by omega) _)
  go_upto_region 10 with (first
    | (with_reducible refine wpList_store_alg rfl _ _ rfl (g := u11.heap.size) rfl rfl (ks0 _ _) rfl (alc_size _ _ _ _ _) (alc_one _ _ _ _ _ _ _ _ _) ?_)
    | (with_reducible refine wpList_store_tag rfl _ _ rfl (g := (u11.heap.size + 1)) rfl rfl (ks1 _ _) rfl (tag_size hlV3) (tag_one _) ?_))
  clear ks0 ks1
  rw [ztr_lit]
  rw [zar_lit]
  obtain ⟨q12, hq⟩ : ∃ q, q = ((((u11.alloc (.cells zar 32)).alloc (.cells ztr 28)).setRow u11.heap.size (alc h.free h.seed h.fresh (.slice Amh h.macs.length cmh) (.slice Abh h.boxes.length cbh))).setRow (u11.heap.size + 1) (V3.map byt).toArray) := ⟨_, rfl⟩
  rw [← hq]
  have hsq12 : u11.heap.size + 2 ≤ q12.heap.size := by rw [hq]; simp
  have H112 : Hid (Below w.heap.size w q12) := Lib.hid (by rw [hq]; exact (below_setRow (below_setRow (Below.trans H100.out (Below.mono (Below.alloc (Below.alloc (Below.refl _ _) (Nat.le_refl _) _) (by simp) _) (Below.size H100.out))) (by omega) _) (by omega) _))
  have H113 : Hid (Bytes q12 (Off [(u11.heap.size + 1), u11.heap.size, u9.heap.size, ga6, (u5.heap.size + 1), u5.heap.size, u3.heap.size, u1.heap.size, w.heap.size]) (.slice A1 X.length c1) X) := Lib.hid (by rw [hq]; exact (Bytes.store (Bytes.store (Bytes.below (Bytes.grow (Bytes.grow H101.out (by omega)) (by omega)) (Below.alloc (Below.alloc (Below.refl _ _) (Nat.le_refl _) _) (by simp) _) (Nat.le_refl _)) (by simp) _) (by simp) _))
  have H114 : Hid (Bytes q12 (Off [(u11.heap.size + 1), u11.heap.size, u9.heap.size, ga6, (u5.heap.size + 1), u5.heap.size, u3.heap.size, u1.heap.size, w.heap.size]) (.slice A2 Y.length c2) Y) := Lib.hid (by rw [hq]; exact (Bytes.store (Bytes.store (Bytes.below (Bytes.grow (Bytes.grow H102.out (by omega)) (by omega)) (Below.alloc (Below.alloc (Below.refl _ _) (Nat.le_refl _) _) (by simp) _) (Nat.le_refl _)) (by simp) _) (by simp) _))
  have H115 : Hid (AlV q12 (Off [(u11.heap.size + 1), u11.heap.size, u9.heap.size, ga6, (u5.heap.size + 1), u5.heap.size, u3.heap.size, u1.heap.size, w.heap.size]) (.agg (alc a.free a.seed a.fresh (.slice Ama a.macs.length cma) (.slice Aba a.boxes.length cba))) a) := Lib.hid (by rw [hq]; exact (AlV.store (AlV.store (AlV.below (AlV.grow (AlV.grow H103.out (by omega)) (by omega)) (Below.alloc (Below.alloc (Below.refl _ _) (Nat.le_refl _) _) (by simp) _) (Nat.le_refl _)) (by simp) _) (by simp) _))
  have H116 : Hid (ALRow q12 u1.heap.size a.free a.seed a.fresh (.slice Ama a.macs.length cma) (.slice Aba a.boxes.length cba)) := Lib.hid (by rw [hq]; exact (Whole.setRow_far (Whole.setRow_far (Whole.below H104.out (Below.alloc (Below.alloc (Below.refl _ _) (Nat.le_refl _) _) (by simp) _) (Whole.lt H104.out)) (by omega) _) (by omega) _))
  have H117 : Hid (TGRow q12 u3.heap.size K) := Lib.hid (by rw [hq]; exact (Whole.setRow_far (Whole.setRow_far (Whole.below H105.out (Below.alloc (Below.alloc (Below.refl _ _) (Nat.le_refl _) _) (by simp) _) (Whole.lt H105.out)) (by omega) _) (by omega) _))
  have H118 : Hid (AlV q12 (Off [(u11.heap.size + 1), u11.heap.size, u9.heap.size, ga6, (u5.heap.size + 1), u5.heap.size, u3.heap.size, u1.heap.size, w.heap.size]) (.agg (alc b.free b.seed b.fresh (.slice Amb b.macs.length cmb) (.slice Abb b.boxes.length cbb))) b) := Lib.hid (by rw [hq]; exact (AlV.store (AlV.store (AlV.below (AlV.grow (AlV.grow H106.out (by omega)) (by omega)) (Below.alloc (Below.alloc (Below.refl _ _) (Nat.le_refl _) _) (by simp) _) (Nat.le_refl _)) (by simp) _) (by simp) _))
  have H119 : Hid (ALRow q12 u5.heap.size b.free b.seed b.fresh (.slice Amb b.macs.length cmb) (.slice Abb b.boxes.length cbb)) := Lib.hid (by rw [hq]; exact (Whole.setRow_far (Whole.setRow_far (Whole.below H107.out (Below.alloc (Below.alloc (Below.refl _ _) (Nat.le_refl _) _) (by simp) _) (Whole.lt H107.out)) (by omega) _) (by omega) _))
  have H120 : Hid (TGRow q12 (u5.heap.size + 1) T) := Lib.hid (by rw [hq]; exact (Whole.setRow_far (Whole.setRow_far (Whole.below H108.out (Below.alloc (Below.alloc (Below.refl _ _) (Nat.le_refl _) _) (by simp) _) (Whole.lt H108.out)) (by omega) _) (by omega) _))
  have H121 : Hid (ALRow q12 ga6 d.free d.seed d.fresh (.slice Amd d.macs.length cmd) (.slice Abd d.boxes.length cbd)) := Lib.hid (by rw [hq]; exact (Whole.setRow_far (Whole.setRow_far (Whole.below H109.out (Below.alloc (Below.alloc (Below.refl _ _) (Nat.le_refl _) _) (by simp) _) (Whole.lt H109.out)) (by omega) _) (by omega) _))
  have H122 : Hid (TGRow q12 u9.heap.size U) := Lib.hid (by rw [hq]; exact (Whole.setRow_far (Whole.setRow_far (Whole.below H110.out (Below.alloc (Below.alloc (Below.refl _ _) (Nat.le_refl _) _) (by simp) _) (Whole.lt H110.out)) (by omega) _) (by omega) _))
  have H123 : Hid (AlV q12 (Off [(u11.heap.size + 1), u11.heap.size, u9.heap.size, ga6, (u5.heap.size + 1), u5.heap.size, u3.heap.size, u1.heap.size, w.heap.size]) (.agg (alc h.free h.seed h.fresh (.slice Amh h.macs.length cmh) (.slice Abh h.boxes.length cbh))) h) := Lib.hid (by rw [hq]; exact (AlV.store (AlV.store (AlV.below (AlV.grow (AlV.grow H111.out (by omega)) (by omega)) (Below.alloc (Below.alloc (Below.refl _ _) (Nat.le_refl _) _) (by simp) _) (Nat.le_refl _)) (by simp) _) (by simp) _))
  clear H100 H101 H102 H103 H104 H105 H106 H107 H108 H109 H110 H111
  have H124 : Hid (ALRow q12 u11.heap.size h.free h.seed h.fresh (.slice Amh h.macs.length cmh) (.slice Abh h.boxes.length cbh)) := Lib.hid (by rw [hq]; exact (Whole.setRow_far (Whole.setRow (Whole.alloc (Whole.here _ _ _) _) _) (by omega) _))
  have H125 : Hid (TGRow q12 (u11.heap.size + 1) V3) := Lib.hid (by rw [hq]; exact (Whole.setRow (Whole.setRow_far (Whole.at_ _ _ _ _ (by simp)) (by omega) _) _))
  clear hq
  obtain ⟨rfl, -, rfl, e1, -, -, -⟩ := found_all HGa.out h4a hqX HEb.out HEU.out (rfl : ((aMac b K X).1, (aMac b K X).2.1, (aMac b K X).2.2) = aMac b K X)
  have hbh := HEb.out.trans HEh.out.symm
  injection hbh with e2 e3
  injection e3 with e3 e4
  have hok := mac_ok (K := K) (m := Y ++ latw) (a := a) (by have : latw.length = 5 := rfl; rw [List.length_append]; omega) (by omega)
  rw [← HEc.out] at hok
  have hcl1 := mac_more (K := K) (m := Y ++ latw) (a := a) (by have : latw.length = 5 := rfl; rw [List.length_append]; omega) (by omega)
  rw [← HEc.out] at hcl1
  have hok2 := mac_ok (K := K) (m := Y ++ stiw) (a := c) (by have : stiw.length = 11 := rfl; rw [List.length_append]; omega) (by omega)
  rw [← HEd.out] at hok2
  have hcl2 := mac_more (K := K) (m := Y ++ stiw) (a := c) (by have : stiw.length = 11 := rfl; rw [List.length_append]; omega) (by omega)
  rw [← HEd.out] at hcl2
  dsimp only at hok hok2 hcl1 hcl2
  subst e1 hok hok2 e2
  have hge : (a.macs.length : Int) ≤ (d.macs.length : Int) := by omega
  clear e3 e4 hcl1 hcl2
  have kq := fun W => eql_tag (D := true) hlU hlU (by simp) W
  have hcl := rsamea H118.out H123.out
  go_wp2_with (first
    | (with_reducible refine wpList_load_wanted_at (by with_unfolding_all rfl) 28 _ rfl (u5.heap.size + 1) 0 rfl _ _ (TGRow.range H120.out) Tryd.underlying28 rfl (tag_sz hlU) ?_)
    | (with_reducible refine wpList_load_wanted_at (by with_unfolding_all rfl) 28 _ rfl u9.heap.size 0 rfl _ _ (TGRow.range H122.out) Tryd.underlying28 rfl (tag_sz hlU) ?_)
    | (with_reducible refine wpList_load_alg_w (by with_unfolding_all rfl) _ rfl rfl H119.out ?_)
    | (with_reducible refine wpList_load_alg_w (by with_unfolding_all rfl) _ rfl rfl H124.out ?_))
  refine hcl.mono ?_
  rintro e u13 ⟨rfl, hbu⟩
  clear hcl kq
  have hsu13 : q12.heap.size ≤ u13.heap.size := hbu.size
  have H126 : Hid (Below w.heap.size w u13) := Lib.hid ((Below.trans H112.out (Below.mono hbu (Below.size H112.out))))
  have H127 : Hid (Bytes u13 (Off [(u11.heap.size + 1), u11.heap.size, u9.heap.size, ga6, (u5.heap.size + 1), u5.heap.size, u3.heap.size, u1.heap.size, w.heap.size]) (.slice A1 X.length c1) X) := Lib.hid ((Bytes.below H113.out hbu (Nat.le_refl _)))
  have H128 : Hid (Bytes u13 (Off [(u11.heap.size + 1), u11.heap.size, u9.heap.size, ga6, (u5.heap.size + 1), u5.heap.size, u3.heap.size, u1.heap.size, w.heap.size]) (.slice A2 Y.length c2) Y) := Lib.hid ((Bytes.below H114.out hbu (Nat.le_refl _)))
  have H129 : Hid (AlV u13 (Off [(u11.heap.size + 1), u11.heap.size, u9.heap.size, ga6, (u5.heap.size + 1), u5.heap.size, u3.heap.size, u1.heap.size, w.heap.size]) (.agg (alc a.free a.seed a.fresh (.slice Ama a.macs.length cma) (.slice Aba a.boxes.length cba))) a) := Lib.hid ((AlV.below H115.out hbu (Nat.le_refl _)))
  have H130 : Hid (ALRow u13 u1.heap.size a.free a.seed a.fresh (.slice Ama a.macs.length cma) (.slice Aba a.boxes.length cba)) := Lib.hid ((Whole.below H116.out hbu (Whole.lt H116.out)))
  have H131 : Hid (TGRow u13 u3.heap.size K) := Lib.hid ((Whole.below H117.out hbu (Whole.lt H117.out)))
  have H132 : Hid (AlV u13 (Off [(u11.heap.size + 1), u11.heap.size, u9.heap.size, ga6, (u5.heap.size + 1), u5.heap.size, u3.heap.size, u1.heap.size, w.heap.size]) (.agg (alc b.free b.seed b.fresh (.slice Amb b.macs.length cmb) (.slice Abb b.boxes.length cbb))) b) := Lib.hid ((AlV.below H118.out hbu (Nat.le_refl _)))
  have H133 : Hid (ALRow u13 u5.heap.size b.free b.seed b.fresh (.slice Amb b.macs.length cmb) (.slice Abb b.boxes.length cbb)) := Lib.hid ((Whole.below H119.out hbu (Whole.lt H119.out)))
  have H134 : Hid (TGRow u13 (u5.heap.size + 1) U) := Lib.hid ((Whole.below H120.out hbu (Whole.lt H120.out)))
  have H135 : Hid (ALRow u13 ga6 d.free d.seed d.fresh (.slice Amd d.macs.length cmd) (.slice Abd d.boxes.length cbd)) := Lib.hid ((Whole.below H121.out hbu (Whole.lt H121.out)))
  have H136 : Hid (TGRow u13 u9.heap.size U) := Lib.hid ((Whole.below H122.out hbu (Whole.lt H122.out)))
  have H137 : Hid (AlV u13 (Off [(u11.heap.size + 1), u11.heap.size, u9.heap.size, ga6, (u5.heap.size + 1), u5.heap.size, u3.heap.size, u1.heap.size, w.heap.size]) (.agg (alc b.free b.seed b.fresh (.slice Amh b.macs.length cmh) (.slice Abh b.boxes.length cbh))) b) := Lib.hid ((AlV.below H123.out hbu (Nat.le_refl _)))
  have H138 : Hid (ALRow u13 u11.heap.size b.free b.seed b.fresh (.slice Amh b.macs.length cmh) (.slice Abh b.boxes.length cbh)) := Lib.hid ((Whole.below H124.out hbu (Whole.lt H124.out)))
  have H139 : Hid (TGRow u13 (u11.heap.size + 1) V3) := Lib.hid ((Whole.below H125.out hbu (Whole.lt H125.out)))
  clear H112 H113 H114 H115 H116 H117 H118 H119 H120 H121 H122 H123 H124 H125
  clear hbu
  have k1 := (ALRow.cells H135.out).2.2.1
  have k2 := (ALRow.cells H130.out).2.2.1
  have hcl := aawk u13 (Tables.below HT.out (Nat.le_refl _) H126.out)
  go_wp2_with fail
  refine hcl.mono ?_
  rintro e w9 ⟨rfl, hb9⟩
  clear hcl k1 k2
  have HG := Lib.hid (Below.trans H126.out (Below.mono hb9 (Below.size H126.out)))
  go_wp2
  go_ret
  exact ⟨rfl, HG.out⟩
end Go.Proofs.YtiikhjifjdpgdaaDoor
