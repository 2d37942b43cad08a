/-
  KMem
  KOt
  KNum
  PsnSpec
-/
import Derived.Laws.BitsAllLaws
import Derived.Laws.BitsLemmas
import Derived.IntWalk
import Derived.Test.YteekdhcffiaaaaaChecked
import Derived.WalkKit
import Derived.WalkLawsBesides
import Derived.Deep.WholeRow
import Derived.Deep.MidRow
import Derived.Deep.Draws
import Derived.Lib.Hide
namespace Go.Proofs.Yteekdhcffiaaaaa
namespace Sh
open Go
abbrev B8 := BitVec 8
@[irreducible] def bv (x : B8) : Int := (x.toNat : Int)
theorem bv_ofNat (n : Nat) : bv (BitVec.ofNat 8 n) = ((n % 256 : Nat) : Int) := by unfold bv; rw [BitVec.toNat_ofNat]
end Sh
namespace Leaf
end Leaf
open Go Go.RowKit Sh Leaf

theorem bv_zero : bv 0 = 0 := by unfold bv; rfl
theorem bv_lit (n : Nat) (h : n < 256) : bv (BitVec.ofNat 8 n) = (n : Int) := by rw [bv_ofNat]; omega
abbrev byt (x : B8) : Value := .int .u8 (bv x)
@[irreducible] def brow (n : Nat) (f : Nat → B8) : Array Value := ((List.range n).map fun j => byt (f j)).toArray
def Whole (w : World) (g : Nat) (t : TypeId) (cs : Array Value) : Prop := w.heap[g]? = some (.cells cs t (0, 0))
section
variable {w w' : World} {g : Nat} {t : TypeId} {cs : Array Value}
theorem Whole.lt (h : Whole w g t cs) : g < w.heap.size := by
  unfold Whole at h
  rcases Nat.lt_or_ge g w.heap.size with hl | hl
  · exact hl
  · rw [Array.getElem?_eq_none hl] at h; cases h
theorem Whole.cell (h : Whole w g t cs) (i : Nat) : w.cell? ⟨g, i, none⟩ = cs[i]? := cell_of_row w g i cs t (0, 0) h
theorem Whole.frozen (h : Whole w g t cs) (i : Nat) : w.frozen? ⟨g, i, none⟩ = false := frozen_of_row w g i cs t h
theorem Whole.alloc (h : Whole w g t cs) (o : Obj) : Whole (w.alloc o) g t cs := (Below.heap_alloc w o g h.lt).trans h
theorem Whole.set (h : Whole w g t cs) (i : Nat) (v : Value) : Whole (w.setCell ⟨g, i, none⟩ v) g t (cs.setIfInBounds i v) := heap_setCell_same w g i cs t v h
theorem Whole.far (h : Whole w g t cs) {a : Addr} (ha : g ≠ a.block) (v : Value) : Whole (w.setCell a v) g t cs := (heap_setCell_other w a g v ha).trans h
theorem Whole.below {B : Nat} (h : Whole w g t cs) (hb : Below B w w') (hg : g < B) : Whole w' g t cs := (hb.block g hg).trans h
theorem Whole.drewN (h : Whole w g t cs) (n : Nat) : Whole (w.drewN n) g t cs := h
theorem Whole.drew (h : Whole w g t cs) : Whole w.drew g t cs := h
theorem Whole.here (w : World) (t : TypeId) (cs : Array Value) : Whole (w.alloc (.cells cs t)) w.heap.size t cs := heap_alloc_new w _
theorem Whole.at_ (w : World) (t : TypeId) (cs : Array Value) (g : Nat) (hg : g = w.heap.size) : Whole (w.alloc (.cells cs t)) g t cs := by subst hg; exact Whole.here w t cs
end
theorem below_drewN {B : Nat} {a w : World} (h : Below B a w) (n : Nat) : Below B a (w.drewN n) := ⟨h.os, h.tape, h.output, h.size, h.block⟩
theorem below_setRow {B : Nat} {a w : World} (h : Below B a w) {g : Nat} (hg : B ≤ g) (cs : Array Value) : Below B a (w.setRow g cs) :=
  h.trans ⟨rfl, rfl, rfl, by simp, fun k hk => setRow_other w g k cs (by omega)⟩
theorem Whole.setRow {w : World} {g : Nat} {t : TypeId} {cs : Array Value} (h : Whole w g t cs) (cs' : Array Value) : Whole (w.setRow g cs') g t cs' := setRow_heap w g cs cs' t _ h
theorem Whole.setRow_far {w : World} {g g' : Nat} {t : TypeId} {cs : Array Value} (h : Whole w g t cs) (hg : g ≠ g') (cs' : Array Value) : Whole (w.setRow g' cs') g t cs := (setRow_other w g' g cs' hg).trans h

section
variable {P : Program}
end
theorem Whole.range {w : World} {g : Nat} {t : TypeId} {cs : List Value} (h : Whole w g t cs.toArray) : w.rangeAt g 0 cs := fun j v hj => by
  rw [Nat.zero_add, h.cell, List.getElem?_toArray]
  exact hj
end Go.Proofs.Yteekdhcffiaaaaa
namespace Go.Proofs.Yteekdhcffiaaaaa
open Go Go.RowKit Sh Leaf

structure Oth (g : Nat) (w w' : World) : Prop where
  oth : ∀ b t cs, b ≠ g → ∀ {fr : Nat × Nat}, w.heap[b]? = some (.cells cs t fr) → w'.heap[b]? = some (.cells cs t fr)
  zero : ∀ v, w.cell? ⟨g, 0, none⟩ = some v → w'.cell? ⟨g, 0, none⟩ = some v
instance {g : Nat} {w w' : World} : CoeFun (Oth g w w') (fun _ => ∀ b t cs, b ≠ g → ∀ {fr : Nat × Nat}, w.heap[b]? = some (.cells cs t fr) → w'.heap[b]? = some (.cells cs t fr)) := ⟨Oth.oth⟩
theorem lt_of_heap {w : World} {b : Nat} {o : Obj} (h : w.heap[b]? = some o) : b < w.heap.size := (Array.getElem?_eq_some_iff.1 h).1
theorem lt_of_cell {w : World} {b i : Nat} {v : Value} (h : w.cell? ⟨b, i, none⟩ = some v) : b < w.heap.size := World.block_lt_of_cell? w _ h
theorem Oth.trans {g : Nat} {a b c : World} (h : Oth g a b) (k : Oth g b c) : Oth g a c := ⟨fun x t cs hx _ hw => k.oth x t cs hx (h.oth x t cs hx hw), fun v hv => k.zero v (h.zero v hv)⟩
theorem Oth.refl (g : Nat) (w : World) : Oth g w w := ⟨fun _ _ _ _ _ h => h, fun _ h => h⟩
theorem Oth.drew {g : Nat} {w w' : World} (h : Oth g w w') : Oth g w w'.drew := ⟨fun x t cs hx _ hw => h.oth x t cs hx hw, fun v hv => h.zero v hv⟩
theorem Oth.below (g : Nat) {B : Nat} {w w' : World} (h : Below B w w') (hB : w.heap.size ≤ B := by exact Nat.le_refl _) : Oth g w w' :=
  ⟨fun b _ _ _ _ hw => (h.block b (by have := lt_of_heap hw; omega)).trans hw, fun _ hv => (h.cell (p := ⟨g, 0, none⟩) (by have := lt_of_cell hv; show g < B; omega)).trans hv⟩
theorem Oth.alloc (g : Nat) (w : World) (o : Obj) : Oth g w (w.alloc o) := Oth.below g ((Below.refl w.heap.size w).alloc (Nat.le_refl _) o)
theorem Oth.cell {g : Nat} {w w' : World} (h : Oth g w w') {a : Addr} {v : Value} (ha : a.block ≠ g) (hv : w.cell? a = some v) : w'.cell? a = some v := by
  unfold World.cell? at hv ⊢
  cases hb : w.heap[a.block]? with
  | none => rw [hb] at hv; cases hv
  | some o =>
    cases o with
    | cells c t fr =>
      rw [hb] at hv
      rw [h.oth a.block t c ha hb]
      exact hv
    | _ => rw [hb] at hv; cases hv
end Go.Proofs.Yteekdhcffiaaaaa
namespace Go.Proofs.Yteekdhcffiaaaaa
open Go Go.RowKit Sh Leaf
namespace Sh

def nmok (s : List B8) : Prop := 1 ≤ s.length ∧ s.length ≤ 16 ∧ ∀ c ∈ s, 97 ≤ c.toNat ∧ c.toNat ≤ 122
instance (s : List B8) : Decidable (nmok s) := by unfold nmok; infer_instance
def be8 (m : Nat) : List B8 := [BitVec.ofNat 8 (m / 2 ^ 56), BitVec.ofNat 8 (m / 2 ^ 48), BitVec.ofNat 8 (m / 2 ^ 40), BitVec.ofNat 8 (m / 2 ^ 32), BitVec.ofNat 8 (m / 2 ^ 24), BitVec.ofNat 8 (m / 2 ^ 16), BitVec.ofNat 8 (m / 2 ^ 8), BitVec.ofNat 8 m]
def beval (l : List B8) : Nat := l.foldl (fun a c => 256 * a + c.toNat) 0
end Sh
end Go.Proofs.Yteekdhcffiaaaaa
namespace Go.Proofs.Yteekdhcffiaaaaa
open Go Go.RowKit Sh Leaf

structure Psn where
  name : List B8
  born : Int
deriving DecidableEq
def pfind (l : List Psn) (n : List B8) : Option Psn := l.find? fun x => decide (x.name = n)
theorem pfind_drop {l : List Psn} {j : Nat} {x : Psn} (h : l[j]? = some x) (n : List B8) : pfind (l.drop j) n = if x.name = n then some x else pfind (l.drop (j + 1)) n := by
  have hj := (List.getElem?_eq_some_iff.1 h).1
  rw [List.drop_eq_getElem_cons hj]
  have e : l[j] = x := (List.getElem?_eq_some_iff.1 h).2
  rw [e]
  unfold pfind
  rw [List.find?_cons]
  by_cases hx : x.name = n
  · simp [hx]
  · simp [hx]
theorem pfind_end (l : List Psn) (n : List B8) : pfind (l.drop l.length) n = none := by
  rw [List.drop_length]; rfl
def age (born minute : Int) : Int := if 0 ≤ minute ∧ minute ≤ 67108864 ∧ -67108864 ≤ born ∧ born ≤ minute then min ((minute - born) / 525600) 150 else 0
theorem age_zero {z m : Int} (h : ¬ (0 ≤ m ∧ m ≤ 67108864 ∧ -67108864 ≤ z ∧ z ≤ m)) : age z m = 0 := by unfold age; rw [if_neg h]
theorem age_some {z m : Int} (h : 0 ≤ m ∧ m ≤ 67108864 ∧ -67108864 ≤ z ∧ z ≤ m) : age z m = min ((m - z) / 525600) 150 := by unfold age; rw [if_pos h]
end Go.Proofs.Yteekdhcffiaaaaa
