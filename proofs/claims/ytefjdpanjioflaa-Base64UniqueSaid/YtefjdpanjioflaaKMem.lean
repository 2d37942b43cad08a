/-
  Bytes as integers; a block that is known whole; what a call that only makes blocks leaves.
-/
import Derived.Laws.BitsAllLaws
import Derived.Laws.BitsLemmas
import Derived.IntWalk
import Derived.Test.YtefjdpanjioflaaChecked
import Derived.WalkKit
import Derived.WalkLawsBesides
import Derived.Deep.WholeRow
import Derived.Deep.MidRow
import Derived.Deep.Draws
import Derived.Lib.Hide
namespace Go.Proofs.Ytefjdpanjioflaa
namespace Sh
open Go
abbrev B8 := BitVec 8
/-- The integer that stands for a byte. -/
@[irreducible] def bv (x : B8) : Int := (x.toNat : Int)
theorem bv_nonneg (x : B8) : 0 ≤ bv x := by unfold bv; exact Int.natCast_nonneg _
theorem bv_le (x : B8) : bv x ≤ 255 := by unfold bv; have := x.isLt; omega
theorem bv_inj {x y : B8} (h : bv x = bv y) : x = y := by unfold bv at h; exact BitVec.eq_of_toNat_eq (by omega)
theorem bv_ofNat (n : Nat) : bv (BitVec.ofNat 8 n) = ((n % 256 : Nat) : Int) := by unfold bv; rw [BitVec.toNat_ofNat]
end Sh
namespace Leaf
end Leaf
open Go Go.RowKit Sh Leaf

theorem ret_int {k : IntKind} {a b : Int} (h : a = b) : Ending.returned (.int k a) = .returned (.int k b) := by rw [h]
theorem ofInt_bv (x : B8) : BitVec.ofInt 8 (bv x) = x := by
  unfold bv; rw [BitVec.ofInt_natCast]; simp
theorem wrap_bv (x : B8) : IntKind.u8.wrap (bv x) = bv x := by
  have h1 := bv_nonneg x
  have h2 := bv_le x
  have e : ∀ z : Int, 0 ≤ z → z ≤ 255 → IntKind.u8.wrap z = z := fun z h1 h2 => by
    rw [IntKind.wrap_u8]; omega
  exact e _ h1 h2
theorem wrap_toNat8 (x : B8) : IntKind.u8.wrap (x.toNat : Int) = bv x := by have := wrap_bv x; unfold bv at this ⊢; exact this
theorem bits_xor_bv (x y : B8) : bits .xor .u8 (bv x) (bv y) = bv (x ^^^ y) := by
  show IntKind.u8.wrap ((BitVec.ofInt 8 (bv x) ^^^ BitVec.ofInt 8 (bv y)).toNat : Int) = _
  rw [ofInt_bv, ofInt_bv]; exact wrap_toNat8 _
theorem bits_or_bv (x y : B8) : bits .or .u8 (bv x) (bv y) = bv (x ||| y) := by
  show IntKind.u8.wrap ((BitVec.ofInt 8 (bv x) ||| BitVec.ofInt 8 (bv y)).toNat : Int) = _
  rw [ofInt_bv, ofInt_bv]; exact wrap_toNat8 _
theorem bv_zero : bv 0 = 0 := by unfold bv; rfl
theorem bv_lit (n : Nat) (h : n < 256) : bv (BitVec.ofNat 8 n) = (n : Int) := by rw [bv_ofNat]; omega
abbrev byt (x : B8) : Value := .int .u8 (bv x)
@[irreducible] def brow (n : Nat) (f : Nat → B8) : Array Value := ((List.range n).map fun j => byt (f j)).toArray
theorem brow_size (n : Nat) (f : Nat → B8) : (brow n f).size = n := by unfold brow; simp
theorem brow_get (n : Nat) (f : Nat → B8) (j : Nat) (h : j < n) : (brow n f)[j]? = some (byt (f j)) := by unfold brow; simp [h]
theorem brow_congr {n : Nat} {f g : Nat → B8} (h : ∀ j, j < n → f j = g j) : brow n f = brow n g := by
  unfold brow
  congr 1
  exact List.map_congr_left fun j hj => by rw [h j (List.mem_range.1 hj)]
theorem brow_set (n : Nat) (f : Nat → B8) (k : Nat) (x : B8) (hk : k < n) : (brow n f).setIfInBounds k (byt x) = brow n (fun j => if j = k then x else f j) := by
  apply Array.ext_getElem?
  intro i
  rw [Array.getElem?_setIfInBounds, brow_size]
  by_cases hi : k = i
  · subst hi; simp [hk, brow_get]
  · rw [if_neg hi]
    by_cases hn : i < n
    · rw [brow_get n _ i hn, brow_get n _ i hn, if_neg (fun e => hi e.symm)]
    · rw [Array.getElem?_eq_none (by rw [brow_size]; omega), Array.getElem?_eq_none (by rw [brow_size]; omega)]
theorem brow_one (n : Nat) (f : Nat → B8) : (brow n f).all (·.oneCell') = true := by
  rw [Array.all_eq_true_iff_forall_mem]
  intro v hv
  unfold brow at hv
  simp at hv
  obtain ⟨j, _, rfl⟩ := hv
  rfl
theorem brow_list (l : List B8) : brow l.length (fun j => l.getD j 0) = (l.map byt).toArray := by
  apply Array.ext_getElem?
  intro i
  by_cases h : i < l.length
  · rw [brow_get _ _ _ h]; simp [h, List.getD_eq_getElem?_getD]
  · rw [Array.getElem?_eq_none (by rw [brow_size]; omega), Array.getElem?_eq_none (by simp; omega)]
theorem brow_zero (n : Nat) : brow n (fun _ => 0) = Array.replicate n (.int .u8 0) := by
  have h0 : bv 0 = 0 := by unfold bv; rfl
  unfold brow
  apply Array.ext_getElem?
  intro i
  by_cases h : i < n
  · simp [h]; exact h0
  · simp [h]

/-- Block g is just the cells cs of type t, and none of them is frozen. -/
def Whole (w : World) (g : Nat) (t : TypeId) (cs : Array Value) : Prop := w.heap[g]? = some (.cells cs t (0, 0))
section
variable {w w' : World} {g : Nat} {t : TypeId} {cs : Array Value}
theorem Whole.lt (h : Whole w g t cs) : g < w.heap.size := by
  unfold Whole at h
  rcases Nat.lt_or_ge g w.heap.size with hl | hl
  · exact hl
  · rw [Array.getElem?_eq_none hl] at h; cases h
theorem Whole.eq (h : Whole w g t cs) : w.heap[g]? = some (.cells cs t (0, 0)) := h
theorem Whole.cell (h : Whole w g t cs) (i : Nat) : w.cell? ⟨g, i, none⟩ = cs[i]? := cell_of_row w g i cs t (0, 0) h
theorem Whole.frozen (h : Whole w g t cs) (i : Nat) : w.frozen? ⟨g, i, none⟩ = false := frozen_of_row w g i cs t h
theorem Whole.alloc (h : Whole w g t cs) (o : Obj) : Whole (w.alloc o) g t cs := (Below.heap_alloc w o g h.lt).trans h
theorem Whole.set (h : Whole w g t cs) (i : Nat) (v : Value) : Whole (w.setCell ⟨g, i, none⟩ v) g t (cs.setIfInBounds i v) := heap_setCell_same w g i cs t v h
theorem Whole.far (h : Whole w g t cs) {a : Addr} (ha : g ≠ a.block) (v : Value) : Whole (w.setCell a v) g t cs := (heap_setCell_other w a g v ha).trans h
theorem Whole.below {B : Nat} (h : Whole w g t cs) (hb : Below B w w') (hg : g < B) : Whole w' g t cs := (hb.block g hg).trans h
theorem Whole.drewN (h : Whole w g t cs) (n : Nat) : Whole (w.drewN n) g t cs := h
theorem Whole.drew (h : Whole w g t cs) : Whole w.drew g t cs := h
theorem Whole.here (w : World) (t : TypeId) (cs : Array Value) : Whole (w.alloc (.cells cs t)) w.heap.size t cs := heap_alloc_new w _
theorem Whole.at_ (w : World) (t : TypeId) (cs : Array Value) (g : Nat) (hg : g = w.heap.size) : Whole (w.alloc (.cells cs t)) g t cs := by subst hg; exact Whole.here w t cs
end
theorem bcell {W w1 : World} (hb : Below W.heap.size W w1) : (∀ b o, b < W.heap.size → w1.cell? ⟨b, o, none⟩ = W.cell? ⟨b, o, none⟩) ∧ (∀ b o, b < W.heap.size → w1.frozen? ⟨b, o, none⟩ = W.frozen? ⟨b, o, none⟩) :=
  ⟨fun b o h => hb.cell (p := ⟨b, o, none⟩) h, fun b o h => hb.frozen (p := ⟨b, o, none⟩) h⟩
theorem below_drewN {B : Nat} {a w : World} (h : Below B a w) (n : Nat) : Below B a (w.drewN n) := ⟨h.os, h.tape, h.output, h.size, h.block⟩
theorem below_setRow {B : Nat} {a w : World} (h : Below B a w) {g : Nat} (hg : B ≤ g) (cs : Array Value) : Below B a (w.setRow g cs) :=
  h.trans ⟨rfl, rfl, rfl, by simp, fun k hk => setRow_other w g k cs (by omega)⟩
theorem Whole.setRow {w : World} {g : Nat} {t : TypeId} {cs : Array Value} (h : Whole w g t cs) (cs' : Array Value) : Whole (w.setRow g cs') g t cs' := setRow_heap w g cs cs' t _ h
theorem Whole.setRow_far {w : World} {g g' : Nat} {t : TypeId} {cs : Array Value} (h : Whole w g t cs) (hg : g ≠ g') (cs' : Array Value) : Whole (w.setRow g' cs') g t cs := (setRow_other w g' g cs' hg).trans h

/-! ### A part of an array -/
section
variable {P : Program}
theorem run_sizeOf_one {e : TypeId} (hc : (P.info? e).map (·.size) = some 1) (W : World) : (sizeOf e).run P W = .ok 1 W := by
  cases hq : P.info? e with
  | none => simp [hq] at hc
  | some i => simp [hq] at hc; simp [sizeOf, typeInfo, hq, hc]
theorem run_sliceAt_arr {t e : TypeId} {n : Nat} (ht : P.underlying t = some (.array n e)) (hc : (P.info? e).map (·.size) = some 1) (g l h : Nat) (h1 : l < h) (h2 : h ≤ n) (W : World) :
    (Instr.sliceAt t (.pointer (some ⟨g, 0, none⟩)) (some (.int .i64 (l : Int))) (some (.int .i64 (h : Int))) none).run P W = .ok (.slice (some ⟨g, l, none⟩) (h - l) (n - l)) W := by
  have e1 := run_sliceBound (P := P) W .i64 (h : Int) n .sliceAlen (by omega) (by omega)
  have e2 := run_sliceBound (P := P) W .i64 (l : Int) h .sliceB (by omega) (by omega)
  have ha : (⟨g, 0, none⟩ : Addr).add l = ⟨g, l, none⟩ := by rw [Addr.add_mid]; simp
  have hne : ¬ n = l := by omega
  simp [Instr.sliceAt, run_underlying ht, Instr.sureAddr, Instr.sliceBounds, e1, e2, run_sizeOf_one hc, ha, hne]
theorem run_arrayAt {t e : TypeId} {n : Nat} (ht : P.underlying t = some (.array n e)) (a : Option Addr) (len c : Nat) (h : n ≤ len) (W : World) :
    (Instr.arrayAt t (.slice a len c)).run P W = .ok (.pointer a) W := by
  have hn : ¬ len < n := by omega
  simp [Instr.arrayAt, run_underlying ht, hn]
theorem run_index_agg {t e : TypeId} {n : Nat} {d : TypeDesc} (ht : P.underlying t = some (.array n e)) (he : P.underlying e = some d) (hd : d.isRow = false)
    (hc : (P.info? e).map (·.size) = some 1) (cs : Array Value) (k : Nat) (v : Value) (hk : k < n) (hv : cs[k]? = some v) (W : World) :
    (Instr.index t (.agg cs) (.int .i64 (k : Int))).run P W = .ok v W := by
  have hagg : (isAgg e).run P W = .ok false W := by
    unfold isAgg
    rw [Sem.run_bind, run_underlying he W]
    cases d <;> simp_all
  simp [Instr.index, asIntOf, run_underlying ht, hk, run_sizeOf_one hc, Go.part, hagg, hv]
theorem wpList_build_as {ops : Array Oper} {rest : List Oper} {o : Oper} {a : Act} {w : World} {Q : Exit → Act → World → Prop} (hg : o.guard = none) (t : TypeId) (parts : Array (Nat × Operand)) (ho : o.op = .build t parts)
    (cs : Array Value) (hv : P.built t (parts.map fun (i, x) => (i, a.eval x)).toList = some cs) (h : wpList P ops Q rest (a.put o.dst (.agg cs)) w) : wpList P ops Q (o :: rest) a w :=
  wpList_build hg t parts ho (by rw [hv]; rfl) (by rw [hv]; exact h)
end
/-- A whole array as a slice. -/
theorem run_sliceAt_whole {P : Program} {t e : TypeId} {n : Nat} (ht : P.underlying t = some (.array n e)) (hc : (P.info? e).map (·.size) = some 1) (g : Nat) (W : World) :
    (Instr.sliceAt t (.pointer (some ⟨g, 0, none⟩)) none none none).run P W = .ok (.slice (some ⟨g, 0, none⟩) n n) W := by
  have ha : (⟨g, 0, none⟩ : Addr).add 0 = ⟨g, 0, none⟩ := by rw [Addr.add_mid]
  simp [Instr.sliceAt, run_underlying ht, Instr.sureAddr, Instr.sliceBounds, run_sizeOf_one hc, ha]
theorem Whole.range {w : World} {g : Nat} {t : TypeId} {cs : List Value} (h : Whole w g t cs.toArray) : w.rangeAt g 0 cs := fun j v hj => by
  rw [Nat.zero_add, h.cell, List.getElem?_toArray]
  exact hj
theorem wpList_load_wanted {ops : Array Oper} {rest : List Oper} {o : Oper} {a : Act} {w : World} {Q : Exit → Act → World → Prop} (hgd : Region.wanted o (yielded ops a.tmps) = true) (ty : TypeId) (x : Operand) (ho : o.op = .load ty x)
    (g : Nat) (hx : a.eval x = .pointer (some ⟨g, 0, none⟩)) (cs : List Value) (d : TypeDesc) (hc : w.rangeAt g 0 cs)
    (hu : Try.prog.underlying ty = some d) (hd : d.isRow = true) (hi : (Try.prog.info? ty).map (·.size) = some cs.length)
    (h : wpList Try.prog ops Q rest (a.put o.dst (.agg cs.toArray)) w) : wpList Try.prog ops Q (o :: rest) a w := by
  show if Region.wanted o (yielded ops a.tmps) then _ else _
  rw [if_pos hgd]
  left
  exact wp_load_mid ty x ho g 0 hx cs d hc hu hd hi h
end Go.Proofs.Ytefjdpanjioflaa
