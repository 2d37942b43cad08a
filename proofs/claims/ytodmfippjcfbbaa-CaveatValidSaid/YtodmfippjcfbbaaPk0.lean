/-
  Bytes as integers; a block that is known whole; what a call that only makes blocks leaves.
  What a call leaves that writes block g alone: blocks of cells elsewhere stay, and the first cell of g (Oth).
  Plain words for layer 3: the bytes of a number, and the number at the beginning of bytes. No function of a program is named here.
  Plain words for layer 4: a field, the field at the beginning of bytes, fields joined, the fields of which bytes consist. No function of a program is named here.
  Texts in plain words: numbers in decimal, a text cut at a byte, parts joined by a byte.
  Names and numbers of eight bytes in plain words.
  Layer 6 in plain words: predicates, their texts, their encodings.
  Layer 6 in plain words: what is read from bytes is what was written.
  Layer 12 in plain words: caveats and their encodings.
  A field of a struct value.
-/
import Derived.Laws.BitsAllLaws
import Derived.Laws.BitsLemmas
import Derived.IntWalk
import Derived.Test.YtodmfippjcfbbaaChecked
import Derived.WalkKit
import Derived.WalkLawsBesides
import Derived.Deep.WholeRow
import Derived.Deep.MidRow
import Derived.Deep.Draws
import Derived.Lib.Hide
namespace Go.Proofs.Ytodmfippjcfbbaa
namespace Sh
open Go
abbrev B8 := BitVec 8
/-- The integer that stands for a byte. -/
@[irreducible] def bv (x : B8) : Int := (x.toNat : Int)
theorem bv_nonneg (x : B8) : 0 ≤ bv x := by unfold bv; exact Int.natCast_nonneg _
theorem bv_le (x : B8) : bv x ≤ 255 := by unfold bv; have := x.isLt; omega
theorem bv_inj {x y : B8} (h : bv x = bv y) : x = y := by unfold bv at h; exact BitVec.eq_of_toNat_eq (by omega)
theorem bv_ofNat (n : Nat) : bv (BitVec.ofNat 8 n) = ((n % 256 : Nat) : Int) := by unfold bv; rw [BitVec.toNat_ofNat]
end Sh
namespace Leaf
end Leaf
open Go Go.RowKit Sh Leaf

theorem ret_int {k : IntKind} {a b : Int} (h : a = b) : Ending.returned (.int k a) = .returned (.int k b) := by rw [h]
theorem ofInt_bv (x : B8) : BitVec.ofInt 8 (bv x) = x := by
  unfold bv; rw [BitVec.ofInt_natCast]; simp
theorem wrap_bv (x : B8) : IntKind.u8.wrap (bv x) = bv x := by
  have h1 := bv_nonneg x
  have h2 := bv_le x
  have e : ∀ z : Int, 0 ≤ z → z ≤ 255 → IntKind.u8.wrap z = z := fun z h1 h2 => by
    rw [IntKind.wrap_u8]; omega
  exact e _ h1 h2
theorem wrap_toNat8 (x : B8) : IntKind.u8.wrap (x.toNat : Int) = bv x := by have := wrap_bv x; unfold bv at this ⊢; exact this
theorem bits_xor_bv (x y : B8) : bits .xor .u8 (bv x) (bv y) = bv (x ^^^ y) := by
  show IntKind.u8.wrap ((BitVec.ofInt 8 (bv x) ^^^ BitVec.ofInt 8 (bv y)).toNat : Int) = _
  rw [ofInt_bv, ofInt_bv]; exact wrap_toNat8 _
theorem bits_or_bv (x y : B8) : bits .or .u8 (bv x) (bv y) = bv (x ||| y) := by
  show IntKind.u8.wrap ((BitVec.ofInt 8 (bv x) ||| BitVec.ofInt 8 (bv y)).toNat : Int) = _
  rw [ofInt_bv, ofInt_bv]; exact wrap_toNat8 _
theorem bv_zero : bv 0 = 0 := by unfold bv; rfl
theorem bv_lit (n : Nat) (h : n < 256) : bv (BitVec.ofNat 8 n) = (n : Int) := by rw [bv_ofNat]; omega
abbrev byt (x : B8) : Value := .int .u8 (bv x)
@[irreducible] def brow (n : Nat) (f : Nat → B8) : Array Value := ((List.range n).map fun j => byt (f j)).toArray
theorem brow_size (n : Nat) (f : Nat → B8) : (brow n f).size = n := by unfold brow; simp
theorem brow_get (n : Nat) (f : Nat → B8) (j : Nat) (h : j < n) : (brow n f)[j]? = some (byt (f j)) := by unfold brow; simp [h]
theorem brow_congr {n : Nat} {f g : Nat → B8} (h : ∀ j, j < n → f j = g j) : brow n f = brow n g := by
  unfold brow
  congr 1
  exact List.map_congr_left fun j hj => by rw [h j (List.mem_range.1 hj)]
theorem brow_set (n : Nat) (f : Nat → B8) (k : Nat) (x : B8) (hk : k < n) : (brow n f).setIfInBounds k (byt x) = brow n (fun j => if j = k then x else f j) := by
  apply Array.ext_getElem?
  intro i
  rw [Array.getElem?_setIfInBounds, brow_size]
  by_cases hi : k = i
  · subst hi; simp [hk, brow_get]
  · rw [if_neg hi]
    by_cases hn : i < n
    · rw [brow_get n _ i hn, brow_get n _ i hn, if_neg (fun e => hi e.symm)]
    · rw [Array.getElem?_eq_none (by rw [brow_size]; omega), Array.getElem?_eq_none (by rw [brow_size]; omega)]
theorem brow_one (n : Nat) (f : Nat → B8) : (brow n f).all (·.oneCell') = true := by
  rw [Array.all_eq_true_iff_forall_mem]
  intro v hv
  unfold brow at hv
  simp at hv
  obtain ⟨j, _, rfl⟩ := hv
  rfl
theorem brow_list (l : List B8) : brow l.length (fun j => l.getD j 0) = (l.map byt).toArray := by
  apply Array.ext_getElem?
  intro i
  by_cases h : i < l.length
  · rw [brow_get _ _ _ h]; simp [h, List.getD_eq_getElem?_getD]
  · rw [Array.getElem?_eq_none (by rw [brow_size]; omega), Array.getElem?_eq_none (by simp; omega)]
theorem brow_zero (n : Nat) : brow n (fun _ => 0) = Array.replicate n (.int .u8 0) := by
  have h0 : bv 0 = 0 := by unfold bv; rfl
  unfold brow
  apply Array.ext_getElem?
  intro i
  by_cases h : i < n
  · simp [h]; exact h0
  · simp [h]

/-- Block g is just the cells cs of type t, and none of them is frozen. -/
def Whole (w : World) (g : Nat) (t : TypeId) (cs : Array Value) : Prop := w.heap[g]? = some (.cells cs t (0, 0))
section
variable {w w' : World} {g : Nat} {t : TypeId} {cs : Array Value}
theorem Whole.lt (h : Whole w g t cs) : g < w.heap.size := by
  unfold Whole at h
  rcases Nat.lt_or_ge g w.heap.size with hl | hl
  · exact hl
  · rw [Array.getElem?_eq_none hl] at h; cases h
theorem Whole.eq (h : Whole w g t cs) : w.heap[g]? = some (.cells cs t (0, 0)) := h
theorem Whole.cell (h : Whole w g t cs) (i : Nat) : w.cell? ⟨g, i, none⟩ = cs[i]? := cell_of_row w g i cs t (0, 0) h
theorem Whole.frozen (h : Whole w g t cs) (i : Nat) : w.frozen? ⟨g, i, none⟩ = false := frozen_of_row w g i cs t h
theorem Whole.alloc (h : Whole w g t cs) (o : Obj) : Whole (w.alloc o) g t cs := (Below.heap_alloc w o g h.lt).trans h
theorem Whole.set (h : Whole w g t cs) (i : Nat) (v : Value) : Whole (w.setCell ⟨g, i, none⟩ v) g t (cs.setIfInBounds i v) := heap_setCell_same w g i cs t v h
theorem Whole.far (h : Whole w g t cs) {a : Addr} (ha : g ≠ a.block) (v : Value) : Whole (w.setCell a v) g t cs := (heap_setCell_other w a g v ha).trans h
theorem Whole.below {B : Nat} (h : Whole w g t cs) (hb : Below B w w') (hg : g < B) : Whole w' g t cs := (hb.block g hg).trans h
theorem Whole.drewN (h : Whole w g t cs) (n : Nat) : Whole (w.drewN n) g t cs := h
theorem Whole.drew (h : Whole w g t cs) : Whole w.drew g t cs := h
theorem Whole.here (w : World) (t : TypeId) (cs : Array Value) : Whole (w.alloc (.cells cs t)) w.heap.size t cs := heap_alloc_new w _
theorem Whole.at_ (w : World) (t : TypeId) (cs : Array Value) (g : Nat) (hg : g = w.heap.size) : Whole (w.alloc (.cells cs t)) g t cs := by subst hg; exact Whole.here w t cs
end
theorem bcell {W w1 : World} (hb : Below W.heap.size W w1) : (∀ b o, b < W.heap.size → w1.cell? ⟨b, o, none⟩ = W.cell? ⟨b, o, none⟩) ∧ (∀ b o, b < W.heap.size → w1.frozen? ⟨b, o, none⟩ = W.frozen? ⟨b, o, none⟩) :=
  ⟨fun b o h => hb.cell (p := ⟨b, o, none⟩) h, fun b o h => hb.frozen (p := ⟨b, o, none⟩) h⟩
theorem below_drewN {B : Nat} {a w : World} (h : Below B a w) (n : Nat) : Below B a (w.drewN n) := ⟨h.os, h.tape, h.output, h.size, h.block⟩
theorem below_setRow {B : Nat} {a w : World} (h : Below B a w) {g : Nat} (hg : B ≤ g) (cs : Array Value) : Below B a (w.setRow g cs) :=
  h.trans ⟨rfl, rfl, rfl, by simp, fun k hk => setRow_other w g k cs (by omega)⟩
theorem Whole.setRow {w : World} {g : Nat} {t : TypeId} {cs : Array Value} (h : Whole w g t cs) (cs' : Array Value) : Whole (w.setRow g cs') g t cs' := setRow_heap w g cs cs' t _ h
theorem Whole.setRow_far {w : World} {g g' : Nat} {t : TypeId} {cs : Array Value} (h : Whole w g t cs) (hg : g ≠ g') (cs' : Array Value) : Whole (w.setRow g' cs') g t cs := (setRow_other w g' g cs' hg).trans h

/-! ### A part of an array -/
section
variable {P : Program}
theorem run_sizeOf_one {e : TypeId} (hc : (P.info? e).map (·.size) = some 1) (W : World) : (sizeOf e).run P W = .ok 1 W := by
  cases hq : P.info? e with
  | none => simp [hq] at hc
  | some i => simp [hq] at hc; simp [sizeOf, typeInfo, hq, hc]
theorem run_sliceAt_arr {t e : TypeId} {n : Nat} (ht : P.underlying t = some (.array n e)) (hc : (P.info? e).map (·.size) = some 1) (g l h : Nat) (h1 : l < h) (h2 : h ≤ n) (W : World) :
    (Instr.sliceAt t (.pointer (some ⟨g, 0, none⟩)) (some (.int .i64 (l : Int))) (some (.int .i64 (h : Int))) none).run P W = .ok (.slice (some ⟨g, l, none⟩) (h - l) (n - l)) W := by
  have e1 := run_sliceBound (P := P) W .i64 (h : Int) n .sliceAlen (by omega) (by omega)
  have e2 := run_sliceBound (P := P) W .i64 (l : Int) h .sliceB (by omega) (by omega)
  have ha : (⟨g, 0, none⟩ : Addr).add l = ⟨g, l, none⟩ := by rw [Addr.add_mid]; simp
  have hne : ¬ n = l := by omega
  simp [Instr.sliceAt, run_underlying ht, Instr.sureAddr, Instr.sliceBounds, e1, e2, run_sizeOf_one hc, ha, hne]
theorem run_arrayAt {t e : TypeId} {n : Nat} (ht : P.underlying t = some (.array n e)) (a : Option Addr) (len c : Nat) (h : n ≤ len) (W : World) :
    (Instr.arrayAt t (.slice a len c)).run P W = .ok (.pointer a) W := by
  have hn : ¬ len < n := by omega
  simp [Instr.arrayAt, run_underlying ht, hn]
theorem run_index_agg {t e : TypeId} {n : Nat} {d : TypeDesc} (ht : P.underlying t = some (.array n e)) (he : P.underlying e = some d) (hd : d.isRow = false)
    (hc : (P.info? e).map (·.size) = some 1) (cs : Array Value) (k : Nat) (v : Value) (hk : k < n) (hv : cs[k]? = some v) (W : World) :
    (Instr.index t (.agg cs) (.int .i64 (k : Int))).run P W = .ok v W := by
  have hagg : (isAgg e).run P W = .ok false W := by
    unfold isAgg
    rw [Sem.run_bind, run_underlying he W]
    cases d <;> simp_all
  simp [Instr.index, asIntOf, run_underlying ht, hk, run_sizeOf_one hc, Go.part, hagg, hv]
theorem wpList_build_as {ops : Array Oper} {rest : List Oper} {o : Oper} {a : Act} {w : World} {Q : Exit → Act → World → Prop} (hg : o.guard = none) (t : TypeId) (parts : Array (Nat × Operand)) (ho : o.op = .build t parts)
    (cs : Array Value) (hv : P.built t (parts.map fun (i, x) => (i, a.eval x)).toList = some cs) (h : wpList P ops Q rest (a.put o.dst (.agg cs)) w) : wpList P ops Q (o :: rest) a w :=
  wpList_build hg t parts ho (by rw [hv]; rfl) (by rw [hv]; exact h)
end
/-- A whole array as a slice. -/
theorem run_sliceAt_whole {P : Program} {t e : TypeId} {n : Nat} (ht : P.underlying t = some (.array n e)) (hc : (P.info? e).map (·.size) = some 1) (g : Nat) (W : World) :
    (Instr.sliceAt t (.pointer (some ⟨g, 0, none⟩)) none none none).run P W = .ok (.slice (some ⟨g, 0, none⟩) n n) W := by
  have ha : (⟨g, 0, none⟩ : Addr).add 0 = ⟨g, 0, none⟩ := by rw [Addr.add_mid]
  simp [Instr.sliceAt, run_underlying ht, Instr.sureAddr, Instr.sliceBounds, run_sizeOf_one hc, ha]
theorem Whole.range {w : World} {g : Nat} {t : TypeId} {cs : List Value} (h : Whole w g t cs.toArray) : w.rangeAt g 0 cs := fun j v hj => by
  rw [Nat.zero_add, h.cell, List.getElem?_toArray]
  exact hj
theorem wpList_load_wanted {ops : Array Oper} {rest : List Oper} {o : Oper} {a : Act} {w : World} {Q : Exit → Act → World → Prop} (hgd : Region.wanted o (yielded ops a.tmps) = true) (ty : TypeId) (x : Operand) (ho : o.op = .load ty x)
    (g : Nat) (hx : a.eval x = .pointer (some ⟨g, 0, none⟩)) (cs : List Value) (d : TypeDesc) (hc : w.rangeAt g 0 cs)
    (hu : Try.prog.underlying ty = some d) (hd : d.isRow = true) (hi : (Try.prog.info? ty).map (·.size) = some cs.length)
    (h : wpList Try.prog ops Q rest (a.put o.dst (.agg cs.toArray)) w) : wpList Try.prog ops Q (o :: rest) a w := by
  show if Region.wanted o (yielded ops a.tmps) then _ else _
  rw [if_pos hgd]
  left
  exact wp_load_mid ty x ho g 0 hx cs d hc hu hd hi h
end Go.Proofs.Ytodmfippjcfbbaa
namespace Go.Proofs.Ytodmfippjcfbbaa
open Go Go.RowKit Sh Leaf

/-- Blocks of cells other than g stay, and the first cell of g stays. -/
structure Oth (g : Nat) (w w' : World) : Prop where
  oth : ∀ b t cs, b ≠ g → ∀ {fr : Nat × Nat}, w.heap[b]? = some (.cells cs t fr) → w'.heap[b]? = some (.cells cs t fr)
  zero : ∀ v, w.cell? ⟨g, 0, none⟩ = some v → w'.cell? ⟨g, 0, none⟩ = some v
instance {g : Nat} {w w' : World} : CoeFun (Oth g w w') (fun _ => ∀ b t cs, b ≠ g → ∀ {fr : Nat × Nat}, w.heap[b]? = some (.cells cs t fr) → w'.heap[b]? = some (.cells cs t fr)) := ⟨Oth.oth⟩
theorem lt_of_heap {w : World} {b : Nat} {o : Obj} (h : w.heap[b]? = some o) : b < w.heap.size := (Array.getElem?_eq_some_iff.1 h).1
theorem lt_of_cell {w : World} {b i : Nat} {v : Value} (h : w.cell? ⟨b, i, none⟩ = some v) : b < w.heap.size := World.block_lt_of_cell? w _ h
theorem Oth.trans {g : Nat} {a b c : World} (h : Oth g a b) (k : Oth g b c) : Oth g a c := ⟨fun x t cs hx _ hw => k.oth x t cs hx (h.oth x t cs hx hw), fun v hv => k.zero v (h.zero v hv)⟩
theorem Oth.refl (g : Nat) (w : World) : Oth g w w := ⟨fun _ _ _ _ _ h => h, fun _ h => h⟩
theorem Oth.drew {g : Nat} {w w' : World} (h : Oth g w w') : Oth g w w'.drew := ⟨fun x t cs hx _ hw => h.oth x t cs hx hw, fun v hv => h.zero v hv⟩
theorem Oth.below (g : Nat) {B : Nat} {w w' : World} (h : Below B w w') (hB : w.heap.size ≤ B := by exact Nat.le_refl _) : Oth g w w' :=
  ⟨fun b _ _ _ _ hw => (h.block b (by have := lt_of_heap hw; omega)).trans hw, fun _ hv => (h.cell (p := ⟨g, 0, none⟩) (by have := lt_of_cell hv; show g < B; omega)).trans hv⟩
theorem Oth.alloc (g : Nat) (w : World) (o : Obj) : Oth g w (w.alloc o) := Oth.below g ((Below.refl w.heap.size w).alloc (Nat.le_refl _) o)
theorem Oth.cell {g : Nat} {w w' : World} (h : Oth g w w') {a : Addr} {v : Value} (ha : a.block ≠ g) (hv : w.cell? a = some v) : w'.cell? a = some v := by
  unfold World.cell? at hv ⊢
  cases hb : w.heap[a.block]? with
  | none => rw [hb] at hv; cases hv
  | some o =>
    cases o with
    | cells c t fr =>
      rw [hb] at hv
      rw [h.oth a.block t c ha hb]
      exact hv
    | _ => rw [hb] at hv; cases hv
end Go.Proofs.Ytodmfippjcfbbaa
namespace Go.Proofs.Ytodmfippjcfbbaa
open Go Go.RowKit Sh Leaf

/-- The bytes of a number. -/
def enc (n : Nat) : List B8 := if n < 128 then [BitVec.ofNat 8 n] else BitVec.ofNat 8 (n % 128 + 128) :: enc (n / 128)
termination_by n
decreasing_by omega
theorem enc_lt {n : Nat} (h : n < 128) : enc n = [BitVec.ofNat 8 n] := by rw [enc, if_pos h]
theorem enc_ge {n : Nat} (h : ¬ n < 128) : enc n = BitVec.ofNat 8 (n % 128 + 128) :: enc (n / 128) := by rw [enc, if_neg h]
theorem enc_pos (n : Nat) : 0 < (enc n).length := by
  by_cases h : n < 128
  · rw [enc_lt h]; simp
  · rw [enc_ge h]; simp
theorem enc_len (k : Nat) : ∀ n, n < 128 ^ (k + 1) → (enc n).length ≤ k + 1 := by
  induction k with
  | zero => intro n h; rw [enc_lt (by omega)]; simp
  | succ k ih =>
    intro n h
    by_cases h1 : n < 128
    · rw [enc_lt h1]; simp
    · rw [enc_ge h1]
      have : n / 128 < 128 ^ (k + 1) := by rw [Nat.pow_succ] at h; omega
      have := ih _ this
      simp; omega
theorem enc_len7 {n : Nat} (h : n ≤ 281474976710656) : (enc n).length ≤ 7 := enc_len 6 n (by omega)
theorem enc_mono : ∀ b a : Nat, a ≤ b → (enc a).length ≤ (enc b).length := by
  intro b
  induction b using Nat.strongRecOn with
  | _ b ih =>
    intro a h
    by_cases h1 : a < 128
    · rw [enc_lt h1]; have := enc_pos b; simp; omega
    · rw [enc_ge h1, enc_ge (show ¬ b < 128 by omega)]
      have := ih (b / 128) (by omega) (a / 128) (by omega)
      simp; omega

/-- The number whose groups the bytes are, the least significant one first. -/
def val : List B8 → Nat
  | [] => 0
  | x :: l => x.toNat % 128 + 128 * val l
theorem val_snoc (l : List B8) (x : B8) : val (l ++ [x]) = val l + 128 ^ l.length * (x.toNat % 128) := by
  induction l with
  | nil => simp [val]
  | cons y l ih => simp only [List.cons_append, val, ih, List.length_cons, Nat.pow_succ, Nat.mul_add]; rw [Nat.mul_comm (128 ^ l.length) 128, Nat.mul_assoc]; omega
theorem val_lt (l : List B8) : val l < 128 ^ l.length := by
  induction l with
  | nil => simp [val]
  | cons y l ih => simp only [val, List.length_cons, Nat.pow_succ]; omega

/-- How many of the first seven bytes have the bit 128, up to the first one that has it not. -/
def lead : Nat → List B8 → Nat
  | 0, _ => 0
  | _, [] => 0
  | k + 1, x :: l => if 128 ≤ x.toNat then lead k l + 1 else 0
theorem lead_le : ∀ (m : Nat) (l : List B8), lead m l ≤ m ∧ lead m l ≤ l.length
  | 0, l => by simp [lead]
  | m + 1, [] => by simp [lead]
  | m + 1, x :: l => by
    have := lead_le m l
    simp only [lead, List.length_cons]
    split <;> omega
theorem lead_of : ∀ (m : Nat) (l : List B8) (k : Nat), k ≤ m → k ≤ l.length → (∀ j (h : j < l.length), j < k → 128 ≤ l[j].toNat) → (k < m → ∀ h : k < l.length, l[k].toNat < 128) → lead m l = k
  | 0, l, k, h, _, _, _ => by simp [lead]; omega
  | m + 1, [], k, _, h, _, _ => by simp at h; simp [lead, h]
  | m + 1, x :: l, 0, _, _, _, h => by
    have := h (by omega) (by simp)
    simp at this
    simp [lead]; omega
  | m + 1, x :: l, k + 1, h1, h2, h3, h4 => by
    have h0 := h3 0 (by simp) (by omega)
    simp at h0
    simp only [lead, if_pos h0]
    rw [lead_of m l k (by omega) (by simpa using h2) (fun j hj hk => by have := h3 (j + 1) (by simpa using hj) (by omega); rwa [List.getElem_cons_succ] at this) (fun hk hl => by have := h4 (by omega) (by simpa using hl); rwa [List.getElem_cons_succ] at this)]
theorem lead_ge : ∀ (m : Nat) (l : List B8) (j : Nat) (h : j < l.length), j < lead m l → 128 ≤ l[j].toNat
  | 0, l, j, h, hj => by simp [lead] at hj
  | m + 1, [], j, h, hj => by simp [lead] at hj
  | m + 1, x :: l, j, h, hj => by
    simp only [lead] at hj
    split at hj
    · cases j with
      | zero => simpa
      | succ j => simpa using lead_ge m l j (by simpa using h) (by omega)
    · omega
theorem lead_stop : ∀ (m : Nat) (l : List B8) (h : lead m l < l.length), lead m l < m → l[lead m l].toNat < 128
  | 0, l, h, hj => by simp [lead] at hj
  | m + 1, [], h, hj => by simp [lead] at h
  | m + 1, x :: l, h, hj => by
    by_cases hx : 128 ≤ x.toNat
    · have e : lead (m + 1) (x :: l) = lead m l + 1 := by simp [lead, hx]
      have := lead_stop m l (by rw [e] at h; simpa using h) (by rw [e] at hj; omega)
      simp only [e]
      simpa using this
    · have e : lead (m + 1) (x :: l) = 0 := by simp [lead, hx]
      simp only [e]
      simp; omega

/-- The number at the beginning of bytes, how many bytes it has, and the error. -/
def rd (l : List B8) : Nat × Nat × Nat :=
  if lead 7 l = 7 then (0, 0, 5)
  else if lead 7 l = l.length then (0, 0, 3)
  else if 0 < lead 7 l ∧ (l.getD (lead 7 l) 0).toNat = 0 then (0, 0, 5)
  else if 281474976710656 < val (l.take (lead 7 l + 1)) then (0, 0, 1)
  else (val (l.take (lead 7 l + 1)), lead 7 l + 1, 0)
theorem rd_form7 {l : List B8} {k : Nat} (h : lead 7 l = k) (h7 : k = 7) : rd l = (0, 0, 5) := by unfold rd; rw [h, if_pos h7]
theorem rd_short {l : List B8} {k : Nat} (h : lead 7 l = k) (h7 : k ≠ 7) (hl : k = l.length) : rd l = (0, 0, 3) := by unfold rd; rw [h, if_neg h7, if_pos hl]
theorem rd_form0 {l : List B8} {k : Nat} (h : lead 7 l = k) (h7 : k ≠ 7) (hl : k < l.length) (h0 : 0 < k) (hx : l[k].toNat = 0) : rd l = (0, 0, 5) := by
  unfold rd
  rw [h, if_neg h7, if_neg (by omega), if_pos ⟨h0, by simpa [List.getD_eq_getElem?_getD, hl] using hx⟩]
theorem rd_range {l : List B8} {k : Nat} (h : lead 7 l = k) (h7 : k ≠ 7) (hl : k < l.length) (hx : ¬ (0 < k ∧ l[k].toNat = 0)) (hv : 281474976710656 < val (l.take (k + 1))) : rd l = (0, 0, 1) := by
  unfold rd
  rw [h, if_neg h7, if_neg (by omega), if_neg (by simpa [List.getD_eq_getElem?_getD, hl] using hx), if_pos hv]
theorem rd_ok {l : List B8} {k : Nat} (h : lead 7 l = k) (h7 : k ≠ 7) (hl : k < l.length) (hx : ¬ (0 < k ∧ l[k].toNat = 0)) (hv : ¬ 281474976710656 < val (l.take (k + 1))) : rd l = (val (l.take (k + 1)), k + 1, 0) := by
  unfold rd
  rw [h, if_neg h7, if_neg (by omega), if_neg (by simpa [List.getD_eq_getElem?_getD, hl] using hx), if_neg hv]
theorem take_snoc {l : List B8} {k : Nat} (hl : k < l.length) : l.take (k + 1) = l.take k ++ [l[k]] := by rw [List.take_add_one, List.getElem?_eq_getElem hl]; rfl
theorem val_take {l : List B8} {k : Nat} (hl : k < l.length) : val (l.take (k + 1)) = val (l.take k) + 128 ^ k * (l[k].toNat % 128) := by
  rw [take_snoc hl, val_snoc, List.length_take, Nat.min_eq_left (by omega)]
theorem val_take_lt (l : List B8) (k : Nat) : val (l.take k) < 128 ^ k := by
  have h := val_lt (l.take k)
  refine Nat.lt_of_lt_of_le h (Nat.pow_le_pow_right (by omega) (by simp; omega))

/-- What was written is read. -/
theorem val_enc : ∀ n : Nat, val (enc n) = n := by
  intro n
  induction n using Nat.strongRecOn with
  | _ n ih =>
    by_cases h : n < 128
    · rw [enc_lt h]; simp [val]; omega
    · rw [enc_ge h]
      simp only [val]
      rw [ih (n / 128) (by omega)]
      simp; omega
theorem enc_get : ∀ (n : Nat) (j : Nat) (h : j < (enc n).length), (j + 1 < (enc n).length → 128 ≤ (enc n)[j].toNat) ∧ (j + 1 = (enc n).length → (enc n)[j].toNat < 128 ∧ (0 < j → (enc n)[j].toNat ≠ 0)) := by
  intro n
  induction n using Nat.strongRecOn with
  | _ n ih =>
    intro j h
    by_cases hn : n < 128
    · simp only [enc_lt hn] at h ⊢
      have : j = 0 := by simpa using h
      subst this
      simp; omega
    · simp only [enc_ge hn] at h ⊢
      cases j with
      | zero =>
        have := enc_pos (n / 128)
        refine ⟨fun _ => by simp; omega, fun h => ?_⟩
        simp only [List.length_cons] at h
        omega
      | succ j =>
        have hj : j < (enc (n / 128)).length := by simpa using h
        have := ih (n / 128) (by omega) j hj
        simp only [List.length_cons, List.getElem_cons_succ]
        refine ⟨fun h => this.1 (by omega), fun h => ⟨(this.2 (by omega)).1, fun _ => ?_⟩⟩
        by_cases hj0 : 0 < j
        · exact (this.2 (by omega)).2 hj0
        · have hj1 : j = 0 := by omega
          subst hj1
          have hl : (enc (n / 128)).length = 1 := by omega
          by_cases hm : n / 128 < 128
          · simp only [enc_lt hm]; simp; omega
          · rw [enc_ge hm] at hl
            have := enc_pos (n / 128 / 128)
            simp at hl; simp [hl] at this
theorem rd_enc (n : Nat) (hn : n ≤ 281474976710656) (t : List B8) : rd (enc n ++ t) = (n, (enc n).length, 0) := by
  have hp := enc_pos n
  have h7 := enc_len7 hn
  have hg : ∀ j (h : j < (enc n).length), (enc n ++ t)[j]'(by simp; omega) = (enc n)[j] := fun j h => List.getElem_append_left h
  have hlead : lead 7 (enc n ++ t) = (enc n).length - 1 := by
    refine lead_of _ _ _ (by omega) (by simp; omega) (fun j h hj => ?_) (fun _ h => ?_)
    · rw [hg j (by omega)]; exact (enc_get n j (by omega)).1 (by omega)
    · rw [hg _ (by omega)]; exact ((enc_get n _ (by omega)).2 (by omega)).1
  have ht : (enc n ++ t).take ((enc n).length - 1 + 1) = enc n := by rw [Nat.sub_add_cancel hp]; exact List.take_left
  rw [rd_ok hlead (by omega) (by simp; omega) (fun h => ?_) (by rw [ht, val_enc]; omega), ht, val_enc, Nat.sub_add_cancel hp]
  rw [hg _ (by omega)] at h
  exact ((enc_get n _ (by omega)).2 (by omega)).2 h.1 h.2
/-- What is read is written as the same bytes. -/
theorem enc_val : ∀ (l : List B8) (x : B8), (∀ y ∈ l, 128 ≤ y.toNat) → x.toNat < 128 → (0 < l.length → x.toNat ≠ 0) → enc (val (l ++ [x])) = l ++ [x]
  | [], x, _, hx, _ => by
    simp only [List.nil_append, val]
    rw [enc_lt (by omega), Nat.mod_eq_of_lt hx]
    simp
  | y :: l, x, h, hx, h0 => by
    have hy := h y (by simp)
    have hlt := y.isLt
    have hpos : 0 < val (l ++ [x]) := by
      rw [val_snoc, Nat.mod_eq_of_lt hx]
      have : 0 < 128 ^ l.length * x.toNat := Nat.mul_pos (Nat.pow_pos (by omega)) (by have := h0 (by simp); omega)
      omega
    have ih := enc_val l x (fun z hz => h z (by simp [hz])) hx (fun _ => h0 (by simp))
    simp only [List.cons_append, val]
    rw [enc_ge (by omega)]
    have e1 : (y.toNat % 128 + 128 * val (l ++ [x])) / 128 = val (l ++ [x]) := by omega
    have e2 : BitVec.ofNat 8 ((y.toNat % 128 + 128 * val (l ++ [x])) % 128 + 128) = y := by
      apply BitVec.eq_of_toNat_eq
      rw [BitVec.toNat_ofNat]
      omega
    rw [e1, e2, ih]
theorem rd_unique {l : List B8} {n k : Nat} (h : rd l = (n, k, 0)) : k ≤ l.length ∧ n ≤ 281474976710656 ∧ enc n = l.take k := by
  have hle := lead_le 7 l
  unfold rd at h
  split at h
  · simp at h
  split at h
  · simp at h
  split at h
  · simp at h
  split at h
  · simp at h
  rename_i h7 hl hx hv
  simp only [Prod.mk.injEq, and_true] at h
  obtain ⟨rfl, rfl⟩ := h
  have hlt : lead 7 l < l.length := by omega
  refine ⟨by omega, by omega, ?_⟩
  rw [take_snoc hlt]
  refine enc_val _ _ (fun y hy => ?_) (lead_stop 7 l hlt (by omega)) (fun h0 hz => hx ⟨?_, ?_⟩)
  · obtain ⟨j, hj, rfl⟩ := List.getElem_of_mem hy
    rw [List.getElem_take]
    exact lead_ge 7 l j (by simp at hj; omega) (by simp at hj; omega)
  · simp at h0; omega
  · simpa [List.getD_eq_getElem?_getD, hlt] using hz
theorem rd_err {l : List B8} {n k e : Nat} (h : rd l = (n, k, e)) (he : e ≠ 0) : n = 0 ∧ k = 0 := by
  unfold rd at h
  (repeat' split at h) <;> simp at h <;> omega
end Go.Proofs.Ytodmfippjcfbbaa
namespace Go.Proofs.Ytodmfippjcfbbaa
open Go Go.RowKit Sh Leaf

/-- A field: the number of its bytes, and the bytes. -/
def fld (x : List B8) : List B8 := enc x.length ++ x
theorem fld_pos (x : List B8) : 0 < (fld x).length := by have := enc_pos x.length; simp [fld]; omega
theorem fld_len {x : List B8} (h : x.length ≤ 281474976710656) : (fld x).length ≤ x.length + 7 := by have := enc_len7 h; simp [fld]; omega

/-- The field at the beginning of bytes, how many bytes it has with its length, and the error. -/
def rdf (b : List B8) : List B8 × Nat × Nat :=
  if (rd b).2.2 ≠ 0 then ([], 0, (rd b).2.2)
  else if 1024 < (rd b).1 then ([], 0, 2)
  else if b.length - (rd b).2.1 < (rd b).1 then ([], 0, 3)
  else ((b.drop (rd b).2.1).take (rd b).1, (rd b).2.1 + (rd b).1, 0)
theorem rdf_e {b : List B8} {n k e : Nat} (h : rd b = (n, k, e)) (he : e ≠ 0) : rdf b = ([], 0, e) := by unfold rdf; rw [h, if_pos he]
theorem rdf_limit {b : List B8} {n k : Nat} (h : rd b = (n, k, 0)) (hn : 1024 < n) : rdf b = ([], 0, 2) := by unfold rdf; rw [h, if_neg (by simp), if_pos hn]
theorem rdf_short {b : List B8} {n k : Nat} (h : rd b = (n, k, 0)) (hn : ¬ 1024 < n) (hl : b.length - k < n) : rdf b = ([], 0, 3) := by
  unfold rdf; rw [h, if_neg (by simp), if_neg hn, if_pos hl]
theorem rdf_ok {b : List B8} {n k : Nat} (h : rd b = (n, k, 0)) (hn : ¬ 1024 < n) (hl : ¬ b.length - k < n) : rdf b = ((b.drop k).take n, k + n, 0) := by
  unfold rdf; rw [h, if_neg (by simp), if_neg hn, if_neg hl]
theorem rdf_cases (b : List B8) : (∃ e, e ≠ 0 ∧ rdf b = ([], 0, e)) ∨ ∃ n k, rd b = (n, k, 0) ∧ 0 < k ∧ n ≤ 1024 ∧ k + n ≤ b.length ∧ ((b.drop k).take n).length = n ∧ rdf b = ((b.drop k).take n, k + n, 0) := by
  obtain ⟨n, k, e, h⟩ : ∃ n k e, rd b = (n, k, e) := ⟨_, _, _, rfl⟩
  by_cases he : e = 0
  · subst he
    by_cases hn : 1024 < n
    · exact .inl ⟨2, by omega, rdf_limit h hn⟩
    by_cases hl : b.length - k < n
    · exact .inl ⟨3, by omega, rdf_short h hn hl⟩
    obtain ⟨h1, _, h3⟩ := rd_unique h
    have hk : 0 < k := by
      have := congrArg List.length h3
      have := enc_pos n
      simp at *; omega
    exact .inr ⟨n, k, h, hk, by omega, by omega, by simp; omega, rdf_ok h hn hl⟩
  · exact .inl ⟨e, he, rdf_e h he⟩
theorem rdf_fld (x t : List B8) (hx : x.length ≤ 1024) : rdf (fld x ++ t) = (x, (fld x).length, 0) := by
  have h := rd_enc x.length (by omega) (x ++ t)
  rw [← List.append_assoc] at h
  have e1 : ((enc x.length ++ x) ++ t).drop (enc x.length).length = x ++ t := by rw [List.append_assoc]; exact List.drop_left
  have := rdf_ok h (by omega) (by simp)
  rw [e1, List.take_left] at this
  rw [show fld x = enc x.length ++ x by rfl, this]
  simp
theorem rdf_back {b x : List B8} {k : Nat} (h : rdf b = (x, k, 0)) : b = fld x ++ b.drop k ∧ 0 < k ∧ k ≤ b.length ∧ x.length ≤ 1024 := by
  rcases rdf_cases b with ⟨e, he, h'⟩ | ⟨n, j, hr, hj, hn, hjn, hl, h'⟩
  · rw [h] at h'
    simp at h'
    omega
  · rw [h] at h'
    simp only [Prod.mk.injEq, and_true] at h'
    obtain ⟨rfl, rfl⟩ := h'
    obtain ⟨h1, _, h3⟩ := rd_unique hr
    refine ⟨?_, by omega, hjn, by rw [hl]; exact hn⟩
    rw [fld, hl, h3, ← List.drop_drop]
    rw [List.append_assoc, List.take_append_drop, List.take_append_drop]

/-- Fields, one after another, and the error. -/
def okl (l : List (List B8)) : Prop := ∀ x ∈ l, x.length ≤ 1024
def cat (l : List (List B8)) : List B8 := l.flatMap fld
theorem cat_nil : cat [] = [] := rfl
theorem cat_cons (x : List B8) (l : List (List B8)) : cat (x :: l) = fld x ++ cat l := by simp [cat]
theorem cat_snoc (l : List (List B8)) (x : List B8) : cat (l ++ [x]) = cat l ++ fld x := by simp [cat]
theorem okl_snoc {l : List (List B8)} {x : List B8} (h : okl l) (hx : x.length ≤ 1024) : okl (l ++ [x]) := by
  intro y hy
  rcases List.mem_append.1 hy with h' | h'
  · exact h y h'
  · simp at h'; subst h'; exact hx
theorem cat_len {l : List (List B8)} (h : okl l) : (cat l).length ≤ l.length * 1031 := by
  induction l with
  | nil => simp [cat]
  | cons x l ih =>
    have h1 := ih (fun y hy => h y (by simp [hy]))
    have h2 := h x (by simp)
    have h3 := fld_len (x := x) (by omega)
    rw [cat_cons]
    simp only [List.length_append, List.length_cons]
    omega
open Classical in
noncomputable def jn (l : List (List B8)) : List B8 × Nat := if okl l then (cat l, 0) else ([], 2)
theorem jn_ok {l : List (List B8)} (h : okl l) : jn l = (cat l, 0) := by unfold jn; rw [if_pos h]
theorem jn_bad {l : List (List B8)} (j : Nat) (hj : j < l.length) (h : 1024 < l[j].length) : jn l = ([], 2) := by
  unfold jn; rw [if_neg]; intro hk; have := hk l[j] (List.getElem_mem _); omega
theorem jn_len (l : List (List B8)) : (jn l).1.length ≤ l.length * 1031 := by
  unfold jn
  split
  · rename_i h; exact cat_len h
  · simp

/-- The fields of which bytes consist, behind those that were found, and the error. -/
def allA : Nat → List (List B8) → List B8 → List (List B8) × Nat
  | _, acc, [] => (acc, 0)
  | 0, _, _ :: _ => ([], 1)
  | f + 1, acc, y :: b => if (rdf (y :: b)).2.2 = 0 then allA f (acc ++ [(rdf (y :: b)).1]) ((y :: b).drop (rdf (y :: b)).2.1) else ([], (rdf (y :: b)).2.2)
def alls (b : List B8) : List (List B8) × Nat := allA b.length [] b
theorem allA_nil (f : Nat) (acc : List (List B8)) : allA f acc [] = (acc, 0) := by cases f <;> rfl
theorem allA_ok {f : Nat} {acc : List (List B8)} {b x : List B8} {k : Nat} (hf : b.length ≤ f + 1) (h0 : 0 < b.length) (h : rdf b = (x, k, 0)) :
    allA (f + 1) acc b = allA f (acc ++ [x]) (b.drop k) ∧ (b.drop k).length ≤ f := by
  cases b with
  | nil => simp at h0
  | cons y b =>
    have := (rdf_back h).2.1
    refine ⟨?_, by simp at *; omega⟩
    show (if (rdf (y :: b)).2.2 = 0 then _ else _) = _
    rw [h, if_pos rfl]
theorem allA_err {f : Nat} {acc : List (List B8)} {b : List B8} {e : Nat} (hf : b.length ≤ f) (h0 : 0 < b.length) (he : e ≠ 0) (h : rdf b = ([], 0, e)) : allA f acc b = ([], e) := by
  cases b with
  | nil => simp at h0
  | cons y b =>
    cases f with
    | zero => simp at hf
    | succ f =>
      show (if (rdf (y :: b)).2.2 = 0 then _ else _) = _
      rw [h, if_neg he]
theorem allA_cat : ∀ (l acc : List (List B8)) (f : Nat), okl l → (cat l).length ≤ f → allA f acc (cat l) = (acc ++ l, 0) := by
  intro l
  induction l with
  | nil => intro acc f _ _; rw [cat_nil, allA_nil]; simp
  | cons x l ih =>
    intro acc f h hf
    have hx := h x (by simp)
    have h1 := rdf_fld x (cat l) hx
    have hp := fld_pos x
    rw [cat_cons] at hf ⊢
    simp only [List.length_append] at hf
    obtain ⟨f, rfl⟩ : ∃ g, f = g + 1 := ⟨f - 1, by omega⟩
    rw [(allA_ok (by simp; omega) (by simp; omega) h1).1, List.drop_left, ih _ _ (fun y hy => h y (by simp [hy])) (by omega)]
    simp
theorem alls_cat {l : List (List B8)} (h : okl l) : alls (cat l) = (l, 0) := by
  have := allA_cat l [] (cat l).length h (Nat.le_refl _)
  simpa [alls] using this
theorem allA_back : ∀ (f : Nat) (acc : List (List B8)) (b : List B8) (k : List (List B8)), b.length ≤ f → allA f acc b = (k, 0) → ∃ t, k = acc ++ t ∧ okl t ∧ cat t = b := by
  intro f
  induction f with
  | zero =>
    intro acc b k hf h
    have : b = [] := List.eq_nil_of_length_eq_zero (by omega)
    subst this
    rw [allA_nil] at h
    simp at h
    exact ⟨[], by simp [h], (by intro x hx; cases hx), rfl⟩
  | succ f ih =>
    intro acc b k hf h
    by_cases h0 : 0 < b.length
    · rcases rdf_cases b with ⟨e, he, h'⟩ | ⟨n, j, hr, hj, hn, hjn, hl, h'⟩
      · rw [allA_err hf h0 he h'] at h
        simp at h
        omega
      · obtain ⟨h1, h2⟩ := allA_ok (acc := acc) hf h0 h'
        rw [h1] at h
        obtain ⟨t, ht, hok, hc⟩ := ih _ _ _ h2 h
        have hb := rdf_back h'
        refine ⟨((b.drop j).take n) :: t, by rw [ht]; simp, ?_, by rw [cat_cons, hc]; exact hb.1.symm⟩
        intro x hx
        rcases List.mem_cons.1 hx with rfl | hx
        · exact hb.2.2.2
        · exact hok x hx
    · have : b = [] := List.eq_nil_of_length_eq_zero (by omega)
      subst this
      rw [allA_nil] at h
      simp at h
      exact ⟨[], by simp [h], (by intro x hx; cases hx), rfl⟩
theorem alls_back {b : List B8} {k : List (List B8)} (h : alls b = (k, 0)) : okl k ∧ cat k = b := by
  obtain ⟨t, ht, hok, hc⟩ := allA_back _ _ _ _ (Nat.le_refl _) h
  simp at ht
  subst ht
  exact ⟨hok, hc⟩
theorem allA_bad : ∀ (f : Nat) (acc : List (List B8)) (b : List B8) (k : List (List B8)) (e : Nat), b.length ≤ f → allA f acc b = (k, e) → e ≠ 0 → k = [] := by
  intro f
  induction f with
  | zero =>
    intro acc b k e hf h he
    have : b = [] := List.eq_nil_of_length_eq_zero (by omega)
    subst this
    rw [allA_nil] at h
    simp at h
    omega
  | succ f ih =>
    intro acc b k e hf h he
    by_cases h0 : 0 < b.length
    · rcases rdf_cases b with ⟨e', he', h'⟩ | ⟨n, j, hr, hj, hn, hjn, hl, h'⟩
      · rw [allA_err hf h0 he' h'] at h
        simp at h
        exact h.1
      · obtain ⟨h1, h2⟩ := allA_ok (acc := acc) hf h0 h'
        rw [h1] at h
        exact ih _ _ _ _ h2 h he
    · have : b = [] := List.eq_nil_of_length_eq_zero (by omega)
      subst this
      rw [allA_nil] at h
      simp at h
      omega
theorem alls_bad {b : List B8} {k : List (List B8)} {e : Nat} (h : alls b = (k, e)) (he : e ≠ 0) : k = [] := allA_bad _ _ _ _ _ (Nat.le_refl _) h he
theorem allA_count : ∀ (f : Nat) (acc : List (List B8)) (b : List B8), b.length ≤ f → (allA f acc b).1.length ≤ acc.length + b.length := by
  intro f
  induction f with
  | zero =>
    intro acc b hf
    have : b = [] := List.eq_nil_of_length_eq_zero (by omega)
    subst this
    rw [allA_nil]; simp
  | succ f ih =>
    intro acc b hf
    by_cases h0 : 0 < b.length
    · rcases rdf_cases b with ⟨e', he', h'⟩ | ⟨n, j, hr, hj, hn, hjn, hl, h'⟩
      · rw [allA_err hf h0 he' h']; simp
      · obtain ⟨h1, h2⟩ := allA_ok (acc := acc) hf h0 h'
        rw [h1]
        have := ih (acc ++ [(b.drop j).take n]) _ h2
        simp at this ⊢
        omega
    · have : b = [] := List.eq_nil_of_length_eq_zero (by omega)
      subst this
      rw [allA_nil]; simp
theorem alls_count (b : List B8) : (alls b).1.length ≤ b.length := by have := allA_count b.length [] b (Nat.le_refl _); simpa [alls] using this
/-- The bytes and the error of Append. -/
def fap (b x : List B8) : List B8 × Nat := if x.length ≤ 1024 then (b ++ fld x, 0) else ([], 2)
theorem fap_len (b x : List B8) : (fap b x).1.length ≤ b.length + 1031 := by
  unfold fap
  split
  · have := fld_len (x := x) (by omega)
    simp; omega
  · simp
end Go.Proofs.Ytodmfippjcfbbaa
namespace Go.Proofs.Ytodmfippjcfbbaa
open Go Go.RowKit Sh Leaf
namespace Sh

/-- A number in decimal. -/
def dcm (n : Nat) : List B8 := if n < 10 then [BitVec.ofNat 8 (48 + n)] else dcm (n / 10) ++ [BitVec.ofNat 8 (48 + n % 10)]
termination_by n
decreasing_by omega
theorem dcm_lt {n : Nat} (h : n < 10) : dcm n = [BitVec.ofNat 8 (48 + n)] := by rw [dcm, if_pos h]
theorem dcm_ge {n : Nat} (h : ¬ n < 10) : dcm n = dcm (n / 10) ++ [BitVec.ofNat 8 (48 + n % 10)] := by rw [dcm, if_neg h]
/-- The number that digits are. -/
def dval (l : List B8) : Nat := l.foldl (fun a c => 10 * a + (c.toNat - 48)) 0
theorem dval_snoc (l : List B8) (x : B8) : dval (l ++ [x]) = 10 * dval l + (x.toNat - 48) := by simp [dval]
def isd (c : B8) : Bool := decide (48 ≤ c.toNat ∧ c.toNat ≤ 57)
theorem isd_iff {c : B8} : isd c = true ↔ 48 ≤ c.toNat ∧ c.toNat ≤ 57 := by simp [isd]
theorem digit_toNat {d : Nat} (h : d < 10) : (BitVec.ofNat 8 (48 + d)).toNat = 48 + d := by rw [BitVec.toNat_ofNat]; exact Nat.mod_eq_of_lt (by omega)
theorem digit_isd {d : Nat} (h : d < 10) : isd (BitVec.ofNat 8 (48 + d)) = true := by rw [isd_iff, digit_toNat h]; omega
theorem isd_digit {c : B8} (h : isd c = true) : c = BitVec.ofNat 8 (48 + (c.toNat - 48)) := by
  rw [isd_iff] at h
  apply BitVec.eq_of_toNat_eq
  rw [digit_toNat (by omega)]; omega
theorem dval_dcm (n : Nat) : dval (dcm n) = n := by
  induction n using Nat.strongRecOn with
  | ind n ih =>
    by_cases h : n < 10
    · rw [dcm_lt h]
      have := digit_toNat h
      show 10 * 0 + ((BitVec.ofNat 8 (48 + n)).toNat - 48) = n
      omega
    · rw [dcm_ge h, dval_snoc, ih (n / 10) (by omega), digit_toNat (by omega)]; omega
theorem dcm_isd (n : Nat) : (dcm n).all isd = true := by
  induction n using Nat.strongRecOn with
  | ind n ih =>
    by_cases h : n < 10
    · rw [dcm_lt h]; simp [digit_isd h]
    · rw [dcm_ge h, List.all_append, ih (n / 10) (by omega)]; simp [digit_isd (show n % 10 < 10 by omega)]
theorem dcm_pos (n : Nat) : 0 < (dcm n).length := by
  by_cases h : n < 10
  · rw [dcm_lt h]; simp
  · rw [dcm_ge h]; simp
theorem dcm_ne (n : Nat) : dcm n ≠ [] := fun h => by have := dcm_pos n; rw [h] at this; simp at this
theorem dcm_len : ∀ (k n : Nat), n < 10 ^ (k + 1) → (dcm n).length ≤ k + 1
  | 0, n, h => by rw [dcm_lt (by simpa using h)]; simp
  | k + 1, n, h => by
    by_cases h1 : n < 10
    · rw [dcm_lt h1]; simp
    · have := dcm_len k (n / 10) (by rw [Nat.pow_succ] at h; omega)
      rw [dcm_ge h1, List.length_append, List.length_singleton]; omega
theorem isd_mem {l : List B8} (h : l.all isd = true) {c : B8} (hc : ¬ isd c = true) : c ∉ l := fun hm => hc (List.all_eq_true.1 h c hm)
theorem dcm_no (n : Nat) {c : B8} (hc : ¬ isd c = true) : c ∉ dcm n := isd_mem (dcm_isd n) hc
theorem dcm_inj {a b : Nat} (h : dcm a = dcm b) : a = b := by rw [← dval_dcm a, h, dval_dcm]
/-- Digits without a leading zero are the number's own. -/
theorem dcm_dval (l : List B8) : ∀ x : B8, (x :: l).all isd = true → (l ≠ [] → x ≠ 48) → dcm (dval (x :: l)) = x :: l := by
  have key : ∀ (r : List B8) (x : B8), (x :: r.reverse).all isd = true → (r ≠ [] → x ≠ 48) → dcm (dval (x :: r.reverse)) = x :: r.reverse := by
    intro r
    induction r with
    | nil =>
      intro x hx _
      have hx1 : isd x = true := by simpa using hx
      have h1 := isd_iff.1 hx1
      have e : dval [x] = x.toNat - 48 := by simp [dval]
      rw [List.reverse_nil, e, dcm_lt (by omega), ← isd_digit hx1]
    | cons y r ih =>
      intro x hx h0
      rw [List.reverse_cons, ← List.cons_append] at hx ⊢
      rw [List.all_append, Bool.and_eq_true] at hx
      have hy : isd y = true := by simpa using hx.2
      have hy1 := isd_iff.1 hy
      have hx0 := h0 (by simp)
      have h1 := ih x hx.1 (fun _ => hx0)
      have hpos : 0 < dval (x :: r.reverse) := by
        rcases Nat.eq_zero_or_pos (dval (x :: r.reverse)) with e | e
        · rw [e, dcm_lt (by omega)] at h1
          injection h1 with h2 _
          exact absurd h2.symm hx0
        · exact e
      rw [dval_snoc, dcm_ge (by omega), show (10 * dval (x :: r.reverse) + (y.toNat - 48)) / 10 = dval (x :: r.reverse) by omega, show (10 * dval (x :: r.reverse) + (y.toNat - 48)) % 10 = y.toNat - 48 by omega, h1, ← isd_digit hy]
  intro x hx h0
  have := key l.reverse x (by simpa using hx) (by simpa using h0)
  simpa using this
/-- The number that a text of at most 15 digits is, -1 if it is none. -/
def dg (l : List B8) : Int := if l = [] ∨ 15 < l.length then -1 else if l.all isd = true then (dval l : Int) else -1
theorem dg_dcm {n : Nat} (h : n < 10 ^ 15) : dg (dcm n) = n := by
  have := dcm_len 14 n h
  unfold dg
  rw [if_neg (by have := dcm_ne n; simp [this]; omega), if_pos (dcm_isd n), dval_dcm]

/-- A text cut at the first byte c. -/
def cut1 (c : B8) : List B8 → List B8 × List B8 × Bool
  | [] => ([], [], false)
  | x :: r => if x = c then ([], r, true) else (x :: (cut1 c r).1, (cut1 c r).2.1, (cut1 c r).2.2)
theorem cut1_at {c : B8} : ∀ (a b : List B8), c ∉ a → cut1 c (a ++ c :: b) = (a, b, true)
  | [], b, _ => by simp [cut1]
  | x :: a, b, h => by
    have hx : ¬ x = c := fun e => h (by simp [e])
    have := cut1_at a b (fun hm => h (List.mem_cons_of_mem _ hm))
    rw [List.cons_append, cut1, if_neg hx, this]
theorem cut1_none {c : B8} : ∀ (a : List B8), c ∉ a → cut1 c a = (a, [], false)
  | [], _ => rfl
  | x :: a, h => by
    have hx : ¬ x = c := fun e => h (by simp [e])
    have := cut1_none a (fun hm => h (List.mem_cons_of_mem _ hm))
    rw [cut1, if_neg hx, this]
theorem cut1_cases (c : B8) (l : List B8) : (∃ a b, l = a ++ c :: b ∧ c ∉ a ∧ cut1 c l = (a, b, true)) ∨ (c ∉ l ∧ cut1 c l = (l, [], false)) := by
  induction l with
  | nil => exact .inr ⟨by simp, rfl⟩
  | cons x r ih =>
    by_cases hx : x = c
    · exact .inl ⟨[], r, by simp [hx], by simp, by simp [cut1, hx]⟩
    · rcases ih with ⟨a, b, rfl, ha, _⟩ | ⟨ha, _⟩
      · refine .inl ⟨x :: a, b, rfl, ?_, ?_⟩
        · simp; exact ⟨fun e => hx e.symm, ha⟩
        · rw [← List.cons_append]
          exact cut1_at (x :: a) b (by simp; exact ⟨fun e => hx e.symm, ha⟩)
      · have : c ∉ x :: r := by simp; exact ⟨fun e => hx e.symm, ha⟩
        exact .inr ⟨this, cut1_none _ this⟩
/-- The parts of a text between the bytes c. -/
def spl (c : B8) : List B8 → List (List B8)
  | [] => [[]]
  | x :: r => if x = c then [] :: spl c r else match spl c r with
    | [] => [[x]]
    | y :: t => (x :: y) :: t
theorem spl_ne (c : B8) (l : List B8) : spl c l ≠ [] := by
  cases l with
  | nil => simp [spl]
  | cons x r =>
    unfold spl
    split
    · simp
    · split <;> simp
theorem spl_at {c : B8} : ∀ (a b : List B8), c ∉ a → spl c (a ++ c :: b) = a :: spl c b
  | [], b, _ => by simp [spl]
  | x :: a, b, h => by
    have hx : ¬ x = c := fun e => h (by simp [e])
    have := spl_at a b (fun hm => h (List.mem_cons_of_mem _ hm))
    rw [List.cons_append, spl, if_neg hx, this]
theorem spl_none {c : B8} : ∀ (a : List B8), c ∉ a → spl c a = [a]
  | [], _ => rfl
  | x :: a, h => by
    have hx : ¬ x = c := fun e => h (by simp [e])
    have := spl_none a (fun hm => h (List.mem_cons_of_mem _ hm))
    rw [spl, if_neg hx, this]
/-- Parts with a byte c between them. -/
def joi (c : B8) : List (List B8) → List B8
  | [] => []
  | [a] => a
  | a :: b :: t => a ++ c :: joi c (b :: t)
theorem joi_cons {c : B8} (a : List B8) {t : List (List B8)} (h : t ≠ []) : joi c (a :: t) = a ++ c :: joi c t := by
  cases t with
  | nil => exact absurd rfl h
  | cons b t => rfl
theorem joi_snoc {c : B8} : ∀ (t : List (List B8)) (a : List B8), t ≠ [] → joi c (t ++ [a]) = joi c t ++ c :: a
  | [], _, h => absurd rfl h
  | [b], a, _ => rfl
  | b :: b' :: t, a, _ => by
    rw [List.cons_append, joi_cons b (by simp), joi_snoc (b' :: t) a (by simp), joi_cons b (by simp)]
    simp
theorem spl_joi {c : B8} : ∀ (t : List (List B8)), t ≠ [] → (∀ a ∈ t, c ∉ a) → spl c (joi c t) = t
  | [], h, _ => absurd rfl h
  | [a], _, h => spl_none a (h a (by simp))
  | a :: b :: t, _, h => by
    rw [joi_cons a (by simp), spl_at _ _ (h a (by simp)), spl_joi (b :: t) (by simp) (fun x hx => h x (List.mem_cons_of_mem _ hx))]
theorem joi_pos {c : B8} {t : List (List B8)} (h : t ≠ []) (hp : ∀ a ∈ t, a ≠ []) : joi c t ≠ [] := by
  cases t with
  | nil => exact absurd rfl h
  | cons a t =>
    have ha := hp a (by simp)
    cases t with
    | nil => exact ha
    | cons b t => rw [joi_cons a (by simp)]; simp
end Sh
end Go.Proofs.Ytodmfippjcfbbaa
namespace Go.Proofs.Ytodmfippjcfbbaa
open Go Go.RowKit Sh Leaf
namespace Sh

/-- A name: 1 to 16 letters from a to z. -/
def nmok (s : List B8) : Prop := 1 ≤ s.length ∧ s.length ≤ 16 ∧ ∀ c ∈ s, 97 ≤ c.toNat ∧ c.toNat ≤ 122
instance (s : List B8) : Decidable (nmok s) := by unfold nmok; infer_instance
/-- Eight bytes, the most significant one first. -/
def be8 (m : Nat) : List B8 := [BitVec.ofNat 8 (m / 2 ^ 56), BitVec.ofNat 8 (m / 2 ^ 48), BitVec.ofNat 8 (m / 2 ^ 40), BitVec.ofNat 8 (m / 2 ^ 32), BitVec.ofNat 8 (m / 2 ^ 24), BitVec.ofNat 8 (m / 2 ^ 16), BitVec.ofNat 8 (m / 2 ^ 8), BitVec.ofNat 8 m]
def beval (l : List B8) : Nat := l.foldl (fun a c => 256 * a + c.toNat) 0
theorem be8_length (m : Nat) : (be8 m).length = 8 := rfl
theorem beval_snoc (l : List B8) (x : B8) : beval (l ++ [x]) = 256 * beval l + x.toNat := by simp [beval]
theorem beval_be8 {m : Nat} (h : m < 2 ^ 64) : beval (be8 m) = m := by
  simp only [beval, be8, List.foldl_cons, List.foldl_nil, BitVec.toNat_ofNat]
  omega
theorem beval_lt : ∀ l : List B8, l.length ≤ 8 → beval l < 2 ^ 64
  | [], _ => by simp [beval]
  | [a], _ => by have := a.isLt; simp [beval]; omega
  | [a, b], _ => by have := a.isLt; have := b.isLt; simp [beval]; omega
  | [a, b, c], _ => by have := a.isLt; have := b.isLt; have := c.isLt; simp [beval]; omega
  | [a, b, c, d], _ => by have := a.isLt; have := b.isLt; have := c.isLt; have := d.isLt; simp [beval]; omega
  | [a, b, c, d, e], _ => by have := a.isLt; have := b.isLt; have := c.isLt; have := d.isLt; have := e.isLt; simp [beval]; omega
  | [a, b, c, d, e, f], _ => by have := a.isLt; have := b.isLt; have := c.isLt; have := d.isLt; have := e.isLt; have := f.isLt; simp [beval]; omega
  | [a, b, c, d, e, f, g], _ => by have := a.isLt; have := b.isLt; have := c.isLt; have := d.isLt; have := e.isLt; have := f.isLt; have := g.isLt; simp [beval]; omega
  | [a, b, c, d, e, f, g, h], _ => by have := a.isLt; have := b.isLt; have := c.isLt; have := d.isLt; have := e.isLt; have := f.isLt; have := g.isLt; have := h.isLt; simp [beval]; omega
  | _ :: _ :: _ :: _ :: _ :: _ :: _ :: _ :: _ :: _, h => by simp at h
theorem be8_beval (l : List B8) (h : l.length = 8) : be8 (beval l) = l := by
  match l, h with
  | [a, b, c, d, e, f, g, i], _ =>
    have h1 := a.isLt; have h2 := b.isLt; have h3 := c.isLt; have h4 := d.isLt; have h5 := e.isLt; have h6 := f.isLt; have h7 := g.isLt; have h8 := i.isLt
    have hv : beval [a, b, c, d, e, f, g, i] = a.toNat * 2 ^ 56 + b.toNat * 2 ^ 48 + c.toNat * 2 ^ 40 + d.toNat * 2 ^ 32 + e.toNat * 2 ^ 24 + f.toNat * 2 ^ 16 + g.toNat * 2 ^ 8 + i.toNat := by
      simp only [beval, List.foldl_cons, List.foldl_nil]; omega
    have key : ∀ (x : B8) (y : Nat), y % 256 = x.toNat → BitVec.ofNat 8 y = x := fun x y e => by
      apply BitVec.eq_of_toNat_eq
      rw [BitVec.toNat_ofNat]; exact e
    unfold be8
    rw [hv, key a _ (by omega), key b _ (by omega), key c _ (by omega), key d _ (by omega), key e _ (by omega), key f _ (by omega), key g _ (by omega), key i _ (by omega)]
theorem be8_take_succ (m : Nat) {k : Nat} (h : k < 8) : (be8 m).take (k + 1) = (be8 m).take k ++ [BitVec.ofNat 8 (m / 2 ^ (56 - 8 * k))] := by
  match k, h with
  | 0, _ => rfl
  | 1, _ => rfl
  | 2, _ => rfl
  | 3, _ => rfl
  | 4, _ => rfl
  | 5, _ => rfl
  | 6, _ => rfl
  | 7, _ => simp [be8]
end Sh
end Go.Proofs.Ytodmfippjcfbbaa
namespace Go.Proofs.Ytodmfippjcfbbaa
open Go Go.RowKit Sh Leaf
namespace Sh

/-- A predicate. -/
structure Prd where
  kind : Int
  mask : Nat
  lo : Int
  hi : Int
  name : List B8
  num : Int
deriving DecidableEq
abbrev Prd.zero : Prd := ⟨0, 0, 0, 0, [], 0⟩
/-- A valid predicate. -/
def pok (p : Prd) : Prop :=
  (p.kind = 1 ∧ p.mask ≠ 0 ∧ p.lo = 0 ∧ p.hi = 0 ∧ p.name = [] ∧ p.num = 0) ∨
  (p.kind = 2 ∧ p.mask ≠ 0 ∧ p.mask < 4294967296 ∧ p.lo = 0 ∧ p.hi = 0 ∧ p.name = [] ∧ p.num = 0) ∨
  (p.kind = 3 ∧ p.mask ≠ 0 ∧ p.mask < 128 ∧ p.lo = 0 ∧ p.hi = 0 ∧ p.name = [] ∧ p.num = 0) ∨
  (p.kind = 4 ∧ p.mask = 0 ∧ 0 ≤ p.lo ∧ p.lo ≤ p.hi ∧ p.hi ≤ 67108864 ∧ p.name = [] ∧ p.num = 0) ∨
  (p.kind = 5 ∧ p.mask = 0 ∧ 0 ≤ p.lo ∧ p.lo < 1440 ∧ 0 ≤ p.hi ∧ p.hi < 1440 ∧ p.name = [] ∧ p.num = 0) ∨
  (p.kind = 6 ∧ p.mask = 0 ∧ p.lo = 0 ∧ p.hi = 0 ∧ nmok p.name ∧ p.num = 0) ∨
  (p.kind = 7 ∧ p.mask = 0 ∧ p.lo = 0 ∧ p.hi = 0 ∧ p.name = [] ∧ 0 ≤ p.num ∧ p.num ≤ 1000000)
instance (p : Prd) : Decidable (pok p) := by unfold pok; infer_instance

/-! ### Bits of a mask -/
/-- The numbers below i of the bits of m. -/
def bitl (m i : Nat) : List Nat := (List.range i).filter fun j => decide (m / 2 ^ j % 2 = 1)
theorem bitl_succ (m i : Nat) : bitl m (i + 1) = bitl m i ++ (if m / 2 ^ i % 2 = 1 then [i] else []) := by
  unfold bitl
  rw [List.range_succ, List.filter_append]
  congr 1
  by_cases h : m / 2 ^ i % 2 = 1
  · rw [if_pos h]; simp [h]
  · rw [if_neg h]; simp; omega
theorem bitl_lt {m i j : Nat} (h : j ∈ bitl m i) : j < i := by
  unfold bitl at h
  rw [List.mem_filter, List.mem_range] at h
  exact h.1
theorem mem_bitl {m i j : Nat} : j ∈ bitl m i ↔ j < i ∧ m.testBit j = true := by
  unfold bitl
  rw [List.mem_filter, List.mem_range, Nat.testBit_eq_decide_div_mod_eq]
def orl (a : Nat) (l : List Nat) : Nat := l.foldl (fun a i => a ||| 2 ^ i) a
theorem orl_bit : ∀ (l : List Nat) (a j : Nat), (orl a l).testBit j = (a.testBit j || decide (j ∈ l))
  | [], a, j => by simp [orl]
  | i :: l, a, j => by
    have h := orl_bit l (a ||| 2 ^ i) j
    have e : orl a (i :: l) = orl (a ||| 2 ^ i) l := rfl
    rw [e, h, Nat.testBit_or, Nat.testBit_two_pow]
    by_cases h1 : i = j
    · subst h1; simp
    · have h2 : ¬ j = i := fun e => h1 e.symm
      simp [h1, h2]
theorem orl_bitl {m : Nat} (h : m < 2 ^ 64) : orl 0 (bitl m 64) = m := by
  apply Nat.eq_of_testBit_eq
  intro j
  rw [orl_bit]
  rcases Nat.lt_or_ge j 64 with hj | hj
  · by_cases hb : m.testBit j = true
    · rw [hb, decide_eq_true (mem_bitl.2 ⟨hj, hb⟩)]; simp
    · rw [decide_eq_false (fun hm => hb (mem_bitl.1 hm).2)]
      simp at hb ⊢
      exact hb
  · have h1 : m.testBit j = false := Nat.testBit_lt_two_pow (Nat.lt_of_lt_of_le h (Nat.pow_le_pow_right (by omega) hj))
    rw [h1, decide_eq_false (fun hm => by have := bitl_lt hm; omega)]
    simp
theorem bitl_ne {m i : Nat} (h0 : m ≠ 0) (h : m < 2 ^ i) : bitl m i ≠ [] := by
  intro e
  obtain ⟨j, hj⟩ := Nat.exists_testBit_of_ne_zero h0
  have hji : j < i := by
    rcases Nat.lt_or_ge j i with hl | hl
    · exact hl
    · rw [Nat.testBit_lt_two_pow (Nat.lt_of_lt_of_le h (Nat.pow_le_pow_right (by omega) hl))] at hj; cases hj
  have := mem_bitl.2 ⟨hji, hj⟩
  rw [e] at this
  cases this

/-! ### Texts -/
/-- The word of a kind. -/
def wd (k : Int) : List B8 :=
  if k = 1 then [122, 111, 110, 101] else if k = 2 then [108, 105, 110, 101] else if k = 3 then [100, 97, 121, 115] else if k = 4 then [116, 105, 109, 101] else if k = 5 then [100, 97, 105, 108, 121] else if k = 6 then [104, 111, 108, 100, 101, 114] else if k = 7 then [114, 105, 100, 101, 115] else []
/-- The kind of a word, 0 if it is none. -/
def kindOf (w : List B8) : Int := if w = wd 1 then 1 else if w = wd 2 then 2 else if w = wd 3 then 3 else if w = wd 4 then 4 else if w = wd 5 then 5 else if w = wd 6 then 6 else if w = wd 7 then 7 else 0
/-- What stands behind the word. -/
def pbody (p : Prd) : List B8 :=
  if p.kind ≤ 3 then joi 44 ((bitl p.mask 64).map dcm) else if p.kind ≤ 5 then dcm p.lo.toNat ++ 45 :: dcm p.hi.toNat else if p.kind = 6 then p.name else dcm p.num.toNat
def pfmt (p : Prd) : List B8 := wd p.kind ++ 32 :: pbody p
/-- Format: the text and the error. -/
def fm (p : Prd) : List B8 × Nat := if pok p then (pfmt p, 0) else ([], 5)
/-- The mask of numbers in decimal. -/
def por (a : Nat) (l : List (List B8)) : Nat := l.foldl (fun m x => if 0 ≤ dg x ∧ dg x < 64 then m ||| 2 ^ (dg x).toNat else m) a
/-- The only predicate whose text s may be. -/
def lp (s : List B8) : Prd :=
  let k := kindOf (cut1 32 s).1
  let r := (cut1 32 s).2.1
  if k = 1 ∨ k = 2 ∨ k = 3 then ⟨k, por 0 (spl 44 r), 0, 0, [], 0⟩
  else if k = 4 ∨ k = 5 then ⟨k, 0, dg (cut1 45 r).1, dg (cut1 45 r).2.1, [], 0⟩
  else if k = 6 then ⟨k, 0, 0, 0, r, 0⟩
  else if k = 7 then ⟨k, 0, 0, 0, [], dg r⟩
  else .zero
/-- Parse: the predicate and the error. -/
def ps (s : List B8) : Prd × Nat := if pok (lp s) ∧ pfmt (lp s) = s then (lp s, 0) else (.zero, 8)

theorem pok_kind {p : Prd} (h : pok p) : 1 ≤ p.kind ∧ p.kind ≤ 7 := by unfold pok at h; omega
theorem kind_cases {k : Int} (h : 1 ≤ k ∧ k ≤ 7) : k = 1 ∨ k = 2 ∨ k = 3 ∨ k = 4 ∨ k = 5 ∨ k = 6 ∨ k = 7 := by omega
theorem kindOf_wd {k : Int} (h : 1 ≤ k ∧ k ≤ 7) : kindOf (wd k) = k := by
  rcases kind_cases h with rfl | rfl | rfl | rfl | rfl | rfl | rfl <;> decide
theorem wd_no {k : Int} (h : 1 ≤ k ∧ k ≤ 7) : (32 : B8) ∉ wd k := by
  rcases kind_cases h with rfl | rfl | rfl | rfl | rfl | rfl | rfl <;> decide
theorem por_bits : ∀ (l : List Nat) (a : Nat), (∀ i ∈ l, i < 64) → por a (l.map dcm) = orl a l
  | [], _, _ => rfl
  | i :: l, a, h => by
    have hi := h i (by simp)
    have hd : dg (dcm i) = i := dg_dcm (by omega)
    have e : por a ((i :: l).map dcm) = por (if 0 ≤ dg (dcm i) ∧ dg (dcm i) < 64 then a ||| 2 ^ (dg (dcm i)).toNat else a) (l.map dcm) := rfl
    rw [e, if_pos (by rw [hd]; omega), hd, Int.toNat_natCast, por_bits l _ (fun j hj => h j (List.mem_cons_of_mem _ hj))]
    rfl
theorem spl_bits {m : Nat} (h0 : m ≠ 0) (h : m < 2 ^ 64) : por 0 (spl 44 (joi 44 ((bitl m 64).map dcm))) = m := by
  rw [spl_joi _ (by simpa using bitl_ne h0 h), por_bits _ _ (fun i hi => bitl_lt hi), orl_bitl h]
  intro a ha
  obtain ⟨i, _, rfl⟩ := List.mem_map.1 ha
  exact dcm_no i (by decide)
theorem cut_dash (a b : Nat) : cut1 45 (dcm a ++ 45 :: dcm b) = (dcm a, dcm b, true) := cut1_at _ _ (dcm_no a (by decide))
/-- A valid predicate is the one of its text. -/
theorem lp_fmt {p : Prd} (h : pok p) (hm : p.mask < 2 ^ 64) : lp (pfmt p) = p := by
  have hk := pok_kind h
  have e1 : cut1 32 (pfmt p) = (wd p.kind, pbody p, true) := cut1_at _ _ (wd_no hk)
  obtain ⟨k, m, lo, hi, nm, nu⟩ := p
  unfold lp
  rw [e1]
  simp only [kindOf_wd hk]
  unfold pok at h
  simp only at h hm hk
  rcases h with ⟨rfl, h0, rfl, rfl, rfl, rfl⟩ | ⟨rfl, h0, h1, rfl, rfl, rfl, rfl⟩ | ⟨rfl, h0, h1, rfl, rfl, rfl, rfl⟩ | ⟨rfl, rfl, h1, h2, h3, rfl, rfl⟩ | ⟨rfl, rfl, h1, h2, h3, h4, rfl, rfl⟩ | ⟨rfl, rfl, rfl, rfl, h1, rfl⟩ | ⟨rfl, rfl, rfl, rfl, rfl, h1, h2⟩
  · simp [pbody]; exact spl_bits h0 hm
  · simp [pbody]; exact spl_bits h0 hm
  · simp [pbody]; exact spl_bits h0 hm
  · have ha : dg (dcm lo.toNat) = lo := by rw [dg_dcm (by omega)]; omega
    have hb : dg (dcm hi.toNat) = hi := by rw [dg_dcm (by omega)]; omega
    simp [pbody]
    exact ⟨(congrArg (fun c => dg c.1) (cut_dash lo.toNat hi.toNat)).trans ha, (congrArg (fun c => dg c.2.1) (cut_dash lo.toNat hi.toNat)).trans hb⟩
  · have ha : dg (dcm lo.toNat) = lo := by rw [dg_dcm (by omega)]; omega
    have hb : dg (dcm hi.toNat) = hi := by rw [dg_dcm (by omega)]; omega
    simp [pbody]
    exact ⟨(congrArg (fun c => dg c.1) (cut_dash lo.toNat hi.toNat)).trans ha, (congrArg (fun c => dg c.2.1) (cut_dash lo.toNat hi.toNat)).trans hb⟩
  · simp [pbody]
  · have ha : dg (dcm nu.toNat) = nu := by rw [dg_dcm (by omega)]; omega
    simp [pbody, ha]
theorem ps_fmt {p : Prd} (h : pok p) (hm : p.mask < 2 ^ 64) : ps (pfmt p) = (p, 0) := by
  unfold ps
  rw [lp_fmt h hm, if_pos ⟨h, rfl⟩]
/-- A text that is read is the text of what it is read as. -/
theorem ps_cases (s : List B8) : (pok (lp s) ∧ pfmt (lp s) = s ∧ ps s = (lp s, 0)) ∨ ((∀ q, pok q → q.mask < 2 ^ 64 → pfmt q ≠ s) ∧ ps s = (.zero, 8)) := by
  by_cases h : pok (lp s) ∧ pfmt (lp s) = s
  · exact .inl ⟨h.1, h.2, by unfold ps; rw [if_pos h]⟩
  · refine .inr ⟨fun q hq hm e => h ?_, by unfold ps; rw [if_neg h]⟩
    subst e
    rw [lp_fmt hq hm]
    exact ⟨hq, rfl⟩
/-- Whoever reads exactly the texts of valid predicates reads as specified. -/
theorem ps_of {s : List B8} {q : Prd} (h : pok q) (hm : q.mask < 2 ^ 64) (e : pfmt q = s) : ps s = (q, 0) := by rw [← e]; exact ps_fmt h hm
theorem ps_bad {s : List B8} (h : ∀ q, pok q → q.mask < 2 ^ 64 → pfmt q ≠ s) (hm : (lp s).mask < 2 ^ 64) : ps s = (.zero, 8) := by
  unfold ps
  rw [if_neg fun hc => h _ hc.1 hm hc.2]
theorem por_lt : ∀ (l : List (List B8)) (a : Nat), a < 2 ^ 64 → por a l < 2 ^ 64
  | [], _, h => h
  | x :: l, a, h => by
    have e : por a (x :: l) = por (if 0 ≤ dg x ∧ dg x < 64 then a ||| 2 ^ (dg x).toNat else a) l := rfl
    rw [e]
    refine por_lt l _ ?_
    split
    · exact Nat.or_lt_two_pow h (Nat.pow_lt_pow_right (by omega) (by omega))
    · exact h
theorem lp_mask (s : List B8) : (lp s).mask < 2 ^ 64 := by
  unfold lp
  simp only
  split
  · exact por_lt _ _ (by omega)
  · split
    · show 0 < _; omega
    · split
      · show 0 < _; omega
      · split
        · show 0 < _; omega
        · show 0 < _; omega

/-! ### Encodings -/
/-- What stands behind the kind. -/
def ebody (p : Prd) : List B8 := if p.kind ≤ 3 then be8 p.mask else if p.kind ≤ 5 then enc p.lo.toNat ++ enc p.hi.toNat else if p.kind = 6 then fld p.name else enc p.num.toNat
def en (p : Prd) : List B8 := enc p.kind.toNat ++ ebody p
/-- Encode: the bytes and the error. -/
def ed (p : Prd) : List B8 × Nat := if pok p then (en p, 0) else ([], 5)
/-- What is read at last: the predicate if it is valid. -/
def fin (p : Prd) (n : Nat) : Prd × Nat × Nat := if pok p then (p, n, 0) else (.zero, 0, 5)
/-- Decode: the predicate, how many bytes it has, the error. -/
def dn (b : List B8) : Prd × Nat × Nat :=
  let (k, u, e) := rd b
  if e ≠ 0 then (.zero, 0, e)
  else if k = 1 ∨ k = 2 ∨ k = 3 then
    if b.length - u < 8 then (.zero, 0, 3) else fin ⟨k, beval ((b.drop u).take 8), 0, 0, [], 0⟩ (u + 8)
  else if k = 4 ∨ k = 5 then
    let (x, u1, e1) := rd (b.drop u)
    if e1 ≠ 0 then (.zero, 0, e1) else
    let (y, u2, e2) := rd (b.drop (u + u1))
    if e2 ≠ 0 then (.zero, 0, e2) else fin ⟨k, 0, x, y, [], 0⟩ (u + u1 + u2)
  else if k = 6 then
    let (x, u1, e1) := rdf (b.drop u)
    if e1 ≠ 0 then (.zero, 0, e1) else fin ⟨k, 0, 0, 0, x, 0⟩ (u + u1)
  else if k = 7 then
    let (x, u1, e1) := rd (b.drop u)
    if e1 ≠ 0 then (.zero, 0, e1) else fin ⟨k, 0, 0, 0, [], x⟩ (u + u1)
  else (.zero, 0, 6)
theorem fin_ok {p : Prd} (h : pok p) (n : Nat) : fin p n = (p, n, 0) := by unfold fin; rw [if_pos h]
theorem fin_bad {p : Prd} (h : ¬ pok p) (n : Nat) : fin p n = (.zero, 0, 5) := by unfold fin; rw [if_neg h]
theorem fin_back {p q : Prd} {n m : Nat} (h : fin p n = (q, m, 0)) : pok p ∧ q = p ∧ m = n := by
  unfold fin at h
  split at h
  · rename_i hp
    injection h with h1 h2
    injection h2 with h2 _
    exact ⟨hp, h1.symm, h2.symm⟩
  · injection h with _ h2
    injection h2 with _ h3
    cases h3
theorem fin_err {p q : Prd} {n m e : Nat} (h : fin p n = (q, m, e)) (he : e ≠ 0) : q = .zero ∧ m = 0 := by
  unfold fin at h
  split at h
  · injection h with _ h2
    injection h2 with _ h3
    exact absurd h3.symm he
  · injection h with h1 h2
    injection h2 with h2 _
    exact ⟨h1.symm, h2.symm⟩
theorem dn_err {b : List B8} {k u e : Nat} (h : rd b = (k, u, e)) (he : e ≠ 0) : dn b = (.zero, 0, e) := by
  unfold dn; rw [h]; simp only; rw [if_pos he]
theorem dn_mask {b : List B8} {k u : Nat} (h : rd b = (k, u, 0)) (hk : k = 1 ∨ k = 2 ∨ k = 3) : dn b = if b.length - u < 8 then (.zero, 0, 3) else fin ⟨k, beval ((b.drop u).take 8), 0, 0, [], 0⟩ (u + 8) := by
  unfold dn; rw [h]; simp only; rw [if_neg (by simp), if_pos hk]
theorem dn_time {b : List B8} {k u x u1 e1 y u2 e2 : Nat} (h : rd b = (k, u, 0)) (hk : k = 4 ∨ k = 5) (h1 : rd (b.drop u) = (x, u1, e1)) (h2 : rd (b.drop (u + u1)) = (y, u2, e2)) :
    dn b = if e1 ≠ 0 then (.zero, 0, e1) else if e2 ≠ 0 then (.zero, 0, e2) else fin ⟨k, 0, x, y, [], 0⟩ (u + u1 + u2) := by
  unfold dn; rw [h]; simp only; rw [if_neg (by simp), if_neg (by omega), if_pos hk, h1]; simp only; rw [h2]
theorem dn_name {b x : List B8} {u u1 e1 : Nat} (h : rd b = (6, u, 0)) (h1 : rdf (b.drop u) = (x, u1, e1)) : dn b = if e1 ≠ 0 then (.zero, 0, e1) else fin ⟨6, 0, 0, 0, x, 0⟩ (u + u1) := by
  unfold dn; rw [h]; simp only; rw [if_neg (by simp), if_neg (by omega), if_neg (by omega), if_pos trivial, h1]; rfl
theorem dn_num {b : List B8} {u x u1 e1 : Nat} (h : rd b = (7, u, 0)) (h1 : rd (b.drop u) = (x, u1, e1)) : dn b = if e1 ≠ 0 then (.zero, 0, e1) else fin ⟨7, 0, 0, 0, [], x⟩ (u + u1) := by
  unfold dn; rw [h]; simp only; rw [if_neg (by simp), if_neg (by omega), if_neg (by omega), if_neg (by omega), if_pos trivial, h1]; rfl
theorem dn_kind {b : List B8} {k u : Nat} (h : rd b = (k, u, 0)) (hk : k = 0 ∨ 7 < k) : dn b = (.zero, 0, 6) := by
  unfold dn; rw [h]; simp only; rw [if_neg (by simp), if_neg (by omega), if_neg (by omega), if_neg (by omega), if_neg (by omega)]
/-- A predicate is read from its encoding, whatever follows. -/
theorem dn_en {p : Prd} (h : pok p) (hm : p.mask < 2 ^ 64) (t : List B8) : dn (en p ++ t) = (p, (en p).length, 0) := by
  have hk := pok_kind h
  have e0 : rd (en p ++ t) = (p.kind.toNat, (enc p.kind.toNat).length, 0) := by
    unfold en
    rw [List.append_assoc]
    exact rd_enc _ (by omega) _
  have ed0 : (en p ++ t).drop (enc p.kind.toNat).length = ebody p ++ t := by
    unfold en
    rw [List.append_assoc, List.drop_left]
  have el : (en p).length = (enc p.kind.toNat).length + (ebody p).length := by unfold en; rw [List.length_append]
  have hc := h
  unfold pok at hc
  obtain ⟨k, m, lo, hi, nm, nu⟩ := p
  simp only at hc hm hk e0 ed0 el
  rcases hc with hc | hc | hc | hc | hc | hc | hc
  case inl | inr.inl | inr.inr.inl =>
    all_goals
      have eb : ebody ⟨k, m, lo, hi, nm, nu⟩ = be8 m := by unfold ebody; rw [if_pos (by show k ≤ 3; omega)]
      rw [eb] at ed0 el
      have hlen : (en ⟨k, m, lo, hi, nm, nu⟩ ++ t).length - (enc k.toNat).length = 8 + t.length := by rw [List.length_append, el, be8_length]; omega
      have ht : (be8 m ++ t).take 8 = be8 m := by rw [← be8_length m]; exact List.take_left
      rw [dn_mask e0 (by omega), hlen, if_neg (by omega), ed0, ht, beval_be8 hm, el, be8_length]
      have ep : (⟨(k.toNat : Int), m, 0, 0, [], 0⟩ : Prd) = ⟨k, m, lo, hi, nm, nu⟩ := by
        rw [show ((k.toNat : Nat) : Int) = k by omega]
        simp [hc]
      rw [ep, fin_ok h]
  case inr.inr.inr.inl | inr.inr.inr.inr.inl =>
    all_goals
      have eb : ebody ⟨k, m, lo, hi, nm, nu⟩ = enc lo.toNat ++ enc hi.toNat := by unfold ebody; rw [if_neg (by show ¬ k ≤ 3; omega), if_pos (by show k ≤ 5; omega)]
      rw [eb] at ed0 el
      have e1 : rd ((en ⟨k, m, lo, hi, nm, nu⟩ ++ t).drop (enc k.toNat).length) = (lo.toNat, (enc lo.toNat).length, 0) := by
        rw [ed0, List.append_assoc]
        exact rd_enc _ (by omega) _
      have e2 : rd ((en ⟨k, m, lo, hi, nm, nu⟩ ++ t).drop ((enc k.toNat).length + (enc lo.toNat).length)) = (hi.toNat, (enc hi.toNat).length, 0) := by
        rw [← List.drop_drop, ed0, List.append_assoc, List.drop_left]
        exact rd_enc _ (by omega) _
      rw [dn_time e0 (by omega) e1 e2, if_neg (by simp), if_neg (by simp), el, List.length_append, Nat.add_assoc]
      have ep : (⟨(k.toNat : Int), 0, (lo.toNat : Int), (hi.toNat : Int), [], 0⟩ : Prd) = ⟨k, m, lo, hi, nm, nu⟩ := by
        rw [show ((k.toNat : Nat) : Int) = k by omega, show ((lo.toNat : Nat) : Int) = lo by omega, show ((hi.toNat : Nat) : Int) = hi by omega]
        simp [hc]
      rw [ep, fin_ok h]
  case inr.inr.inr.inr.inr.inl =>
    obtain ⟨rfl, rfl, rfl, rfl, hn, rfl⟩ := hc
    have eb : ebody ⟨6, 0, 0, 0, nm, 0⟩ = fld nm := by unfold ebody; rfl
    rw [eb] at ed0 el
    have e1 : rdf ((en ⟨6, 0, 0, 0, nm, 0⟩ ++ t).drop (enc (6 : Int).toNat).length) = (nm, (fld nm).length, 0) := by
      rw [ed0]
      exact rdf_fld _ _ (by have := hn.2.1; omega)
    rw [dn_name e0 e1, if_neg (by simp), el, fin_ok h]
  case inr.inr.inr.inr.inr.inr =>
    obtain ⟨rfl, rfl, rfl, rfl, rfl, hn1, hn2⟩ := hc
    have eb : ebody ⟨7, 0, 0, 0, [], nu⟩ = enc nu.toNat := by unfold ebody; rfl
    rw [eb] at ed0 el
    have e1 : rd ((en ⟨7, 0, 0, 0, [], nu⟩ ++ t).drop (enc (7 : Int).toNat).length) = (nu.toNat, (enc nu.toNat).length, 0) := by
      rw [ed0]
      exact rd_enc _ (by omega) _
    have ep : (⟨7, 0, 0, 0, [], (nu.toNat : Int)⟩ : Prd) = ⟨7, 0, 0, 0, [], nu⟩ := by rw [show ((nu.toNat : Nat) : Int) = nu by omega]
    rw [dn_num e0 e1, if_neg (by simp), el, ep, fin_ok h]
end Sh
end Go.Proofs.Ytodmfippjcfbbaa
namespace Go.Proofs.Ytodmfippjcfbbaa
open Go Go.RowKit Sh Leaf
namespace Sh

theorem take_add_drop (b : List B8) (u v : Nat) : b.take (u + v) = b.take u ++ (b.drop u).take v := by rw [List.take_add]
/-- Bytes that are read are the encoding of what they are read as. -/
theorem dn_back {b : List B8} {p : Prd} {n : Nat} (h : dn b = (p, n, 0)) : pok p ∧ p.mask < 2 ^ 64 ∧ n ≤ b.length ∧ en p = b.take n := by
  obtain ⟨k, u, e, hr⟩ : ∃ k u e, rd b = (k, u, e) := ⟨_, _, _, rfl⟩
  by_cases he : e = 0
  · subst he
    obtain ⟨hu, hk, hen⟩ := rd_unique hr
    by_cases h1 : k = 1 ∨ k = 2 ∨ k = 3
    · rw [dn_mask hr h1] at h
      split at h
      · cases h
      · rename_i hl
        obtain ⟨hp, rfl, rfl⟩ := fin_back h
        have h8 : ((b.drop u).take 8).length = 8 := by rw [List.length_take, List.length_drop]; omega
        refine ⟨hp, beval_lt _ (by omega), by omega, ?_⟩
        rw [take_add_drop, ← hen]
        unfold en ebody
        simp only
        rw [if_pos (by omega), be8_beval _ h8, Int.toNat_natCast]
    · by_cases h2 : k = 4 ∨ k = 5
      · obtain ⟨x, u1, e1, hx⟩ : ∃ x u1 e1, rd (b.drop u) = (x, u1, e1) := ⟨_, _, _, rfl⟩
        obtain ⟨y, u2, e2, hy⟩ : ∃ y u2 e2, rd (b.drop (u + u1)) = (y, u2, e2) := ⟨_, _, _, rfl⟩
        rw [dn_time hr h2 hx hy] at h
        by_cases he1 : e1 = 0
        · subst he1
          rw [if_neg (by simp)] at h
          by_cases he2 : e2 = 0
          · subst he2
            rw [if_neg (by simp)] at h
            obtain ⟨hp, rfl, rfl⟩ := fin_back h
            obtain ⟨hu1, hx1, hxn⟩ := rd_unique hx
            obtain ⟨hu2, hy1, hyn⟩ := rd_unique hy
            rw [List.length_drop] at hu1 hu2
            refine ⟨hp, by show 0 < _; omega, by omega, ?_⟩
            rw [take_add_drop, take_add_drop, ← hen, ← hxn, ← hyn]
            unfold en ebody
            simp only
            rw [if_neg (by omega), if_pos (by omega), Int.toNat_natCast, Int.toNat_natCast, Int.toNat_natCast, List.append_assoc]
          · rw [if_pos he2] at h
            injection h with _ h
            injection h with _ h
            exact absurd h he2
        · rw [if_pos he1] at h
          injection h with _ h
          injection h with _ h
          exact absurd h he1
      · by_cases h3 : k = 6
        · subst h3
          obtain ⟨x, u1, e1, hx⟩ : ∃ x u1 e1, rdf (b.drop u) = (x, u1, e1) := ⟨_, _, _, rfl⟩
          rw [dn_name hr hx] at h
          by_cases he1 : e1 = 0
          · subst he1
            rw [if_neg (by simp)] at h
            obtain ⟨hp, rfl, rfl⟩ := fin_back h
            obtain ⟨hb, _, hu1, _⟩ := rdf_back hx
            rw [List.length_drop] at hu1
            refine ⟨hp, by show 0 < _; omega, by omega, ?_⟩
            have ht : (b.drop u).take u1 = fld x := by
              have hl := congrArg List.length hb
              rw [List.length_append, List.length_drop (i := u1), List.length_drop] at hl
              have hf : (fld x).length = u1 := by omega
              rw [hb, ← hf]
              exact List.take_left
            rw [take_add_drop, ← hen, ht]
            rfl
          · rw [if_pos he1] at h
            injection h with _ h
            injection h with _ h
            exact absurd h he1
        · by_cases h4 : k = 7
          · subst h4
            obtain ⟨x, u1, e1, hx⟩ : ∃ x u1 e1, rd (b.drop u) = (x, u1, e1) := ⟨_, _, _, rfl⟩
            rw [dn_num hr hx] at h
            by_cases he1 : e1 = 0
            · subst he1
              rw [if_neg (by simp)] at h
              obtain ⟨hp, rfl, rfl⟩ := fin_back h
              obtain ⟨hu1, hx1, hxn⟩ := rd_unique hx
              rw [List.length_drop] at hu1
              refine ⟨hp, by show 0 < _; omega, by omega, ?_⟩
              rw [take_add_drop, ← hen, ← hxn]
              rfl
            · rw [if_pos he1] at h
              injection h with _ h
              injection h with _ h
              exact absurd h he1
          · rw [dn_kind hr (by omega)] at h
            injection h with _ h
            injection h with _ h
            cases h
  · rw [dn_err hr he] at h
    injection h with _ h
    injection h with _ h
    exact absurd h he
/-- With an error nothing is read. -/
theorem dn_zero {b : List B8} {p : Prd} {n e : Nat} (h : dn b = (p, n, e)) (he : e ≠ 0) : p = .zero ∧ n = 0 := by
  have key : ∀ (c : Nat), c ≠ 0 → ((Prd.zero, 0, c) : Prd × Nat × Nat) = (p, n, e) → p = .zero ∧ n = 0 := fun c _ h => by
    injection h with h1 h2
    injection h2 with h2 _
    exact ⟨h1.symm, h2.symm⟩
  obtain ⟨k, u, c, hr⟩ : ∃ k u e, rd b = (k, u, e) := ⟨_, _, _, rfl⟩
  by_cases hc : c = 0
  · subst hc
    by_cases h1 : k = 1 ∨ k = 2 ∨ k = 3
    · rw [dn_mask hr h1] at h
      split at h
      · exact key 3 (by omega) h
      · exact fin_err h he
    · by_cases h2 : k = 4 ∨ k = 5
      · obtain ⟨x, u1, e1, hx⟩ : ∃ x u1 e1, rd (b.drop u) = (x, u1, e1) := ⟨_, _, _, rfl⟩
        obtain ⟨y, u2, e2, hy⟩ : ∃ y u2 e2, rd (b.drop (u + u1)) = (y, u2, e2) := ⟨_, _, _, rfl⟩
        rw [dn_time hr h2 hx hy] at h
        split at h
        · exact key e1 (by assumption) h
        · split at h
          · exact key e2 (by assumption) h
          · exact fin_err h he
      · by_cases h3 : k = 6
        · subst h3
          obtain ⟨x, u1, e1, hx⟩ : ∃ x u1 e1, rdf (b.drop u) = (x, u1, e1) := ⟨_, _, _, rfl⟩
          rw [dn_name hr hx] at h
          split at h
          · exact key e1 (by assumption) h
          · exact fin_err h he
        · by_cases h4 : k = 7
          · subst h4
            obtain ⟨x, u1, e1, hx⟩ : ∃ x u1 e1, rd (b.drop u) = (x, u1, e1) := ⟨_, _, _, rfl⟩
            rw [dn_num hr hx] at h
            split at h
            · exact key e1 (by assumption) h
            · exact fin_err h he
          · rw [dn_kind hr (by omega)] at h
            exact key 6 (by omega) h
  · rw [dn_err hr hc] at h
    exact key c hc h
/-- No encoding is longer than 24 bytes. -/
theorem en_len {p : Prd} (h : pok p) : (en p).length ≤ 30 := by
  have hk := pok_kind h
  have h1 : (enc p.kind.toNat).length ≤ 7 := enc_len7 (by omega)
  have h2 : (ebody p).length ≤ 23 := by
    unfold pok at h
    unfold ebody
    split
    · rw [be8_length]; omega
    · split
      · have := enc_len7 (n := p.lo.toNat) (by omega)
        have := enc_len7 (n := p.hi.toNat) (by omega)
        rw [List.length_append]; omega
      · split
        · have hn : p.name.length ≤ 16 := by
            rcases h with h | h | h | h | h | h | h
            · omega
            · omega
            · omega
            · omega
            · omega
            · exact h.2.2.2.2.1.2.1
            · omega
          have := fld_len (x := p.name) (by omega)
          omega
        · have := enc_len7 (n := p.num.toNat) (by omega)
          omega
  unfold en
  rw [List.length_append]; omega
theorem en_pos (p : Prd) : 0 < (en p).length := by
  have := enc_pos p.kind.toNat
  unfold en
  rw [List.length_append]; omega
end Sh
end Go.Proofs.Ytodmfippjcfbbaa
namespace Go.Proofs.Ytodmfippjcfbbaa
open Go Go.RowKit Sh Leaf
namespace Sh

/-- A caveat. -/
structure Cav where
  third : Bool
  first : Prd
  party : Int
  ticket : List B8
  box : List B8
deriving DecidableEq
abbrev Cav.zero : Cav := ⟨false, .zero, 0, [], []⟩
/-- A valid caveat. -/
def cvok (c : Cav) : Prop :=
  (c.third = true ∧ c.first = .zero ∧ 0 ≤ c.party ∧ c.party ≤ 7 ∧ 1 ≤ c.ticket.length ∧ c.ticket.length ≤ 1024 ∧ 1 ≤ c.box.length ∧ c.box.length ≤ 1024) ∨
  (c.third = false ∧ pok c.first ∧ c.party = 0 ∧ c.ticket = [] ∧ c.box = [])
theorem cvok_mk {th : Bool} {fi : Prd} {pa : Int} {ti bo : List B8} : cvok ⟨th, fi, pa, ti, bo⟩ ↔ (th = true ∧ fi = .zero ∧ 0 ≤ pa ∧ pa ≤ 7 ∧ 1 ≤ ti.length ∧ ti.length ≤ 1024 ∧ 1 ≤ bo.length ∧ bo.length ≤ 1024) ∨ (th = false ∧ pok fi ∧ pa = 0 ∧ ti = [] ∧ bo = []) := Iff.rfl
instance (c : Cav) : Decidable (cvok c) := by unfold cvok; infer_instance
/-- Its bytes. -/
def cen (c : Cav) : List B8 := if c.third = true then (enc 2 ++ enc c.party.toNat) ++ (fld c.ticket ++ fld c.box) else enc 1 ++ en c.first
/-- Encode: the bytes and the error. -/
def ce (c : Cav) : List B8 × Nat := if cvok c then (cen c, 0) else ([], 5)
/-- What is read at last: the caveat if it is valid. -/
def cfin (c : Cav) (n : Nat) : Cav × Nat × Nat := if cvok c then (c, n, 0) else (.zero, 0, 5)
/-- Decode: the caveat, how many bytes it has, the error. -/
def cdn (b : List B8) : Cav × Nat × Nat :=
  let (n, k, e) := rd b
  if e ≠ 0 then (.zero, 0, e)
  else if n = 1 then
    let (p, k1, e1) := dn (b.drop k)
    if e1 ≠ 0 then (.zero, 0, e1) else cfin ⟨false, p, 0, [], []⟩ (k + k1)
  else if n = 2 then
    let (n2, k2, e2) := rd (b.drop k)
    if e2 ≠ 0 then (.zero, 0, e2) else
    let (t, k3, e3) := rdf (b.drop (k + k2))
    if e3 ≠ 0 then (.zero, 0, e3) else
    let (x, k4, e4) := rdf (b.drop (k + k2 + k3))
    if e4 ≠ 0 then (.zero, 0, e4) else cfin ⟨true, .zero, n2, t, x⟩ (k + k2 + k3 + k4)
  else (.zero, 0, 6)
theorem cfin_ok {c : Cav} (h : cvok c) (n : Nat) : cfin c n = (c, n, 0) := by unfold cfin; rw [if_pos h]
theorem cfin_bad {c : Cav} (h : ¬ cvok c) (n : Nat) : cfin c n = (.zero, 0, 5) := by unfold cfin; rw [if_neg h]
theorem cdn_err {b : List B8} {n k e : Nat} (h : rd b = (n, k, e)) (he : e ≠ 0) : cdn b = (.zero, 0, e) := by
  unfold cdn; simp only [h, if_pos he]
theorem cdn_first {b : List B8} {k k1 e1 : Nat} {p : Prd} (h : rd b = (1, k, 0)) (h1 : dn (b.drop k) = (p, k1, e1)) : cdn b = if e1 ≠ 0 then (.zero, 0, e1) else cfin ⟨false, p, 0, [], []⟩ (k + k1) := by
  unfold cdn; simp only [h, h1]; simp
theorem cdn_third {b : List B8} {k n2 k2 e2 k3 e3 k4 e4 : Nat} {t x : List B8} (h : rd b = (2, k, 0)) (h2 : rd (b.drop k) = (n2, k2, e2)) (h3 : rdf (b.drop (k + k2)) = (t, k3, e3)) (h4 : rdf (b.drop (k + k2 + k3)) = (x, k4, e4)) :
    cdn b = if e2 ≠ 0 then (.zero, 0, e2) else if e3 ≠ 0 then (.zero, 0, e3) else if e4 ≠ 0 then (.zero, 0, e4) else cfin ⟨true, .zero, n2, t, x⟩ (k + k2 + k3 + k4) := by
  unfold cdn; simp only [h, h2, h3, h4]; simp
theorem cdn_kind {b : List B8} {n k : Nat} (h : rd b = (n, k, 0)) (h1 : n ≠ 1) (h2 : n ≠ 2) : cdn b = (.zero, 0, 6) := by
  unfold cdn; simp only [h]; simp [h1, h2]
theorem cav_mask {c : Cav} (h : cvok c) (hm : c.third = false → c.first.mask < 2 ^ 64) : c.first.mask < 2 ^ 64 := by
  rcases h with ⟨_, h, _⟩ | ⟨h, _⟩
  · rw [h]; decide
  · exact hm h
theorem drop_app {l t : List B8} : (l ++ t).drop l.length = t := List.drop_left
theorem cdn_en {c : Cav} (h : cvok c) (hm : c.first.mask < 2 ^ 64) (t : List B8) : cdn (cen c ++ t) = (c, (cen c).length, 0) := by
  rcases id h with ⟨h1, h2, h3, h4, h5, h6, h7, h8⟩ | ⟨h1, h2, h3, h4, h5⟩
  · obtain ⟨th, fi, pa, ti, bo⟩ := c
    dsimp only at h1 h2 h3 h4 h5 h6 h7 h8
    subst h1 h2
    obtain ⟨n2, rfl⟩ := Int.eq_ofNat_of_zero_le h3
    have hn2 : n2 ≤ 281474976710656 := by omega
    have e0 : cen ⟨true, .zero, (n2 : Int), ti, bo⟩ = enc 2 ++ (enc n2 ++ (fld ti ++ fld bo)) := by
      unfold cen; rw [if_pos rfl, List.append_assoc]; rfl
    have r1 := rd_enc 2 (by omega) (enc n2 ++ (fld ti ++ (fld bo ++ t)))
    have r2 := rd_enc n2 hn2 (fld ti ++ (fld bo ++ t))
    have r3 := rdf_fld ti (fld bo ++ t) h6
    have r4 := rdf_fld bo t h8
    have eb : cen ⟨true, .zero, (n2 : Int), ti, bo⟩ ++ t = enc 2 ++ (enc n2 ++ (fld ti ++ (fld bo ++ t))) := by rw [e0]; simp only [List.append_assoc]
    rw [eb]
    have d1 : (enc 2 ++ (enc n2 ++ (fld ti ++ (fld bo ++ t)))).drop (enc 2).length = enc n2 ++ (fld ti ++ (fld bo ++ t)) := drop_app
    have d2 : (enc 2 ++ (enc n2 ++ (fld ti ++ (fld bo ++ t)))).drop ((enc 2).length + (enc n2).length) = fld ti ++ (fld bo ++ t) := by rw [← List.drop_drop, d1, drop_app]
    have d3 : (enc 2 ++ (enc n2 ++ (fld ti ++ (fld bo ++ t)))).drop ((enc 2).length + (enc n2).length + (fld ti).length) = fld bo ++ t := by rw [← List.drop_drop, d2, drop_app]
    rw [← d1] at r2
    rw [← d2] at r3
    rw [← d3] at r4
    rw [cdn_third r1 r2 r3 r4]
    rw [if_neg (by simp), if_neg (by simp), if_neg (by simp), cfin_ok h, e0]
    simp only [List.length_append, Nat.add_assoc]
  · obtain ⟨th, fi, pa, ti, bo⟩ := c
    dsimp only at h1 h2 h3 h4 h5 hm
    subst h1 h3 h4 h5
    have e0 : cen ⟨false, fi, 0, [], []⟩ = enc 1 ++ en fi := by unfold cen; rw [if_neg (by simp)]
    have r1 := rd_enc 1 (by omega) (en fi ++ t)
    have r2 := dn_en h2 hm t
    have d1 : (enc 1 ++ (en fi ++ t)).drop (enc 1).length = en fi ++ t := drop_app
    rw [← d1] at r2
    rw [e0, List.append_assoc, cdn_first r1 r2, if_neg (by simp), cfin_ok h, List.length_append]
theorem cdn_back {b : List B8} {c : Cav} {n : Nat} (h : cdn b = (c, n, 0)) : cvok c ∧ c.first.mask < 2 ^ 64 ∧ n ≤ b.length ∧ cen c = b.take n := by
  obtain ⟨⟨m, k, e⟩, hr⟩ : ∃ r, r = rd b := ⟨_, rfl⟩
  have hr := hr.symm
  by_cases he : e = 0
  · subst he
    obtain ⟨u1, u2, u3⟩ := rd_unique hr
    by_cases h1 : m = 1
    · subst h1
      obtain ⟨⟨p, k1, e1⟩, hd⟩ : ∃ r, r = dn (b.drop k) := ⟨_, rfl⟩
      have hd := hd.symm
      rw [cdn_first hr hd] at h
      by_cases he1 : e1 = 0
      · subst he1
        rw [if_neg (by simp)] at h
        by_cases hv : cvok ⟨false, p, 0, [], []⟩
        · rw [cfin_ok hv] at h
          injection h with q1 q2
          injection q2 with q2 _
          subst q1 q2
          obtain ⟨b1, b2, b3, b4⟩ := dn_back hd
          rw [List.length_drop] at b3
          refine ⟨hv, b2, by omega, ?_⟩
          unfold cen
          rw [if_neg (by simp), u3, List.take_add, b4]
        · rw [cfin_bad hv] at h
          injection h with _ q2; injection q2 with _ q2; cases q2
      · rw [if_pos he1] at h
        injection h with _ q2; injection q2 with _ q2; exact absurd q2 he1
    · by_cases h2 : m = 2
      · subst h2
        obtain ⟨⟨n2, k2, e2⟩, hp⟩ : ∃ r, r = rd (b.drop k) := ⟨_, rfl⟩
        obtain ⟨⟨t, k3, e3⟩, ht⟩ : ∃ r, r = rdf (b.drop (k + k2)) := ⟨_, rfl⟩
        obtain ⟨⟨x, k4, e4⟩, hx⟩ : ∃ r, r = rdf (b.drop (k + k2 + k3)) := ⟨_, rfl⟩
        have hp := hp.symm
        have ht := ht.symm
        have hx := hx.symm
        rw [cdn_third hr hp ht hx] at h
        by_cases he2 : e2 = 0
        case neg => rw [if_pos he2] at h; injection h with _ q2; injection q2 with _ q2; exact absurd q2 he2
        by_cases he3 : e3 = 0
        case neg => rw [if_neg (by simp [he2]), if_pos he3] at h; injection h with _ q2; injection q2 with _ q2; exact absurd q2 he3
        by_cases he4 : e4 = 0
        case neg => rw [if_neg (by simp [he2]), if_neg (by simp [he3]), if_pos he4] at h; injection h with _ q2; injection q2 with _ q2; exact absurd q2 he4
        subst he2 he3 he4
        rw [if_neg (by simp), if_neg (by simp), if_neg (by simp)] at h
        by_cases hv : cvok ⟨true, .zero, n2, t, x⟩
        · rw [cfin_ok hv] at h
          injection h with q1 q2
          injection q2 with q2 _
          subst q1 q2
          obtain ⟨v1, v2, v3⟩ := rd_unique hp
          obtain ⟨t1, t2, t3, t4⟩ := rdf_back ht
          obtain ⟨x1, x2, x3, x4⟩ := rdf_back hx
          rw [List.length_drop] at v1 t3 x3
          have tf : fld t = (b.drop (k + k2)).take k3 := by
            have hl : (fld t).length = k3 := by
              have := congrArg List.length t1
              simp only [List.length_append, List.length_drop] at this; omega
            rw [t1, ← hl, List.take_left]
          have xf : fld x = (b.drop (k + k2 + k3)).take k4 := by
            have hl : (fld x).length = k4 := by
              have := congrArg List.length x1
              simp only [List.length_append, List.length_drop] at this; omega
            rw [x1, ← hl, List.take_left]
          refine ⟨hv, (by show (0 : Nat) < 2 ^ 64; decide), by omega, ?_⟩
          unfold cen
          rw [if_pos rfl]
          dsimp only
          rw [Int.toNat_natCast, u3, v3, tf, xf, show k + k2 + k3 + k4 = k + (k2 + (k3 + k4)) by omega, List.take_add, List.take_add, List.take_add, List.drop_drop, List.drop_drop, List.append_assoc, Nat.add_assoc]
        · rw [cfin_bad hv] at h
          injection h with _ q2; injection q2 with _ q2; cases q2
      · rw [cdn_kind hr h1 h2] at h
        injection h with _ q2; injection q2 with _ q2; cases q2
  · rw [cdn_err hr he] at h
    injection h with _ q2; injection q2 with _ q2; exact absurd q2 he
theorem cfin_zero {c d : Cav} {n m e : Nat} (h : cfin c n = (d, m, e)) (he : e ≠ 0) : d = .zero ∧ m = 0 := by
  by_cases hv : cvok c
  · rw [cfin_ok hv] at h; injection h with _ q; injection q with _ q; exact absurd q.symm he
  · rw [cfin_bad hv] at h; injection h with q1 q; injection q with q _; exact ⟨q1.symm, q.symm⟩
theorem cen_pos (c : Cav) : 0 < (cen c).length := by
  unfold cen
  split
  · have := enc_pos 2; simp only [List.length_append]; omega
  · have := enc_pos 1; simp only [List.length_append]; omega
theorem cen_len {c : Cav} (h : cvok c) : (cen c).length ≤ 2100 := by
  rcases id h with ⟨h1, h2, h3, h4, h5, h6, h7, h8⟩ | ⟨h1, h2, h3, h4, h5⟩
  · unfold cen
    rw [if_pos h1]
    have := enc_len7 (n := 2) (by omega)
    have := enc_len7 (n := c.party.toNat) (by omega)
    have := fld_len (x := c.ticket) (by omega)
    have := fld_len (x := c.box) (by omega)
    simp only [List.length_append]; omega
  · unfold cen
    rw [if_neg (by rw [h1]; simp)]
    have := enc_len7 (n := 1) (by omega)
    have := en_len h2
    simp only [List.length_append]; omega
theorem cen_inj {c d : Cav} (hc : cvok c) (hd : cvok d) (mc : c.first.mask < 2 ^ 64) (md : d.first.mask < 2 ^ 64) (h : cen c = cen d) : c = d := by
  have h1 := cdn_en hc mc []
  have h2 := cdn_en hd md []
  rw [h, h2] at h1
  injection h1 with h1
  exact h1.symm
end Sh
end Go.Proofs.Ytodmfippjcfbbaa
namespace Go.Proofs.Ytodmfippjcfbbaa
open Go Go.RowKit Sh Leaf

theorem run_field_one {P : Program} {t : TypeId} {fs : Array Field} (ht : P.underlying t = some (.struct fs)) (i : Nat) (f : Field) (hf : fs[i]? = some f) {d : TypeDesc} (hu : P.underlying f.type = some d) (hd : d.isRow = false) (cs : Array Value) (v : Value) (hv : cs[f.offset]? = some v) (W : World) :
    (Instr.field t (.agg cs) i).run P W = .ok v W := by
  have hagg : (isAgg f.type).run P W = .ok false W := by
    unfold isAgg
    rw [Sem.run_bind, run_underlying hu W]
    cases d <;> simp_all
  have ha : (asAgg (.agg cs)).run P W = .ok cs W := rfl
  simp [Instr.field, run_underlying ht, hf, Go.part, ha, hagg, hv]
end Go.Proofs.Ytodmfippjcfbbaa
