/-
  Bytes as integers; a block that is known whole; what a call that only makes blocks leaves.
  Layer 8 in plain words: spans, sets of minutes, the only summary of a set.
  Layer 8 in plain words: what the reference gathers minute by minute, and its spans.
  Plain words for layer 3: the bytes of a number, and the number at the beginning of bytes. No function of a program is named here.
  Plain words for layer 4: a field, the field at the beginning of bytes, fields joined, the fields of which bytes consist. No function of a program is named here.
  Texts in plain words: numbers in decimal, a text cut at a byte, parts joined by a byte.
  Names and numbers of eight bytes in plain words.
  Layer 6 in plain words: predicates, their texts, their encodings.
  Layer 7 in plain words: contexts, and whether predicates hold for them.
  Layer 8 in plain words: valid summaries, the rides in them, the one summary of a set of rides.
  Layer 9 in plain words: the order of rides, the first ride, the first ride of one authority that is not one of another.
  What a call leaves that writes block g alone: blocks of cells elsewhere stay, and the first cell of g (Oth).
  A field of a struct value.
  Days that the reference's later leaves out: nothing differs there first.
-/
import Derived.Laws.BitsAllLaws
import Derived.Laws.BitsLemmas
import Derived.IntWalk
import Derived.Test.YtgbcncfhmnhljaaDoorChecked
import Derived.WalkKit
import Derived.WalkLawsBesides
import Derived.Deep.WholeRow
import Derived.Deep.MidRow
import Derived.Deep.Draws
import Derived.Lib.Hide
namespace Go.Proofs.YtgbcncfhmnhljaaDoor
namespace Sh
open Go
abbrev B8 := BitVec 8
/-- The integer that stands for a byte. -/
@[irreducible] def bv (x : B8) : Int := (x.toNat : Int)
theorem bv_nonneg (x : B8) : 0 ≤ bv x := by unfold bv; exact Int.natCast_nonneg _
theorem bv_le (x : B8) : bv x ≤ 255 := by unfold bv; have := x.isLt; omega
theorem bv_inj {x y : B8} (h : bv x = bv y) : x = y := by unfold bv at h; exact BitVec.eq_of_toNat_eq (by omega)
theorem bv_ofNat (n : Nat) : bv (BitVec.ofNat 8 n) = ((n % 256 : Nat) : Int) := by unfold bv; rw [BitVec.toNat_ofNat]
end Sh
namespace Leaf
end Leaf
open Go Go.RowKit Sh Leaf

theorem ret_int {k : IntKind} {a b : Int} (h : a = b) : Ending.returned (.int k a) = .returned (.int k b) := by rw [h]
theorem ofInt_bv (x : B8) : BitVec.ofInt 8 (bv x) = x := by
  unfold bv; rw [BitVec.ofInt_natCast]; simp
theorem wrap_bv (x : B8) : IntKind.u8.wrap (bv x) = bv x := by
  have h1 := bv_nonneg x
  have h2 := bv_le x
  have e : ∀ z : Int, 0 ≤ z → z ≤ 255 → IntKind.u8.wrap z = z := fun z h1 h2 => by
    rw [IntKind.wrap_u8]; omega
  exact e _ h1 h2
theorem wrap_toNat8 (x : B8) : IntKind.u8.wrap (x.toNat : Int) = bv x := by have := wrap_bv x; unfold bv at this ⊢; exact this
theorem bits_xor_bv (x y : B8) : bits .xor .u8 (bv x) (bv y) = bv (x ^^^ y) := by
  show IntKind.u8.wrap ((BitVec.ofInt 8 (bv x) ^^^ BitVec.ofInt 8 (bv y)).toNat : Int) = _
  rw [ofInt_bv, ofInt_bv]; exact wrap_toNat8 _
theorem bits_or_bv (x y : B8) : bits .or .u8 (bv x) (bv y) = bv (x ||| y) := by
  show IntKind.u8.wrap ((BitVec.ofInt 8 (bv x) ||| BitVec.ofInt 8 (bv y)).toNat : Int) = _
  rw [ofInt_bv, ofInt_bv]; exact wrap_toNat8 _
theorem bv_zero : bv 0 = 0 := by unfold bv; rfl
theorem bv_lit (n : Nat) (h : n < 256) : bv (BitVec.ofNat 8 n) = (n : Int) := by rw [bv_ofNat]; omega
abbrev byt (x : B8) : Value := .int .u8 (bv x)
@[irreducible] def brow (n : Nat) (f : Nat → B8) : Array Value := ((List.range n).map fun j => byt (f j)).toArray
theorem brow_size (n : Nat) (f : Nat → B8) : (brow n f).size = n := by unfold brow; simp
theorem brow_get (n : Nat) (f : Nat → B8) (j : Nat) (h : j < n) : (brow n f)[j]? = some (byt (f j)) := by unfold brow; simp [h]
theorem brow_congr {n : Nat} {f g : Nat → B8} (h : ∀ j, j < n → f j = g j) : brow n f = brow n g := by
  unfold brow
  congr 1
  exact List.map_congr_left fun j hj => by rw [h j (List.mem_range.1 hj)]
theorem brow_set (n : Nat) (f : Nat → B8) (k : Nat) (x : B8) (hk : k < n) : (brow n f).setIfInBounds k (byt x) = brow n (fun j => if j = k then x else f j) := by
  apply Array.ext_getElem?
  intro i
  rw [Array.getElem?_setIfInBounds, brow_size]
  by_cases hi : k = i
  · subst hi; simp [hk, brow_get]
  · rw [if_neg hi]
    by_cases hn : i < n
    · rw [brow_get n _ i hn, brow_get n _ i hn, if_neg (fun e => hi e.symm)]
    · rw [Array.getElem?_eq_none (by rw [brow_size]; omega), Array.getElem?_eq_none (by rw [brow_size]; omega)]
theorem brow_one (n : Nat) (f : Nat → B8) : (brow n f).all (·.oneCell') = true := by
  rw [Array.all_eq_true_iff_forall_mem]
  intro v hv
  unfold brow at hv
  simp at hv
  obtain ⟨j, _, rfl⟩ := hv
  rfl
theorem brow_list (l : List B8) : brow l.length (fun j => l.getD j 0) = (l.map byt).toArray := by
  apply Array.ext_getElem?
  intro i
  by_cases h : i < l.length
  · rw [brow_get _ _ _ h]; simp [h, List.getD_eq_getElem?_getD]
  · rw [Array.getElem?_eq_none (by rw [brow_size]; omega), Array.getElem?_eq_none (by simp; omega)]
theorem brow_zero (n : Nat) : brow n (fun _ => 0) = Array.replicate n (.int .u8 0) := by
  have h0 : bv 0 = 0 := by unfold bv; rfl
  unfold brow
  apply Array.ext_getElem?
  intro i
  by_cases h : i < n
  · simp [h]; exact h0
  · simp [h]

/-- Block g is just the cells cs of type t, and none of them is frozen. -/
def Whole (w : World) (g : Nat) (t : TypeId) (cs : Array Value) : Prop := w.heap[g]? = some (.cells cs t (0, 0))
section
variable {w w' : World} {g : Nat} {t : TypeId} {cs : Array Value}
theorem Whole.lt (h : Whole w g t cs) : g < w.heap.size := by
  unfold Whole at h
  rcases Nat.lt_or_ge g w.heap.size with hl | hl
  · exact hl
  · rw [Array.getElem?_eq_none hl] at h; cases h
theorem Whole.eq (h : Whole w g t cs) : w.heap[g]? = some (.cells cs t (0, 0)) := h
theorem Whole.cell (h : Whole w g t cs) (i : Nat) : w.cell? ⟨g, i, none⟩ = cs[i]? := cell_of_row w g i cs t (0, 0) h
theorem Whole.frozen (h : Whole w g t cs) (i : Nat) : w.frozen? ⟨g, i, none⟩ = false := frozen_of_row w g i cs t h
theorem Whole.alloc (h : Whole w g t cs) (o : Obj) : Whole (w.alloc o) g t cs := (Below.heap_alloc w o g h.lt).trans h
theorem Whole.set (h : Whole w g t cs) (i : Nat) (v : Value) : Whole (w.setCell ⟨g, i, none⟩ v) g t (cs.setIfInBounds i v) := heap_setCell_same w g i cs t v h
theorem Whole.far (h : Whole w g t cs) {a : Addr} (ha : g ≠ a.block) (v : Value) : Whole (w.setCell a v) g t cs := (heap_setCell_other w a g v ha).trans h
theorem Whole.below {B : Nat} (h : Whole w g t cs) (hb : Below B w w') (hg : g < B) : Whole w' g t cs := (hb.block g hg).trans h
theorem Whole.drewN (h : Whole w g t cs) (n : Nat) : Whole (w.drewN n) g t cs := h
theorem Whole.drew (h : Whole w g t cs) : Whole w.drew g t cs := h
theorem Whole.here (w : World) (t : TypeId) (cs : Array Value) : Whole (w.alloc (.cells cs t)) w.heap.size t cs := heap_alloc_new w _
theorem Whole.at_ (w : World) (t : TypeId) (cs : Array Value) (g : Nat) (hg : g = w.heap.size) : Whole (w.alloc (.cells cs t)) g t cs := by subst hg; exact Whole.here w t cs
end
theorem bcell {W w1 : World} (hb : Below W.heap.size W w1) : (∀ b o, b < W.heap.size → w1.cell? ⟨b, o, none⟩ = W.cell? ⟨b, o, none⟩) ∧ (∀ b o, b < W.heap.size → w1.frozen? ⟨b, o, none⟩ = W.frozen? ⟨b, o, none⟩) :=
  ⟨fun b o h => hb.cell (p := ⟨b, o, none⟩) h, fun b o h => hb.frozen (p := ⟨b, o, none⟩) h⟩
theorem below_drewN {B : Nat} {a w : World} (h : Below B a w) (n : Nat) : Below B a (w.drewN n) := ⟨h.os, h.tape, h.output, h.size, h.block⟩
theorem below_setRow {B : Nat} {a w : World} (h : Below B a w) {g : Nat} (hg : B ≤ g) (cs : Array Value) : Below B a (w.setRow g cs) :=
  h.trans ⟨rfl, rfl, rfl, by simp, fun k hk => setRow_other w g k cs (by omega)⟩
theorem Whole.setRow {w : World} {g : Nat} {t : TypeId} {cs : Array Value} (h : Whole w g t cs) (cs' : Array Value) : Whole (w.setRow g cs') g t cs' := setRow_heap w g cs cs' t _ h
theorem Whole.setRow_far {w : World} {g g' : Nat} {t : TypeId} {cs : Array Value} (h : Whole w g t cs) (hg : g ≠ g') (cs' : Array Value) : Whole (w.setRow g' cs') g t cs := (setRow_other w g' g cs' hg).trans h

/-! ### A part of an array -/
section
variable {P : Program}
theorem run_sizeOf_one {e : TypeId} (hc : (P.info? e).map (·.size) = some 1) (W : World) : (sizeOf e).run P W = .ok 1 W := by
  cases hq : P.info? e with
  | none => simp [hq] at hc
  | some i => simp [hq] at hc; simp [sizeOf, typeInfo, hq, hc]
theorem run_sliceAt_arr {t e : TypeId} {n : Nat} (ht : P.underlying t = some (.array n e)) (hc : (P.info? e).map (·.size) = some 1) (g l h : Nat) (h1 : l < h) (h2 : h ≤ n) (W : World) :
    (Instr.sliceAt t (.pointer (some ⟨g, 0, none⟩)) (some (.int .i64 (l : Int))) (some (.int .i64 (h : Int))) none).run P W = .ok (.slice (some ⟨g, l, none⟩) (h - l) (n - l)) W := by
  have e1 := run_sliceBound (P := P) W .i64 (h : Int) n .sliceAlen (by omega) (by omega)
  have e2 := run_sliceBound (P := P) W .i64 (l : Int) h .sliceB (by omega) (by omega)
  have ha : (⟨g, 0, none⟩ : Addr).add l = ⟨g, l, none⟩ := by rw [Addr.add_mid]; simp
  have hne : ¬ n = l := by omega
  simp [Instr.sliceAt, run_underlying ht, Instr.sureAddr, Instr.sliceBounds, e1, e2, run_sizeOf_one hc, ha, hne]
theorem run_arrayAt {t e : TypeId} {n : Nat} (ht : P.underlying t = some (.array n e)) (a : Option Addr) (len c : Nat) (h : n ≤ len) (W : World) :
    (Instr.arrayAt t (.slice a len c)).run P W = .ok (.pointer a) W := by
  have hn : ¬ len < n := by omega
  simp [Instr.arrayAt, run_underlying ht, hn]
theorem run_index_agg {t e : TypeId} {n : Nat} {d : TypeDesc} (ht : P.underlying t = some (.array n e)) (he : P.underlying e = some d) (hd : d.isRow = false)
    (hc : (P.info? e).map (·.size) = some 1) (cs : Array Value) (k : Nat) (v : Value) (hk : k < n) (hv : cs[k]? = some v) (W : World) :
    (Instr.index t (.agg cs) (.int .i64 (k : Int))).run P W = .ok v W := by
  have hagg : (isAgg e).run P W = .ok false W := by
    unfold isAgg
    rw [Sem.run_bind, run_underlying he W]
    cases d <;> simp_all
  simp [Instr.index, asIntOf, run_underlying ht, hk, run_sizeOf_one hc, Go.part, hagg, hv]
theorem wpList_build_as {ops : Array Oper} {rest : List Oper} {o : Oper} {a : Act} {w : World} {Q : Exit → Act → World → Prop} (hg : o.guard = none) (t : TypeId) (parts : Array (Nat × Operand)) (ho : o.op = .build t parts)
    (cs : Array Value) (hv : P.built t (parts.map fun (i, x) => (i, a.eval x)).toList = some cs) (h : wpList P ops Q rest (a.put o.dst (.agg cs)) w) : wpList P ops Q (o :: rest) a w :=
  wpList_build hg t parts ho (by rw [hv]; rfl) (by rw [hv]; exact h)
end
/-- A whole array as a slice. -/
theorem run_sliceAt_whole {P : Program} {t e : TypeId} {n : Nat} (ht : P.underlying t = some (.array n e)) (hc : (P.info? e).map (·.size) = some 1) (g : Nat) (W : World) :
    (Instr.sliceAt t (.pointer (some ⟨g, 0, none⟩)) none none none).run P W = .ok (.slice (some ⟨g, 0, none⟩) n n) W := by
  have ha : (⟨g, 0, none⟩ : Addr).add 0 = ⟨g, 0, none⟩ := by rw [Addr.add_mid]
  simp [Instr.sliceAt, run_underlying ht, Instr.sureAddr, Instr.sliceBounds, run_sizeOf_one hc, ha]
theorem Whole.range {w : World} {g : Nat} {t : TypeId} {cs : List Value} (h : Whole w g t cs.toArray) : w.rangeAt g 0 cs := fun j v hj => by
  rw [Nat.zero_add, h.cell, List.getElem?_toArray]
  exact hj
theorem wpList_load_wanted {ops : Array Oper} {rest : List Oper} {o : Oper} {a : Act} {w : World} {Q : Exit → Act → World → Prop} (hgd : Region.wanted o (yielded ops a.tmps) = true) (ty : TypeId) (x : Operand) (ho : o.op = .load ty x)
    (g : Nat) (hx : a.eval x = .pointer (some ⟨g, 0, none⟩)) (cs : List Value) (d : TypeDesc) (hc : w.rangeAt g 0 cs)
    (hu : Tryd.prog.underlying ty = some d) (hd : d.isRow = true) (hi : (Tryd.prog.info? ty).map (·.size) = some cs.length)
    (h : wpList Tryd.prog ops Q rest (a.put o.dst (.agg cs.toArray)) w) : wpList Tryd.prog ops Q (o :: rest) a w := by
  show if Region.wanted o (yielded ops a.tmps) then _ else _
  rw [if_pos hgd]
  left
  exact wp_load_mid ty x ho g 0 hx cs d hc hu hd hi h
end Go.Proofs.YtgbcncfhmnhljaaDoor
namespace Go.Proofs.YtgbcncfhmnhljaaDoor
open Go Go.RowKit Sh Leaf
namespace Sh

/-! ### Spans -/
/-- k lies in one of the spans. -/
def spm (l : List (Int × Int)) (k : Int) : Prop := ∃ s ∈ l, s.1 ≤ k ∧ k ≤ s.2
/-- Ascending spans from lo on that do not touch. -/
def sepA : Int → List (Int × Int) → Prop
  | _, [] => True
  | lo, s :: t => lo ≤ s.1 ∧ s.1 ≤ s.2 ∧ sepA (s.2 + 2) t
theorem spm_nil (k : Int) : ¬ spm [] k := fun ⟨_, h, _⟩ => by cases h
theorem spm_cons (s : Int × Int) (t : List (Int × Int)) (k : Int) : spm (s :: t) k ↔ (s.1 ≤ k ∧ k ≤ s.2) ∨ spm t k := by
  constructor
  · rintro ⟨x, hx, h⟩
    rcases List.mem_cons.1 hx with rfl | hx
    · exact .inl h
    · exact .inr ⟨x, hx, h⟩
  · rintro (h | ⟨x, hx, h⟩)
    · exact ⟨s, by simp, h⟩
    · exact ⟨x, List.mem_cons_of_mem _ hx, h⟩
theorem spm_append (l m : List (Int × Int)) (k : Int) : spm (l ++ m) k ↔ spm l k ∨ spm m k := by
  constructor
  · rintro ⟨x, hx, h⟩
    rcases List.mem_append.1 hx with hx | hx
    · exact .inl ⟨x, hx, h⟩
    · exact .inr ⟨x, hx, h⟩
  · rintro (⟨x, hx, h⟩ | ⟨x, hx, h⟩)
    · exact ⟨x, List.mem_append_left _ hx, h⟩
    · exact ⟨x, List.mem_append_right _ hx, h⟩
theorem sepA_ge : ∀ {l : List (Int × Int)} {lo k : Int}, sepA lo l → spm l k → lo ≤ k
  | [], _, _, _, h => absurd h (spm_nil _)
  | s :: t, lo, k, h, hk => by
    obtain ⟨h1, h2, h3⟩ := h
    rcases (spm_cons s t k).1 hk with h | h
    · omega
    · have := sepA_ge h3 h; omega
/-- Spans that do not touch are known by what lies in them. -/
theorem sep_unique : ∀ {l m : List (Int × Int)} {lo : Int}, sepA lo l → sepA lo m → (∀ k, spm l k ↔ spm m k) → l = m
  | [], [], _, _, _, _ => rfl
  | [], s :: t, _, _, hm, h => absurd ((h s.1).2 ((spm_cons s t s.1).2 (.inl ⟨Int.le_refl _, hm.2.1⟩))) (spm_nil _)
  | s :: t, [], _, hl, _, h => absurd ((h s.1).1 ((spm_cons s t s.1).2 (.inl ⟨Int.le_refl _, hl.2.1⟩))) (spm_nil _)
  | s :: t, s' :: t', lo, hl, hm, h => by
    obtain ⟨h1, h2, h3⟩ := hl
    obtain ⟨g1, g2, g3⟩ := hm
    have e1 : s'.1 ≤ s.1 := by
      rcases (spm_cons s' t' s.1).1 ((h s.1).1 ((spm_cons s t s.1).2 (.inl ⟨Int.le_refl _, h2⟩))) with q | q
      · exact q.1
      · have := sepA_ge g3 q; omega
    have e2 : s.1 ≤ s'.1 := by
      rcases (spm_cons s t s'.1).1 ((h s'.1).2 ((spm_cons s' t' s'.1).2 (.inl ⟨Int.le_refl _, g2⟩))) with q | q
      · exact q.1
      · have := sepA_ge h3 q; omega
    have e3 : ¬ s.2 < s'.2 := fun hlt => by
      rcases (spm_cons s t (s.2 + 1)).1 ((h (s.2 + 1)).2 ((spm_cons s' t' _).2 (.inl ⟨by omega, by omega⟩))) with q | q
      · omega
      · have := sepA_ge h3 q; omega
    have e4 : ¬ s'.2 < s.2 := fun hlt => by
      rcases (spm_cons s' t' (s'.2 + 1)).1 ((h (s'.2 + 1)).1 ((spm_cons s t _).2 (.inl ⟨by omega, by omega⟩))) with q | q
      · omega
      · have := sepA_ge g3 q; omega
    have es : s = s' := Prod.ext (by omega) (by omega)
    subst es
    have ht : t = t' := sep_unique h3 g3 fun k => by
      constructor
      · intro hk
        have := sepA_ge h3 hk
        rcases (spm_cons s t' k).1 ((h k).1 ((spm_cons s t k).2 (.inr hk))) with q | q
        · omega
        · exact q
      · intro hk
        have := sepA_ge g3 hk
        rcases (spm_cons s t k).1 ((h k).2 ((spm_cons s t' k).2 (.inr hk))) with q | q
        · omega
        · exact q
    rw [ht]

/-! ### Minutes -/
/-- The minutes from F to L on the days of the week D whose minute of the day is in M. -/
def inT (F L D : Nat) (M : Nat → Prop) (x : Nat) : Prop := F ≤ x ∧ x ≤ L ∧ D / 2 ^ (x / 1440 % 7) % 2 = 1 ∧ M (x % 1440)
/-- The first and the last ten days decide. -/
theorem near_low {F L D : Nat} {M : Nat → Prop} {x : Nat} (h : inT F L D M x) : ∃ y, inT F L D M y ∧ y ≤ x ∧ y % 1440 = x % 1440 ∧ y / 1440 % 7 = x / 1440 % 7 ∧ F / 1440 ≤ y / 1440 ∧ y / 1440 ≤ F / 1440 + 9 := by
  obtain ⟨h1, h2, h3, h4⟩ := h
  by_cases hd : x / 1440 ≤ F / 1440 + 9
  · exact ⟨x, ⟨h1, h2, h3, h4⟩, Nat.le_refl _, rfl, rfl, by omega, hd⟩
  · obtain ⟨d, hd0⟩ : ∃ d, d = F / 1440 + 1 + (x / 1440 - F / 1440 - 1) % 7 := ⟨_, rfl⟩
    have e1 : (d * 1440 + x % 1440) / 1440 = d := by omega
    have e2 : (d * 1440 + x % 1440) % 1440 = x % 1440 := by omega
    have e3 : d % 7 = x / 1440 % 7 := by omega
    refine ⟨d * 1440 + x % 1440, ⟨by omega, by omega, ?_, ?_⟩, by omega, e2, by rw [e1, e3], by omega, by omega⟩
    · rw [e1, e3]; exact h3
    · rw [e2]; exact h4
theorem near_high {F L D : Nat} {M : Nat → Prop} {x : Nat} (h : inT F L D M x) : ∃ y, inT F L D M y ∧ x ≤ y ∧ y % 1440 = x % 1440 ∧ y / 1440 % 7 = x / 1440 % 7 ∧ y / 1440 ≤ L / 1440 ∧ L / 1440 ≤ y / 1440 + 9 := by
  obtain ⟨h1, h2, h3, h4⟩ := h
  by_cases hd : L / 1440 ≤ x / 1440 + 9
  · exact ⟨x, ⟨h1, h2, h3, h4⟩, Nat.le_refl _, rfl, rfl, by omega, hd⟩
  · obtain ⟨d, hd0⟩ : ∃ d, d = L / 1440 - 1 - (L / 1440 - 1 - x / 1440) % 7 := ⟨_, rfl⟩
    have e1 : (d * 1440 + x % 1440) / 1440 = d := by omega
    have e2 : (d * 1440 + x % 1440) % 1440 = x % 1440 := by omega
    have e3 : d % 7 = x / 1440 % 7 := by omega
    refine ⟨d * 1440 + x % 1440, ⟨by omega, by omega, ?_, ?_⟩, by omega, e2, by rw [e1, e3], by omega, by omega⟩
    · rw [e1, e3]; exact h3
    · rw [e2]; exact h4

/-! ### Summaries -/
structure Aut where
  none : Bool
  zones : Nat
  lines : Nat
  days : Nat
  lo : Int
  hi : Int
  daily : List (Int × Int)
  holder : List B8
deriving DecidableEq
abbrev Aut.never : Aut := ⟨true, 0, 0, 0, 0, 0, [], []⟩
/-- a is the summary of the minutes S, with these zones, lines and holder. -/
structure Canon (Z Ln : Nat) (S : Nat → Prop) (h : List B8) (a : Aut) : Prop where
  none : a.none = false
  zones : a.zones = Z
  lines : a.lines = Ln
  holder : a.holder = h
  lo : ∃ x : Nat, S x ∧ a.lo = x ∧ ∀ y, S y → x ≤ y
  hi : ∃ x : Nat, S x ∧ a.hi = x ∧ ∀ y, S y → y ≤ x
  days : a.days < 128
  day : ∀ w, w < 7 → (a.days / 2 ^ w % 2 = 1 ↔ ∃ x, S x ∧ x / 1440 % 7 = w)
  sep : sepA 0 a.daily
  less : ∀ s ∈ a.daily, s.2 < 1440
  minute : ∀ k : Nat, spm a.daily k ↔ ∃ x, S x ∧ x % 1440 = k
theorem mask_ext {a b : Nat} (n : Nat) (ha : a < 2 ^ n) (hb : b < 2 ^ n) (h : ∀ w, w < n → (a / 2 ^ w % 2 = 1 ↔ b / 2 ^ w % 2 = 1)) : a = b := by
  apply Nat.eq_of_testBit_eq
  intro j
  rcases Nat.lt_or_ge j n with hj | hj
  · rw [Nat.testBit_eq_decide_div_mod_eq, Nat.testBit_eq_decide_div_mod_eq]
    exact decide_eq_decide.2 (h j hj)
  · have hp : 2 ^ n ≤ 2 ^ j := Nat.pow_le_pow_right (by omega) hj
    rw [Nat.testBit_lt_two_pow (Nat.lt_of_lt_of_le ha hp), Nat.testBit_lt_two_pow (Nat.lt_of_lt_of_le hb hp)]
/-- There is one summary of a set. -/
theorem canon_unique {Z Ln : Nat} {S : Nat → Prop} {h : List B8} {a b : Aut} (ha : Canon Z Ln S h a) (hb : Canon Z Ln S h b) : a = b := by
  have e1 : a.lo = b.lo := by
    obtain ⟨x, hx, ex, mx⟩ := ha.lo
    obtain ⟨y, hy, ey, my⟩ := hb.lo
    have := mx y hy; have := my x hx
    omega
  have e2 : a.hi = b.hi := by
    obtain ⟨x, hx, ex, mx⟩ := ha.hi
    obtain ⟨y, hy, ey, my⟩ := hb.hi
    have := mx y hy; have := my x hx
    omega
  have e3 : a.days = b.days := mask_ext 7 ha.days hb.days fun w hw => (ha.day w hw).trans (hb.day w hw).symm
  have e4 : a.daily = b.daily := sep_unique ha.sep hb.sep fun k => by
    rcases (by omega : k < 0 ∨ 0 ≤ k) with hk | hk
    · exact ⟨fun q => by have := sepA_ge ha.sep q; omega, fun q => by have := sepA_ge hb.sep q; omega⟩
    · obtain ⟨n, rfl⟩ : ∃ n : Nat, k = (n : Int) := ⟨k.toNat, by omega⟩
      exact (ha.minute n).trans (hb.minute n).symm
  obtain ⟨n1, z1, l1, d1, o1, i1, y1, h1⟩ := a
  obtain ⟨n2, z2, l2, d2, o2, i2, y2, h2⟩ := b
  have a1 := ha.none; have b1 := hb.none
  have a2 := ha.zones; have b2 := hb.zones
  have a3 := ha.lines; have b3 := hb.lines
  have a4 := ha.holder; have b4 := hb.holder
  simp only at a1 b1 a2 b2 a3 b3 a4 b4 e1 e2 e3 e4
  rw [a1, b1, a2, b2, a3, b3, a4, b4, e1, e2, e3, e4]
theorem canon_congr {Z Ln : Nat} {S T : Nat → Prop} {h : List B8} {a : Aut} (ha : Canon Z Ln S h a) (hst : ∀ x, S x ↔ T x) : Canon Z Ln T h a := by
  have e : S = T := funext fun x => propext (hst x)
  rw [← e]; exact ha
/-- A part of a set in which each minute of the set has its like, before and behind it, has the summary of the set. -/
theorem canon_near {Z Ln : Nat} {S T : Nat → Prop} {h : List B8} {a : Aut} (ha : Canon Z Ln T h a) (hsub : ∀ x, T x → S x)
    (hlow : ∀ x, S x → ∃ y, T y ∧ y ≤ x ∧ y % 1440 = x % 1440 ∧ y / 1440 % 7 = x / 1440 % 7) (hhigh : ∀ x, S x → ∃ y, T y ∧ x ≤ y) : Canon Z Ln S h a where
  none := ha.none
  zones := ha.zones
  lines := ha.lines
  holder := ha.holder
  lo := by
    obtain ⟨x, hx, e, m⟩ := ha.lo
    refine ⟨x, hsub x hx, e, fun y hy => ?_⟩
    obtain ⟨z, hz, hzy, _⟩ := hlow y hy
    exact Nat.le_trans (m z hz) hzy
  hi := by
    obtain ⟨x, hx, e, m⟩ := ha.hi
    refine ⟨x, hsub x hx, e, fun y hy => ?_⟩
    obtain ⟨z, hz, hzy⟩ := hhigh y hy
    exact Nat.le_trans hzy (m z hz)
  days := ha.days
  day := fun w hw => by
    rw [ha.day w hw]
    constructor
    · rintro ⟨x, hx, e⟩; exact ⟨x, hsub x hx, e⟩
    · rintro ⟨x, hx, e⟩
      obtain ⟨y, hy, _, _, e2⟩ := hlow x hx
      exact ⟨y, hy, by rw [e2, e]⟩
  sep := ha.sep
  less := ha.less
  minute := fun k => by
    rw [ha.minute k]
    constructor
    · rintro ⟨x, hx, e⟩; exact ⟨x, hsub x hx, e⟩
    · rintro ⟨x, hx, e⟩
      obtain ⟨y, hy, _, e1, _⟩ := hlow x hx
      exact ⟨y, hy, by rw [e1, e]⟩
/-- The days that the reference looks at. -/
def seen (F L x : Nat) : Prop := x / 1440 ≤ F / 1440 + 9 ∨ L / 1440 ≤ x / 1440 + 9
theorem canon_seen {Z Ln F L D : Nat} {M : Nat → Prop} {h : List B8} {a : Aut} (ha : Canon Z Ln (fun x => inT F L D M x ∧ seen F L x) h a) : Canon Z Ln (inT F L D M) h a :=
  canon_near ha (fun _ hx => hx.1)
    (fun x hx => by
      obtain ⟨y, hy, h1, h2, h3, _, h5⟩ := near_low hx
      exact ⟨y, ⟨hy, .inl h5⟩, h1, h2, h3⟩)
    (fun x hx => by
      obtain ⟨y, hy, h1, _, _, _, h5⟩ := near_high hx
      exact ⟨y, ⟨hy, .inr h5⟩, h1⟩)
theorem none_seen {F L D : Nat} {M : Nat → Prop} (h : ∀ x, ¬ (inT F L D M x ∧ seen F L x)) (x : Nat) : ¬ inT F L D M x := fun hx => by
  obtain ⟨y, hy, _, _, _, _, h5⟩ := near_low hx
  exact h y ⟨hy, .inl h5⟩
/-- The minutes of a summary. -/
def mins (a : Aut) (x : Nat) : Prop := a.lo ≤ x ∧ (x : Int) ≤ a.hi ∧ a.days / 2 ^ (x / 1440 % 7) % 2 = 1 ∧ spm a.daily ((x % 1440 : Nat) : Int)
/-- The minutes of the summary of S are those of S. -/
theorem canon_mins {Z Ln F L D : Nat} {M : Nat → Prop} {h : List B8} {a : Aut} (ha : Canon Z Ln (inT F L D M) h a) (x : Nat) : mins a x ↔ inT F L D M x := by
  constructor
  · rintro ⟨h1, h2, h3, h4⟩
    obtain ⟨u, hu, eu, _⟩ := ha.lo
    obtain ⟨v, hv, ev, _⟩ := ha.hi
    obtain ⟨p, hp, ep⟩ := (ha.day _ (by omega)).1 h3
    obtain ⟨q, hq, eq⟩ := (ha.minute _).1 h4
    have hu1 := hu.1
    have hv2 := hv.2.1
    have hp3 := hp.2.2.1
    have hq4 := hq.2.2.2
    rw [ep] at hp3
    rw [eq] at hq4
    exact ⟨by omega, by omega, hp3, hq4⟩
  · intro hx
    obtain ⟨u, _, eu, mu⟩ := ha.lo
    obtain ⟨v, _, ev, mv⟩ := ha.hi
    have := mu x hx
    have := mv x hx
    exact ⟨by omega, by omega, (ha.day _ (by omega)).2 ⟨x, hx, rfl⟩, (ha.minute _).2 ⟨x, hx, rfl⟩⟩
/-- The minutes of a summary have the form of inT. -/
theorem mins_inT {a : Aut} (h0 : 0 ≤ a.lo) (x : Nat) : mins a x ↔ inT a.lo.toNat a.hi.toNat a.days (fun k => spm a.daily (k : Int)) x ∧ (x : Int) ≤ a.hi := by
  unfold mins inT
  constructor
  · rintro ⟨h1, h2, h3, h4⟩
    exact ⟨⟨by omega, by omega, h3, h4⟩, h2⟩
  · rintro ⟨⟨h1, h2, h3, h4⟩, h5⟩
    exact ⟨by omega, h5, h3, h4⟩
end Sh
end Go.Proofs.YtgbcncfhmnhljaaDoor
namespace Go.Proofs.YtgbcncfhmnhljaaDoor
open Go Go.RowKit Sh Leaf
namespace Sh

/-- What is gathered of the minutes T. -/
structure Acc (T : Nat → Prop) (m : Nat → Bool) (dy : Nat) (lo hi : Int) : Prop where
  flag : ∀ k, k < 1440 → (m k = true ↔ ∃ x, T x ∧ x % 1440 = k)
  dlt : dy < 128
  day : ∀ w, w < 7 → (dy / 2 ^ w % 2 = 1 ↔ ∃ x, T x ∧ x / 1440 % 7 = w)
  none : (∀ x, ¬ T x) → lo = -1
  least : ∀ x, T x → ∃ y : Nat, T y ∧ lo = y ∧ ∀ z, T z → y ≤ z
  last : ∀ x, T x → ∃ y : Nat, T y ∧ hi = y ∧ ∀ z, T z → z ≤ y
theorem Acc.empty {T : Nat → Prop} (h : ∀ x, ¬ T x) : Acc T (fun _ => false) 0 (-1) (-1) where
  flag := fun k _ => ⟨fun h => (by cases h), fun ⟨x, hx, _⟩ => absurd hx (h x)⟩
  dlt := by omega
  day := fun w _ => ⟨fun h => (by simp at h), fun ⟨x, hx, _⟩ => absurd hx (h x)⟩
  none := fun _ => rfl
  least := fun x hx => absurd hx (h x)
  last := fun x hx => absurd hx (h x)
theorem Acc.congr {T U : Nat → Prop} {m : Nat → Bool} {dy : Nat} {lo hi : Int} (h : Acc T m dy lo hi) (e : ∀ x, T x ↔ U x) : Acc U m dy lo hi := by
  have : T = U := funext fun x => propext (e x)
  rw [← this]; exact h
/-- A bit more. -/
theorem or_bit (a i w : Nat) : (a ||| 2 ^ i) / 2 ^ w % 2 = 1 ↔ a / 2 ^ w % 2 = 1 ∨ w = i := by
  have h1 := Nat.testBit_eq_decide_div_mod_eq (x := a ||| 2 ^ i) (i := w)
  have h2 := Nat.testBit_eq_decide_div_mod_eq (x := a) (i := w)
  have h3 : (a ||| 2 ^ i).testBit w = (a.testBit w || decide (i = w)) := by rw [Nat.testBit_or, Nat.testBit_two_pow]
  rw [h1, h2] at h3
  by_cases e : i = w
  · subst e
    rw [decide_eq_true (p := i = i) rfl, Bool.or_true] at h3
    exact ⟨fun _ => .inr rfl, fun _ => of_decide_eq_true h3⟩
  · rw [decide_eq_false e, Bool.or_false] at h3
    have := decide_eq_decide.1 h3
    exact ⟨fun h => .inl (this.1 h), fun h => h.elim this.2 (fun k => absurd k.symm e)⟩
theorem or_lt (a i : Nat) (ha : a < 128) (hi : i < 7) : a ||| 2 ^ i < 128 := by
  have : 2 ^ i < 2 ^ 7 := (Nat.pow_lt_pow_iff_right (by omega)).2 hi
  exact Nat.or_lt_two_pow (n := 7) ha this
/-- A later minute comes to it. -/
theorem Acc.add {T : Nat → Prop} {m : Nat → Bool} {dy : Nat} {lo hi : Int} (h : Acc T m dy lo hi) (x : Nat) (hx : ∀ y, T y → y < x) :
    Acc (fun y => T y ∨ y = x) (fun j => if j = x % 1440 then true else m j) (dy ||| 2 ^ (x / 1440 % 7)) (if lo < 0 then (x : Int) else lo) x where
  flag := fun k hk => by
    show (if k = x % 1440 then true else m k) = true ↔ _
    by_cases e : k = x % 1440
    · rw [if_pos e]; exact ⟨fun _ => ⟨x, .inr rfl, e.symm⟩, fun _ => rfl⟩
    · rw [if_neg e, h.flag k hk]
      constructor
      · rintro ⟨y, hy, e2⟩; exact ⟨y, .inl hy, e2⟩
      · rintro ⟨y, hy | rfl, e2⟩
        · exact ⟨y, hy, e2⟩
        · exact absurd e2.symm e
  dlt := or_lt _ _ h.dlt (by omega)
  day := fun w hw => by
    rw [or_bit, h.day w hw]
    constructor
    · rintro (⟨y, hy, e⟩ | e)
      · exact ⟨y, .inl hy, e⟩
      · exact ⟨x, .inr rfl, e.symm⟩
    · rintro ⟨y, hy | rfl, e⟩
      · exact .inl ⟨y, hy, e⟩
      · exact .inr e.symm
  none := fun hn => absurd (.inr rfl) (hn x)
  least := fun _ _ => by
    by_cases he : ∃ y, T y
    · obtain ⟨y, hy⟩ := he
      obtain ⟨z, hz, e, hm⟩ := h.least y hy
      refine ⟨z, .inl hz, ?_, fun u hu => hu.elim (hm u) fun e => ?_⟩
      · rw [if_neg (by omega)]; exact e
      · have := hx z hz; omega
    · have hn : ∀ y, ¬ T y := fun y hy => he ⟨y, hy⟩
      refine ⟨x, .inr rfl, ?_, fun u hu => hu.elim (fun k => absurd k (hn u)) fun e => by omega⟩
      rw [if_pos (by rw [h.none hn]; omega)]
  last := fun _ _ => ⟨x, .inr rfl, rfl, fun z hz => hz.elim (fun k => Nat.le_of_lt (hx z k)) fun e => by omega⟩
/-- The spans of the flags below k. -/
structure Runs (m : Nat → Bool) (k : Nat) (sp : List (Int × Int)) : Prop where
  sep : sepA 0 sp
  less : ∀ s ∈ sp, s.2 < k
  mem : ∀ j : Nat, spm sp j ↔ j < k ∧ m j = true
theorem Runs.nil (m : Nat → Bool) : Runs m 0 [] := ⟨trivial, fun s h => by simp at h, fun j => ⟨fun h => absurd h (spm_nil _), fun h => by omega⟩⟩
theorem Runs.skip {m : Nat → Bool} {k : Nat} {sp : List (Int × Int)} (h : Runs m k sp) (hk : m k = false) : Runs m (k + 1) sp where
  sep := h.sep
  less := fun s hs => by have := h.less s hs; omega
  mem := fun j => by
    rw [h.mem j]
    constructor
    · rintro ⟨h1, h2⟩; exact ⟨by omega, h2⟩
    · rintro ⟨h1, h2⟩
      refine ⟨?_, h2⟩
      rcases Nat.lt_or_ge j k with h | h
      · exact h
      · have : j = k := by omega
        subst this
        rw [hk] at h2; cases h2
theorem sepA_snoc : ∀ (l : List (Int × Int)) (lo p q : Int), sepA lo l → (∀ s ∈ l, s.2 + 2 ≤ p) → lo ≤ p → p ≤ q → sepA lo (l ++ [(p, q)])
  | [], _, _, _, _, _, h1, h2 => ⟨h1, h2, trivial⟩
  | s :: r, _, p, q, hl, h, _, h2 => ⟨hl.1, hl.2.1, sepA_snoc r (s.2 + 2) p q hl.2.2 (fun x hx => h x (List.mem_cons_of_mem _ hx)) (h s (by simp)) h2⟩
theorem sepA_last : ∀ (l : List (Int × Int)) (lo p q q' : Int), sepA lo (l ++ [(p, q)]) → p ≤ q' → sepA lo (l ++ [(p, q')])
  | [], _, _, _, _, hl, h => ⟨hl.1, h, trivial⟩
  | s :: r, _, p, q, q', hl, h => ⟨hl.1, hl.2.1, sepA_last r (s.2 + 2) p q q' hl.2.2 h⟩
theorem sepA_le : ∀ (l : List (Int × Int)) (lo p q : Int), sepA lo (l ++ [(p, q)]) → p ≤ q
  | [], _, _, _, hl => hl.2.1
  | s :: r, _, p, q, hl => sepA_le r (s.2 + 2) p q hl.2.2
theorem Runs.new {m : Nat → Bool} {k : Nat} {sp : List (Int × Int)} (h : Runs m k sp) (hk : m k = true) (hl : ∀ s ∈ sp, ¬ s.2 = (k : Int) - 1) : Runs m (k + 1) (sp ++ [((k : Int), (k : Int))]) where
  sep := sepA_snoc sp 0 k k h.sep (fun s hs => by have := h.less s hs; have := hl s hs; omega) (by omega) (Int.le_refl _)
  less := fun s hs => by
    rcases List.mem_append.1 hs with hs | hs
    · have := h.less s hs; omega
    · rw [List.mem_singleton.1 hs]; show (k : Int) < ((k + 1 : Nat) : Int); omega
  mem := fun j => by
    rw [spm_append, h.mem j]
    constructor
    · rintro (⟨h1, h2⟩ | ⟨s, hs, h1, h2⟩)
      · exact ⟨by omega, h2⟩
      · rw [List.mem_singleton.1 hs] at h1 h2
        simp only at h1 h2
        have : j = k := by omega
        subst this
        exact ⟨by omega, hk⟩
    · rintro ⟨h1, h2⟩
      rcases Nat.lt_or_ge j k with h | h
      · exact .inl ⟨h, h2⟩
      · exact .inr ⟨((k : Int), (k : Int)), by simp, by show (k : Int) ≤ (j : Int); omega, by show (j : Int) ≤ (k : Int); omega⟩
theorem Runs.grow {m : Nat → Bool} {k : Nat} {sp : List (Int × Int)} {p : Int} (h : Runs m k (sp ++ [(p, (k : Int) - 1)])) (hk : m k = true) : Runs m (k + 1) (sp ++ [(p, (k : Int))]) where
  sep := sepA_last sp 0 p ((k : Int) - 1) k h.sep (by have := sepA_le sp 0 _ _ h.sep; omega)
  less := fun s hs => by
    rcases List.mem_append.1 hs with hs | hs
    · have := h.less s (List.mem_append_left _ hs); omega
    · rw [List.mem_singleton.1 hs]; show (k : Int) < ((k + 1 : Nat) : Int); omega
  mem := fun j => by
    have hm := h.mem j
    have hp := sepA_le sp 0 _ _ h.sep
    rw [spm_append] at hm ⊢
    have e1 : ∀ q : Int, spm [(p, q)] (j : Int) ↔ p ≤ (j : Int) ∧ (j : Int) ≤ q := fun q => by
      rw [spm_cons]; exact ⟨fun h => h.elim id (fun h => absurd h (spm_nil _)), fun h => .inl h⟩
    rw [e1] at hm ⊢
    constructor
    · rintro (h1 | ⟨h1, h2⟩)
      · have := hm.1 (.inl h1); exact ⟨by omega, this.2⟩
      · rcases Nat.lt_or_ge j k with hj | hj
        · have := hm.1 (.inr ⟨h1, by omega⟩); exact ⟨by omega, this.2⟩
        · have : j = k := by omega
          subst this
          exact ⟨by omega, hk⟩
    · rintro ⟨h1, h2⟩
      rcases Nat.lt_or_ge j k with hj | hj
      · rcases hm.2 ⟨hj, h2⟩ with h | h
        · exact .inl h
        · exact .inr ⟨h.1, by omega⟩
      · exact .inr ⟨by omega, by omega⟩
theorem sepA_before : ∀ {l : List (Int × Int)} {lo p q : Int}, sepA lo (l ++ [(p, q)]) → ∀ s ∈ l, s.2 + 2 ≤ p
  | [], _, _, _, _, s, hs => by simp at hs
  | a :: t, lo, p, q, h, s, hs => by
    rcases List.mem_cons.1 hs with rfl | hs
    · exact sepA_ge h.2.2 ((spm_append t [(p, q)] p).2 (.inr ⟨(p, q), by simp, Int.le_refl _, sepA_le t _ p q h.2.2⟩))
    · exact sepA_before h.2.2 s hs
theorem sepA_mem : ∀ {l : List (Int × Int)} {lo : Int}, sepA lo l → ∀ s ∈ l, lo ≤ s.1 ∧ s.1 ≤ s.2
  | [], _, _, s, hs => by simp at hs
  | q :: t, lo, h, s, hs => by
    rcases List.mem_cons.1 hs with rfl | hs
    · exact ⟨h.1, h.2.1⟩
    · have := sepA_mem h.2.2 s hs
      have := h.1
      have := h.2.1
      omega
theorem Runs.bd {m : Nat → Bool} {k : Nat} {sp : List (Int × Int)} (h : Runs m k sp) : ∀ s ∈ sp, 0 ≤ s.1 ∧ s.1 ≤ s.2 ∧ s.2 < k := fun s hs => by
  have := sepA_mem h.sep s hs
  exact ⟨this.1, this.2, h.less s hs⟩
/-- All gathered: the summary. -/
theorem canon_acc {Z Ln : Nat} {T : Nat → Prop} {nm : List B8} {m : Nat → Bool} {dy : Nat} {lo hi : Int} {sp : List (Int × Int)} (h : Acc T m dy lo hi) (hr : Runs m 1440 sp) (hne : ∃ x, T x) : Canon Z Ln T nm ⟨false, Z, Ln, dy, lo, hi, sp, nm⟩ where
  none := rfl
  zones := rfl
  lines := rfl
  holder := rfl
  lo := by obtain ⟨x, hx⟩ := hne; exact h.least x hx
  hi := by obtain ⟨x, hx⟩ := hne; exact h.last x hx
  days := h.dlt
  day := h.day
  sep := hr.sep
  less := fun s hs => by have := hr.less s hs; simpa using this
  minute := fun k => by
    rw [hr.mem k]
    constructor
    · rintro ⟨h1, h2⟩; exact (h.flag k h1).1 h2
    · rintro ⟨x, hx, e⟩
      have hk : k < 1440 := by omega
      exact ⟨hk, (h.flag k hk).2 ⟨x, hx, e⟩⟩
/-- The minutes gathered ahead of day d, and on day d ahead of minute k. -/
def upto (F L D : Nat) (M : Nat → Prop) (d k : Nat) (x : Nat) : Prop := inT F L D M x ∧ seen F L x ∧ (x / 1440 < d ∨ (x / 1440 = d ∧ x % 1440 < k))
end Sh
end Go.Proofs.YtgbcncfhmnhljaaDoor
namespace Go.Proofs.YtgbcncfhmnhljaaDoor
open Go Go.RowKit Sh Leaf

/-- The bytes of a number. -/
def enc (n : Nat) : List B8 := if n < 128 then [BitVec.ofNat 8 n] else BitVec.ofNat 8 (n % 128 + 128) :: enc (n / 128)
termination_by n
decreasing_by omega
theorem enc_lt {n : Nat} (h : n < 128) : enc n = [BitVec.ofNat 8 n] := by rw [enc, if_pos h]
theorem enc_ge {n : Nat} (h : ¬ n < 128) : enc n = BitVec.ofNat 8 (n % 128 + 128) :: enc (n / 128) := by rw [enc, if_neg h]
theorem enc_pos (n : Nat) : 0 < (enc n).length := by
  by_cases h : n < 128
  · rw [enc_lt h]; simp
  · rw [enc_ge h]; simp
theorem enc_len (k : Nat) : ∀ n, n < 128 ^ (k + 1) → (enc n).length ≤ k + 1 := by
  induction k with
  | zero => intro n h; rw [enc_lt (by omega)]; simp
  | succ k ih =>
    intro n h
    by_cases h1 : n < 128
    · rw [enc_lt h1]; simp
    · rw [enc_ge h1]
      have : n / 128 < 128 ^ (k + 1) := by rw [Nat.pow_succ] at h; omega
      have := ih _ this
      simp; omega
theorem enc_len7 {n : Nat} (h : n ≤ 281474976710656) : (enc n).length ≤ 7 := enc_len 6 n (by omega)
theorem enc_mono : ∀ b a : Nat, a ≤ b → (enc a).length ≤ (enc b).length := by
  intro b
  induction b using Nat.strongRecOn with
  | _ b ih =>
    intro a h
    by_cases h1 : a < 128
    · rw [enc_lt h1]; have := enc_pos b; simp; omega
    · rw [enc_ge h1, enc_ge (show ¬ b < 128 by omega)]
      have := ih (b / 128) (by omega) (a / 128) (by omega)
      simp; omega

/-- The number whose groups the bytes are, the least significant one first. -/
def val : List B8 → Nat
  | [] => 0
  | x :: l => x.toNat % 128 + 128 * val l
theorem val_snoc (l : List B8) (x : B8) : val (l ++ [x]) = val l + 128 ^ l.length * (x.toNat % 128) := by
  induction l with
  | nil => simp [val]
  | cons y l ih => simp only [List.cons_append, val, ih, List.length_cons, Nat.pow_succ, Nat.mul_add]; rw [Nat.mul_comm (128 ^ l.length) 128, Nat.mul_assoc]; omega
theorem val_lt (l : List B8) : val l < 128 ^ l.length := by
  induction l with
  | nil => simp [val]
  | cons y l ih => simp only [val, List.length_cons, Nat.pow_succ]; omega

/-- How many of the first seven bytes have the bit 128, up to the first one that has it not. -/
def lead : Nat → List B8 → Nat
  | 0, _ => 0
  | _, [] => 0
  | k + 1, x :: l => if 128 ≤ x.toNat then lead k l + 1 else 0
theorem lead_le : ∀ (m : Nat) (l : List B8), lead m l ≤ m ∧ lead m l ≤ l.length
  | 0, l => by simp [lead]
  | m + 1, [] => by simp [lead]
  | m + 1, x :: l => by
    have := lead_le m l
    simp only [lead, List.length_cons]
    split <;> omega
theorem lead_of : ∀ (m : Nat) (l : List B8) (k : Nat), k ≤ m → k ≤ l.length → (∀ j (h : j < l.length), j < k → 128 ≤ l[j].toNat) → (k < m → ∀ h : k < l.length, l[k].toNat < 128) → lead m l = k
  | 0, l, k, h, _, _, _ => by simp [lead]; omega
  | m + 1, [], k, _, h, _, _ => by simp at h; simp [lead, h]
  | m + 1, x :: l, 0, _, _, _, h => by
    have := h (by omega) (by simp)
    simp at this
    simp [lead]; omega
  | m + 1, x :: l, k + 1, h1, h2, h3, h4 => by
    have h0 := h3 0 (by simp) (by omega)
    simp at h0
    simp only [lead, if_pos h0]
    rw [lead_of m l k (by omega) (by simpa using h2) (fun j hj hk => by have := h3 (j + 1) (by simpa using hj) (by omega); rwa [List.getElem_cons_succ] at this) (fun hk hl => by have := h4 (by omega) (by simpa using hl); rwa [List.getElem_cons_succ] at this)]
theorem lead_ge : ∀ (m : Nat) (l : List B8) (j : Nat) (h : j < l.length), j < lead m l → 128 ≤ l[j].toNat
  | 0, l, j, h, hj => by simp [lead] at hj
  | m + 1, [], j, h, hj => by simp [lead] at hj
  | m + 1, x :: l, j, h, hj => by
    simp only [lead] at hj
    split at hj
    · cases j with
      | zero => simpa
      | succ j => simpa using lead_ge m l j (by simpa using h) (by omega)
    · omega
theorem lead_stop : ∀ (m : Nat) (l : List B8) (h : lead m l < l.length), lead m l < m → l[lead m l].toNat < 128
  | 0, l, h, hj => by simp [lead] at hj
  | m + 1, [], h, hj => by simp [lead] at h
  | m + 1, x :: l, h, hj => by
    by_cases hx : 128 ≤ x.toNat
    · have e : lead (m + 1) (x :: l) = lead m l + 1 := by simp [lead, hx]
      have := lead_stop m l (by rw [e] at h; simpa using h) (by rw [e] at hj; omega)
      simp only [e]
      simpa using this
    · have e : lead (m + 1) (x :: l) = 0 := by simp [lead, hx]
      simp only [e]
      simp; omega

/-- The number at the beginning of bytes, how many bytes it has, and the error. -/
def rd (l : List B8) : Nat × Nat × Nat :=
  if lead 7 l = 7 then (0, 0, 5)
  else if lead 7 l = l.length then (0, 0, 3)
  else if 0 < lead 7 l ∧ (l.getD (lead 7 l) 0).toNat = 0 then (0, 0, 5)
  else if 281474976710656 < val (l.take (lead 7 l + 1)) then (0, 0, 1)
  else (val (l.take (lead 7 l + 1)), lead 7 l + 1, 0)
theorem rd_form7 {l : List B8} {k : Nat} (h : lead 7 l = k) (h7 : k = 7) : rd l = (0, 0, 5) := by unfold rd; rw [h, if_pos h7]
theorem rd_short {l : List B8} {k : Nat} (h : lead 7 l = k) (h7 : k ≠ 7) (hl : k = l.length) : rd l = (0, 0, 3) := by unfold rd; rw [h, if_neg h7, if_pos hl]
theorem rd_form0 {l : List B8} {k : Nat} (h : lead 7 l = k) (h7 : k ≠ 7) (hl : k < l.length) (h0 : 0 < k) (hx : l[k].toNat = 0) : rd l = (0, 0, 5) := by
  unfold rd
  rw [h, if_neg h7, if_neg (by omega), if_pos ⟨h0, by simpa [List.getD_eq_getElem?_getD, hl] using hx⟩]
theorem rd_range {l : List B8} {k : Nat} (h : lead 7 l = k) (h7 : k ≠ 7) (hl : k < l.length) (hx : ¬ (0 < k ∧ l[k].toNat = 0)) (hv : 281474976710656 < val (l.take (k + 1))) : rd l = (0, 0, 1) := by
  unfold rd
  rw [h, if_neg h7, if_neg (by omega), if_neg (by simpa [List.getD_eq_getElem?_getD, hl] using hx), if_pos hv]
theorem rd_ok {l : List B8} {k : Nat} (h : lead 7 l = k) (h7 : k ≠ 7) (hl : k < l.length) (hx : ¬ (0 < k ∧ l[k].toNat = 0)) (hv : ¬ 281474976710656 < val (l.take (k + 1))) : rd l = (val (l.take (k + 1)), k + 1, 0) := by
  unfold rd
  rw [h, if_neg h7, if_neg (by omega), if_neg (by simpa [List.getD_eq_getElem?_getD, hl] using hx), if_neg hv]
theorem take_snoc {l : List B8} {k : Nat} (hl : k < l.length) : l.take (k + 1) = l.take k ++ [l[k]] := by rw [List.take_add_one, List.getElem?_eq_getElem hl]; rfl
theorem val_take {l : List B8} {k : Nat} (hl : k < l.length) : val (l.take (k + 1)) = val (l.take k) + 128 ^ k * (l[k].toNat % 128) := by
  rw [take_snoc hl, val_snoc, List.length_take, Nat.min_eq_left (by omega)]
theorem val_take_lt (l : List B8) (k : Nat) : val (l.take k) < 128 ^ k := by
  have h := val_lt (l.take k)
  refine Nat.lt_of_lt_of_le h (Nat.pow_le_pow_right (by omega) (by simp; omega))

/-- What was written is read. -/
theorem val_enc : ∀ n : Nat, val (enc n) = n := by
  intro n
  induction n using Nat.strongRecOn with
  | _ n ih =>
    by_cases h : n < 128
    · rw [enc_lt h]; simp [val]; omega
    · rw [enc_ge h]
      simp only [val]
      rw [ih (n / 128) (by omega)]
      simp; omega
theorem enc_get : ∀ (n : Nat) (j : Nat) (h : j < (enc n).length), (j + 1 < (enc n).length → 128 ≤ (enc n)[j].toNat) ∧ (j + 1 = (enc n).length → (enc n)[j].toNat < 128 ∧ (0 < j → (enc n)[j].toNat ≠ 0)) := by
  intro n
  induction n using Nat.strongRecOn with
  | _ n ih =>
    intro j h
    by_cases hn : n < 128
    · simp only [enc_lt hn] at h ⊢
      have : j = 0 := by simpa using h
      subst this
      simp; omega
    · simp only [enc_ge hn] at h ⊢
      cases j with
      | zero =>
        have := enc_pos (n / 128)
        refine ⟨fun _ => by simp; omega, fun h => ?_⟩
        simp only [List.length_cons] at h
        omega
      | succ j =>
        have hj : j < (enc (n / 128)).length := by simpa using h
        have := ih (n / 128) (by omega) j hj
        simp only [List.length_cons, List.getElem_cons_succ]
        refine ⟨fun h => this.1 (by omega), fun h => ⟨(this.2 (by omega)).1, fun _ => ?_⟩⟩
        by_cases hj0 : 0 < j
        · exact (this.2 (by omega)).2 hj0
        · have hj1 : j = 0 := by omega
          subst hj1
          have hl : (enc (n / 128)).length = 1 := by omega
          by_cases hm : n / 128 < 128
          · simp only [enc_lt hm]; simp; omega
          · rw [enc_ge hm] at hl
            have := enc_pos (n / 128 / 128)
            simp at hl; simp [hl] at this
theorem rd_enc (n : Nat) (hn : n ≤ 281474976710656) (t : List B8) : rd (enc n ++ t) = (n, (enc n).length, 0) := by
  have hp := enc_pos n
  have h7 := enc_len7 hn
  have hg : ∀ j (h : j < (enc n).length), (enc n ++ t)[j]'(by simp; omega) = (enc n)[j] := fun j h => List.getElem_append_left h
  have hlead : lead 7 (enc n ++ t) = (enc n).length - 1 := by
    refine lead_of _ _ _ (by omega) (by simp; omega) (fun j h hj => ?_) (fun _ h => ?_)
    · rw [hg j (by omega)]; exact (enc_get n j (by omega)).1 (by omega)
    · rw [hg _ (by omega)]; exact ((enc_get n _ (by omega)).2 (by omega)).1
  have ht : (enc n ++ t).take ((enc n).length - 1 + 1) = enc n := by rw [Nat.sub_add_cancel hp]; exact List.take_left
  rw [rd_ok hlead (by omega) (by simp; omega) (fun h => ?_) (by rw [ht, val_enc]; omega), ht, val_enc, Nat.sub_add_cancel hp]
  rw [hg _ (by omega)] at h
  exact ((enc_get n _ (by omega)).2 (by omega)).2 h.1 h.2
/-- What is read is written as the same bytes. -/
theorem enc_val : ∀ (l : List B8) (x : B8), (∀ y ∈ l, 128 ≤ y.toNat) → x.toNat < 128 → (0 < l.length → x.toNat ≠ 0) → enc (val (l ++ [x])) = l ++ [x]
  | [], x, _, hx, _ => by
    simp only [List.nil_append, val]
    rw [enc_lt (by omega), Nat.mod_eq_of_lt hx]
    simp
  | y :: l, x, h, hx, h0 => by
    have hy := h y (by simp)
    have hlt := y.isLt
    have hpos : 0 < val (l ++ [x]) := by
      rw [val_snoc, Nat.mod_eq_of_lt hx]
      have : 0 < 128 ^ l.length * x.toNat := Nat.mul_pos (Nat.pow_pos (by omega)) (by have := h0 (by simp); omega)
      omega
    have ih := enc_val l x (fun z hz => h z (by simp [hz])) hx (fun _ => h0 (by simp))
    simp only [List.cons_append, val]
    rw [enc_ge (by omega)]
    have e1 : (y.toNat % 128 + 128 * val (l ++ [x])) / 128 = val (l ++ [x]) := by omega
    have e2 : BitVec.ofNat 8 ((y.toNat % 128 + 128 * val (l ++ [x])) % 128 + 128) = y := by
      apply BitVec.eq_of_toNat_eq
      rw [BitVec.toNat_ofNat]
      omega
    rw [e1, e2, ih]
theorem rd_unique {l : List B8} {n k : Nat} (h : rd l = (n, k, 0)) : k ≤ l.length ∧ n ≤ 281474976710656 ∧ enc n = l.take k := by
  have hle := lead_le 7 l
  unfold rd at h
  split at h
  · simp at h
  split at h
  · simp at h
  split at h
  · simp at h
  split at h
  · simp at h
  rename_i h7 hl hx hv
  simp only [Prod.mk.injEq, and_true] at h
  obtain ⟨rfl, rfl⟩ := h
  have hlt : lead 7 l < l.length := by omega
  refine ⟨by omega, by omega, ?_⟩
  rw [take_snoc hlt]
  refine enc_val _ _ (fun y hy => ?_) (lead_stop 7 l hlt (by omega)) (fun h0 hz => hx ⟨?_, ?_⟩)
  · obtain ⟨j, hj, rfl⟩ := List.getElem_of_mem hy
    rw [List.getElem_take]
    exact lead_ge 7 l j (by simp at hj; omega) (by simp at hj; omega)
  · simp at h0; omega
  · simpa [List.getD_eq_getElem?_getD, hlt] using hz
theorem rd_err {l : List B8} {n k e : Nat} (h : rd l = (n, k, e)) (he : e ≠ 0) : n = 0 ∧ k = 0 := by
  unfold rd at h
  (repeat' split at h) <;> simp at h <;> omega
end Go.Proofs.YtgbcncfhmnhljaaDoor
namespace Go.Proofs.YtgbcncfhmnhljaaDoor
open Go Go.RowKit Sh Leaf

/-- A field: the number of its bytes, and the bytes. -/
def fld (x : List B8) : List B8 := enc x.length ++ x
theorem fld_pos (x : List B8) : 0 < (fld x).length := by have := enc_pos x.length; simp [fld]; omega
theorem fld_len {x : List B8} (h : x.length ≤ 281474976710656) : (fld x).length ≤ x.length + 7 := by have := enc_len7 h; simp [fld]; omega

/-- The field at the beginning of bytes, how many bytes it has with its length, and the error. -/
def rdf (b : List B8) : List B8 × Nat × Nat :=
  if (rd b).2.2 ≠ 0 then ([], 0, (rd b).2.2)
  else if 1024 < (rd b).1 then ([], 0, 2)
  else if b.length - (rd b).2.1 < (rd b).1 then ([], 0, 3)
  else ((b.drop (rd b).2.1).take (rd b).1, (rd b).2.1 + (rd b).1, 0)
theorem rdf_e {b : List B8} {n k e : Nat} (h : rd b = (n, k, e)) (he : e ≠ 0) : rdf b = ([], 0, e) := by unfold rdf; rw [h, if_pos he]
theorem rdf_limit {b : List B8} {n k : Nat} (h : rd b = (n, k, 0)) (hn : 1024 < n) : rdf b = ([], 0, 2) := by unfold rdf; rw [h, if_neg (by simp), if_pos hn]
theorem rdf_short {b : List B8} {n k : Nat} (h : rd b = (n, k, 0)) (hn : ¬ 1024 < n) (hl : b.length - k < n) : rdf b = ([], 0, 3) := by
  unfold rdf; rw [h, if_neg (by simp), if_neg hn, if_pos hl]
theorem rdf_ok {b : List B8} {n k : Nat} (h : rd b = (n, k, 0)) (hn : ¬ 1024 < n) (hl : ¬ b.length - k < n) : rdf b = ((b.drop k).take n, k + n, 0) := by
  unfold rdf; rw [h, if_neg (by simp), if_neg hn, if_neg hl]
theorem rdf_cases (b : List B8) : (∃ e, e ≠ 0 ∧ rdf b = ([], 0, e)) ∨ ∃ n k, rd b = (n, k, 0) ∧ 0 < k ∧ n ≤ 1024 ∧ k + n ≤ b.length ∧ ((b.drop k).take n).length = n ∧ rdf b = ((b.drop k).take n, k + n, 0) := by
  obtain ⟨n, k, e, h⟩ : ∃ n k e, rd b = (n, k, e) := ⟨_, _, _, rfl⟩
  by_cases he : e = 0
  · subst he
    by_cases hn : 1024 < n
    · exact .inl ⟨2, by omega, rdf_limit h hn⟩
    by_cases hl : b.length - k < n
    · exact .inl ⟨3, by omega, rdf_short h hn hl⟩
    obtain ⟨h1, _, h3⟩ := rd_unique h
    have hk : 0 < k := by
      have := congrArg List.length h3
      have := enc_pos n
      simp at *; omega
    exact .inr ⟨n, k, h, hk, by omega, by omega, by simp; omega, rdf_ok h hn hl⟩
  · exact .inl ⟨e, he, rdf_e h he⟩
theorem rdf_fld (x t : List B8) (hx : x.length ≤ 1024) : rdf (fld x ++ t) = (x, (fld x).length, 0) := by
  have h := rd_enc x.length (by omega) (x ++ t)
  rw [← List.append_assoc] at h
  have e1 : ((enc x.length ++ x) ++ t).drop (enc x.length).length = x ++ t := by rw [List.append_assoc]; exact List.drop_left
  have := rdf_ok h (by omega) (by simp)
  rw [e1, List.take_left] at this
  rw [show fld x = enc x.length ++ x by rfl, this]
  simp
theorem rdf_back {b x : List B8} {k : Nat} (h : rdf b = (x, k, 0)) : b = fld x ++ b.drop k ∧ 0 < k ∧ k ≤ b.length ∧ x.length ≤ 1024 := by
  rcases rdf_cases b with ⟨e, he, h'⟩ | ⟨n, j, hr, hj, hn, hjn, hl, h'⟩
  · rw [h] at h'
    simp at h'
    omega
  · rw [h] at h'
    simp only [Prod.mk.injEq, and_true] at h'
    obtain ⟨rfl, rfl⟩ := h'
    obtain ⟨h1, _, h3⟩ := rd_unique hr
    refine ⟨?_, by omega, hjn, by rw [hl]; exact hn⟩
    rw [fld, hl, h3, ← List.drop_drop]
    rw [List.append_assoc, List.take_append_drop, List.take_append_drop]

/-- Fields, one after another, and the error. -/
def okl (l : List (List B8)) : Prop := ∀ x ∈ l, x.length ≤ 1024
def cat (l : List (List B8)) : List B8 := l.flatMap fld
theorem cat_nil : cat [] = [] := rfl
theorem cat_cons (x : List B8) (l : List (List B8)) : cat (x :: l) = fld x ++ cat l := by simp [cat]
theorem cat_snoc (l : List (List B8)) (x : List B8) : cat (l ++ [x]) = cat l ++ fld x := by simp [cat]
theorem okl_snoc {l : List (List B8)} {x : List B8} (h : okl l) (hx : x.length ≤ 1024) : okl (l ++ [x]) := by
  intro y hy
  rcases List.mem_append.1 hy with h' | h'
  · exact h y h'
  · simp at h'; subst h'; exact hx
theorem cat_len {l : List (List B8)} (h : okl l) : (cat l).length ≤ l.length * 1031 := by
  induction l with
  | nil => simp [cat]
  | cons x l ih =>
    have h1 := ih (fun y hy => h y (by simp [hy]))
    have h2 := h x (by simp)
    have h3 := fld_len (x := x) (by omega)
    rw [cat_cons]
    simp only [List.length_append, List.length_cons]
    omega
open Classical in
noncomputable def jn (l : List (List B8)) : List B8 × Nat := if okl l then (cat l, 0) else ([], 2)
theorem jn_ok {l : List (List B8)} (h : okl l) : jn l = (cat l, 0) := by unfold jn; rw [if_pos h]
theorem jn_bad {l : List (List B8)} (j : Nat) (hj : j < l.length) (h : 1024 < l[j].length) : jn l = ([], 2) := by
  unfold jn; rw [if_neg]; intro hk; have := hk l[j] (List.getElem_mem _); omega
theorem jn_len (l : List (List B8)) : (jn l).1.length ≤ l.length * 1031 := by
  unfold jn
  split
  · rename_i h; exact cat_len h
  · simp

/-- The fields of which bytes consist, behind those that were found, and the error. -/
def allA : Nat → List (List B8) → List B8 → List (List B8) × Nat
  | _, acc, [] => (acc, 0)
  | 0, _, _ :: _ => ([], 1)
  | f + 1, acc, y :: b => if (rdf (y :: b)).2.2 = 0 then allA f (acc ++ [(rdf (y :: b)).1]) ((y :: b).drop (rdf (y :: b)).2.1) else ([], (rdf (y :: b)).2.2)
def alls (b : List B8) : List (List B8) × Nat := allA b.length [] b
theorem allA_nil (f : Nat) (acc : List (List B8)) : allA f acc [] = (acc, 0) := by cases f <;> rfl
theorem allA_ok {f : Nat} {acc : List (List B8)} {b x : List B8} {k : Nat} (hf : b.length ≤ f + 1) (h0 : 0 < b.length) (h : rdf b = (x, k, 0)) :
    allA (f + 1) acc b = allA f (acc ++ [x]) (b.drop k) ∧ (b.drop k).length ≤ f := by
  cases b with
  | nil => simp at h0
  | cons y b =>
    have := (rdf_back h).2.1
    refine ⟨?_, by simp at *; omega⟩
    show (if (rdf (y :: b)).2.2 = 0 then _ else _) = _
    rw [h, if_pos rfl]
theorem allA_err {f : Nat} {acc : List (List B8)} {b : List B8} {e : Nat} (hf : b.length ≤ f) (h0 : 0 < b.length) (he : e ≠ 0) (h : rdf b = ([], 0, e)) : allA f acc b = ([], e) := by
  cases b with
  | nil => simp at h0
  | cons y b =>
    cases f with
    | zero => simp at hf
    | succ f =>
      show (if (rdf (y :: b)).2.2 = 0 then _ else _) = _
      rw [h, if_neg he]
theorem allA_cat : ∀ (l acc : List (List B8)) (f : Nat), okl l → (cat l).length ≤ f → allA f acc (cat l) = (acc ++ l, 0) := by
  intro l
  induction l with
  | nil => intro acc f _ _; rw [cat_nil, allA_nil]; simp
  | cons x l ih =>
    intro acc f h hf
    have hx := h x (by simp)
    have h1 := rdf_fld x (cat l) hx
    have hp := fld_pos x
    rw [cat_cons] at hf ⊢
    simp only [List.length_append] at hf
    obtain ⟨f, rfl⟩ : ∃ g, f = g + 1 := ⟨f - 1, by omega⟩
    rw [(allA_ok (by simp; omega) (by simp; omega) h1).1, List.drop_left, ih _ _ (fun y hy => h y (by simp [hy])) (by omega)]
    simp
theorem alls_cat {l : List (List B8)} (h : okl l) : alls (cat l) = (l, 0) := by
  have := allA_cat l [] (cat l).length h (Nat.le_refl _)
  simpa [alls] using this
theorem allA_back : ∀ (f : Nat) (acc : List (List B8)) (b : List B8) (k : List (List B8)), b.length ≤ f → allA f acc b = (k, 0) → ∃ t, k = acc ++ t ∧ okl t ∧ cat t = b := by
  intro f
  induction f with
  | zero =>
    intro acc b k hf h
    have : b = [] := List.eq_nil_of_length_eq_zero (by omega)
    subst this
    rw [allA_nil] at h
    simp at h
    exact ⟨[], by simp [h], (by intro x hx; cases hx), rfl⟩
  | succ f ih =>
    intro acc b k hf h
    by_cases h0 : 0 < b.length
    · rcases rdf_cases b with ⟨e, he, h'⟩ | ⟨n, j, hr, hj, hn, hjn, hl, h'⟩
      · rw [allA_err hf h0 he h'] at h
        simp at h
        omega
      · obtain ⟨h1, h2⟩ := allA_ok (acc := acc) hf h0 h'
        rw [h1] at h
        obtain ⟨t, ht, hok, hc⟩ := ih _ _ _ h2 h
        have hb := rdf_back h'
        refine ⟨((b.drop j).take n) :: t, by rw [ht]; simp, ?_, by rw [cat_cons, hc]; exact hb.1.symm⟩
        intro x hx
        rcases List.mem_cons.1 hx with rfl | hx
        · exact hb.2.2.2
        · exact hok x hx
    · have : b = [] := List.eq_nil_of_length_eq_zero (by omega)
      subst this
      rw [allA_nil] at h
      simp at h
      exact ⟨[], by simp [h], (by intro x hx; cases hx), rfl⟩
theorem alls_back {b : List B8} {k : List (List B8)} (h : alls b = (k, 0)) : okl k ∧ cat k = b := by
  obtain ⟨t, ht, hok, hc⟩ := allA_back _ _ _ _ (Nat.le_refl _) h
  simp at ht
  subst ht
  exact ⟨hok, hc⟩
theorem allA_bad : ∀ (f : Nat) (acc : List (List B8)) (b : List B8) (k : List (List B8)) (e : Nat), b.length ≤ f → allA f acc b = (k, e) → e ≠ 0 → k = [] := by
  intro f
  induction f with
  | zero =>
    intro acc b k e hf h he
    have : b = [] := List.eq_nil_of_length_eq_zero (by omega)
    subst this
    rw [allA_nil] at h
    simp at h
    omega
  | succ f ih =>
    intro acc b k e hf h he
    by_cases h0 : 0 < b.length
    · rcases rdf_cases b with ⟨e', he', h'⟩ | ⟨n, j, hr, hj, hn, hjn, hl, h'⟩
      · rw [allA_err hf h0 he' h'] at h
        simp at h
        exact h.1
      · obtain ⟨h1, h2⟩ := allA_ok (acc := acc) hf h0 h'
        rw [h1] at h
        exact ih _ _ _ _ h2 h he
    · have : b = [] := List.eq_nil_of_length_eq_zero (by omega)
      subst this
      rw [allA_nil] at h
      simp at h
      omega
theorem alls_bad {b : List B8} {k : List (List B8)} {e : Nat} (h : alls b = (k, e)) (he : e ≠ 0) : k = [] := allA_bad _ _ _ _ _ (Nat.le_refl _) h he
theorem allA_count : ∀ (f : Nat) (acc : List (List B8)) (b : List B8), b.length ≤ f → (allA f acc b).1.length ≤ acc.length + b.length := by
  intro f
  induction f with
  | zero =>
    intro acc b hf
    have : b = [] := List.eq_nil_of_length_eq_zero (by omega)
    subst this
    rw [allA_nil]; simp
  | succ f ih =>
    intro acc b hf
    by_cases h0 : 0 < b.length
    · rcases rdf_cases b with ⟨e', he', h'⟩ | ⟨n, j, hr, hj, hn, hjn, hl, h'⟩
      · rw [allA_err hf h0 he' h']; simp
      · obtain ⟨h1, h2⟩ := allA_ok (acc := acc) hf h0 h'
        rw [h1]
        have := ih (acc ++ [(b.drop j).take n]) _ h2
        simp at this ⊢
        omega
    · have : b = [] := List.eq_nil_of_length_eq_zero (by omega)
      subst this
      rw [allA_nil]; simp
theorem alls_count (b : List B8) : (alls b).1.length ≤ b.length := by have := allA_count b.length [] b (Nat.le_refl _); simpa [alls] using this
/-- The bytes and the error of Append. -/
def fap (b x : List B8) : List B8 × Nat := if x.length ≤ 1024 then (b ++ fld x, 0) else ([], 2)
theorem fap_len (b x : List B8) : (fap b x).1.length ≤ b.length + 1031 := by
  unfold fap
  split
  · have := fld_len (x := x) (by omega)
    simp; omega
  · simp
end Go.Proofs.YtgbcncfhmnhljaaDoor
namespace Go.Proofs.YtgbcncfhmnhljaaDoor
open Go Go.RowKit Sh Leaf
namespace Sh

/-- A number in decimal. -/
def dcm (n : Nat) : List B8 := if n < 10 then [BitVec.ofNat 8 (48 + n)] else dcm (n / 10) ++ [BitVec.ofNat 8 (48 + n % 10)]
termination_by n
decreasing_by omega
theorem dcm_lt {n : Nat} (h : n < 10) : dcm n = [BitVec.ofNat 8 (48 + n)] := by rw [dcm, if_pos h]
theorem dcm_ge {n : Nat} (h : ¬ n < 10) : dcm n = dcm (n / 10) ++ [BitVec.ofNat 8 (48 + n % 10)] := by rw [dcm, if_neg h]
/-- The number that digits are. -/
def dval (l : List B8) : Nat := l.foldl (fun a c => 10 * a + (c.toNat - 48)) 0
theorem dval_snoc (l : List B8) (x : B8) : dval (l ++ [x]) = 10 * dval l + (x.toNat - 48) := by simp [dval]
def isd (c : B8) : Bool := decide (48 ≤ c.toNat ∧ c.toNat ≤ 57)
theorem isd_iff {c : B8} : isd c = true ↔ 48 ≤ c.toNat ∧ c.toNat ≤ 57 := by simp [isd]
theorem digit_toNat {d : Nat} (h : d < 10) : (BitVec.ofNat 8 (48 + d)).toNat = 48 + d := by rw [BitVec.toNat_ofNat]; exact Nat.mod_eq_of_lt (by omega)
theorem digit_isd {d : Nat} (h : d < 10) : isd (BitVec.ofNat 8 (48 + d)) = true := by rw [isd_iff, digit_toNat h]; omega
theorem isd_digit {c : B8} (h : isd c = true) : c = BitVec.ofNat 8 (48 + (c.toNat - 48)) := by
  rw [isd_iff] at h
  apply BitVec.eq_of_toNat_eq
  rw [digit_toNat (by omega)]; omega
theorem dval_dcm (n : Nat) : dval (dcm n) = n := by
  induction n using Nat.strongRecOn with
  | ind n ih =>
    by_cases h : n < 10
    · rw [dcm_lt h]
      have := digit_toNat h
      show 10 * 0 + ((BitVec.ofNat 8 (48 + n)).toNat - 48) = n
      omega
    · rw [dcm_ge h, dval_snoc, ih (n / 10) (by omega), digit_toNat (by omega)]; omega
theorem dcm_isd (n : Nat) : (dcm n).all isd = true := by
  induction n using Nat.strongRecOn with
  | ind n ih =>
    by_cases h : n < 10
    · rw [dcm_lt h]; simp [digit_isd h]
    · rw [dcm_ge h, List.all_append, ih (n / 10) (by omega)]; simp [digit_isd (show n % 10 < 10 by omega)]
theorem dcm_pos (n : Nat) : 0 < (dcm n).length := by
  by_cases h : n < 10
  · rw [dcm_lt h]; simp
  · rw [dcm_ge h]; simp
theorem dcm_ne (n : Nat) : dcm n ≠ [] := fun h => by have := dcm_pos n; rw [h] at this; simp at this
theorem dcm_len : ∀ (k n : Nat), n < 10 ^ (k + 1) → (dcm n).length ≤ k + 1
  | 0, n, h => by rw [dcm_lt (by simpa using h)]; simp
  | k + 1, n, h => by
    by_cases h1 : n < 10
    · rw [dcm_lt h1]; simp
    · have := dcm_len k (n / 10) (by rw [Nat.pow_succ] at h; omega)
      rw [dcm_ge h1, List.length_append, List.length_singleton]; omega
theorem isd_mem {l : List B8} (h : l.all isd = true) {c : B8} (hc : ¬ isd c = true) : c ∉ l := fun hm => hc (List.all_eq_true.1 h c hm)
theorem dcm_no (n : Nat) {c : B8} (hc : ¬ isd c = true) : c ∉ dcm n := isd_mem (dcm_isd n) hc
theorem dcm_inj {a b : Nat} (h : dcm a = dcm b) : a = b := by rw [← dval_dcm a, h, dval_dcm]
/-- Digits without a leading zero are the number's own. -/
theorem dcm_dval (l : List B8) : ∀ x : B8, (x :: l).all isd = true → (l ≠ [] → x ≠ 48) → dcm (dval (x :: l)) = x :: l := by
  have key : ∀ (r : List B8) (x : B8), (x :: r.reverse).all isd = true → (r ≠ [] → x ≠ 48) → dcm (dval (x :: r.reverse)) = x :: r.reverse := by
    intro r
    induction r with
    | nil =>
      intro x hx _
      have hx1 : isd x = true := by simpa using hx
      have h1 := isd_iff.1 hx1
      have e : dval [x] = x.toNat - 48 := by simp [dval]
      rw [List.reverse_nil, e, dcm_lt (by omega), ← isd_digit hx1]
    | cons y r ih =>
      intro x hx h0
      rw [List.reverse_cons, ← List.cons_append] at hx ⊢
      rw [List.all_append, Bool.and_eq_true] at hx
      have hy : isd y = true := by simpa using hx.2
      have hy1 := isd_iff.1 hy
      have hx0 := h0 (by simp)
      have h1 := ih x hx.1 (fun _ => hx0)
      have hpos : 0 < dval (x :: r.reverse) := by
        rcases Nat.eq_zero_or_pos (dval (x :: r.reverse)) with e | e
        · rw [e, dcm_lt (by omega)] at h1
          injection h1 with h2 _
          exact absurd h2.symm hx0
        · exact e
      rw [dval_snoc, dcm_ge (by omega), show (10 * dval (x :: r.reverse) + (y.toNat - 48)) / 10 = dval (x :: r.reverse) by omega, show (10 * dval (x :: r.reverse) + (y.toNat - 48)) % 10 = y.toNat - 48 by omega, h1, ← isd_digit hy]
  intro x hx h0
  have := key l.reverse x (by simpa using hx) (by simpa using h0)
  simpa using this
/-- The number that a text of at most 15 digits is, -1 if it is none. -/
def dg (l : List B8) : Int := if l = [] ∨ 15 < l.length then -1 else if l.all isd = true then (dval l : Int) else -1
theorem dg_dcm {n : Nat} (h : n < 10 ^ 15) : dg (dcm n) = n := by
  have := dcm_len 14 n h
  unfold dg
  rw [if_neg (by have := dcm_ne n; simp [this]; omega), if_pos (dcm_isd n), dval_dcm]

/-- A text cut at the first byte c. -/
def cut1 (c : B8) : List B8 → List B8 × List B8 × Bool
  | [] => ([], [], false)
  | x :: r => if x = c then ([], r, true) else (x :: (cut1 c r).1, (cut1 c r).2.1, (cut1 c r).2.2)
theorem cut1_at {c : B8} : ∀ (a b : List B8), c ∉ a → cut1 c (a ++ c :: b) = (a, b, true)
  | [], b, _ => by simp [cut1]
  | x :: a, b, h => by
    have hx : ¬ x = c := fun e => h (by simp [e])
    have := cut1_at a b (fun hm => h (List.mem_cons_of_mem _ hm))
    rw [List.cons_append, cut1, if_neg hx, this]
theorem cut1_none {c : B8} : ∀ (a : List B8), c ∉ a → cut1 c a = (a, [], false)
  | [], _ => rfl
  | x :: a, h => by
    have hx : ¬ x = c := fun e => h (by simp [e])
    have := cut1_none a (fun hm => h (List.mem_cons_of_mem _ hm))
    rw [cut1, if_neg hx, this]
theorem cut1_cases (c : B8) (l : List B8) : (∃ a b, l = a ++ c :: b ∧ c ∉ a ∧ cut1 c l = (a, b, true)) ∨ (c ∉ l ∧ cut1 c l = (l, [], false)) := by
  induction l with
  | nil => exact .inr ⟨by simp, rfl⟩
  | cons x r ih =>
    by_cases hx : x = c
    · exact .inl ⟨[], r, by simp [hx], by simp, by simp [cut1, hx]⟩
    · rcases ih with ⟨a, b, rfl, ha, _⟩ | ⟨ha, _⟩
      · refine .inl ⟨x :: a, b, rfl, ?_, ?_⟩
        · simp; exact ⟨fun e => hx e.symm, ha⟩
        · rw [← List.cons_append]
          exact cut1_at (x :: a) b (by simp; exact ⟨fun e => hx e.symm, ha⟩)
      · have : c ∉ x :: r := by simp; exact ⟨fun e => hx e.symm, ha⟩
        exact .inr ⟨this, cut1_none _ this⟩
/-- The parts of a text between the bytes c. -/
def spl (c : B8) : List B8 → List (List B8)
  | [] => [[]]
  | x :: r => if x = c then [] :: spl c r else match spl c r with
    | [] => [[x]]
    | y :: t => (x :: y) :: t
theorem spl_ne (c : B8) (l : List B8) : spl c l ≠ [] := by
  cases l with
  | nil => simp [spl]
  | cons x r =>
    unfold spl
    split
    · simp
    · split <;> simp
theorem spl_at {c : B8} : ∀ (a b : List B8), c ∉ a → spl c (a ++ c :: b) = a :: spl c b
  | [], b, _ => by simp [spl]
  | x :: a, b, h => by
    have hx : ¬ x = c := fun e => h (by simp [e])
    have := spl_at a b (fun hm => h (List.mem_cons_of_mem _ hm))
    rw [List.cons_append, spl, if_neg hx, this]
theorem spl_none {c : B8} : ∀ (a : List B8), c ∉ a → spl c a = [a]
  | [], _ => rfl
  | x :: a, h => by
    have hx : ¬ x = c := fun e => h (by simp [e])
    have := spl_none a (fun hm => h (List.mem_cons_of_mem _ hm))
    rw [spl, if_neg hx, this]
/-- Parts with a byte c between them. -/
def joi (c : B8) : List (List B8) → List B8
  | [] => []
  | [a] => a
  | a :: b :: t => a ++ c :: joi c (b :: t)
theorem joi_cons {c : B8} (a : List B8) {t : List (List B8)} (h : t ≠ []) : joi c (a :: t) = a ++ c :: joi c t := by
  cases t with
  | nil => exact absurd rfl h
  | cons b t => rfl
theorem joi_snoc {c : B8} : ∀ (t : List (List B8)) (a : List B8), t ≠ [] → joi c (t ++ [a]) = joi c t ++ c :: a
  | [], _, h => absurd rfl h
  | [b], a, _ => rfl
  | b :: b' :: t, a, _ => by
    rw [List.cons_append, joi_cons b (by simp), joi_snoc (b' :: t) a (by simp), joi_cons b (by simp)]
    simp
theorem spl_joi {c : B8} : ∀ (t : List (List B8)), t ≠ [] → (∀ a ∈ t, c ∉ a) → spl c (joi c t) = t
  | [], h, _ => absurd rfl h
  | [a], _, h => spl_none a (h a (by simp))
  | a :: b :: t, _, h => by
    rw [joi_cons a (by simp), spl_at _ _ (h a (by simp)), spl_joi (b :: t) (by simp) (fun x hx => h x (List.mem_cons_of_mem _ hx))]
theorem joi_pos {c : B8} {t : List (List B8)} (h : t ≠ []) (hp : ∀ a ∈ t, a ≠ []) : joi c t ≠ [] := by
  cases t with
  | nil => exact absurd rfl h
  | cons a t =>
    have ha := hp a (by simp)
    cases t with
    | nil => exact ha
    | cons b t => rw [joi_cons a (by simp)]; simp
end Sh
end Go.Proofs.YtgbcncfhmnhljaaDoor
namespace Go.Proofs.YtgbcncfhmnhljaaDoor
open Go Go.RowKit Sh Leaf
namespace Sh

/-- A name: 1 to 16 letters from a to z. -/
def nmok (s : List B8) : Prop := 1 ≤ s.length ∧ s.length ≤ 16 ∧ ∀ c ∈ s, 97 ≤ c.toNat ∧ c.toNat ≤ 122
instance (s : List B8) : Decidable (nmok s) := by unfold nmok; infer_instance
/-- Eight bytes, the most significant one first. -/
def be8 (m : Nat) : List B8 := [BitVec.ofNat 8 (m / 2 ^ 56), BitVec.ofNat 8 (m / 2 ^ 48), BitVec.ofNat 8 (m / 2 ^ 40), BitVec.ofNat 8 (m / 2 ^ 32), BitVec.ofNat 8 (m / 2 ^ 24), BitVec.ofNat 8 (m / 2 ^ 16), BitVec.ofNat 8 (m / 2 ^ 8), BitVec.ofNat 8 m]
def beval (l : List B8) : Nat := l.foldl (fun a c => 256 * a + c.toNat) 0
theorem be8_length (m : Nat) : (be8 m).length = 8 := rfl
theorem beval_snoc (l : List B8) (x : B8) : beval (l ++ [x]) = 256 * beval l + x.toNat := by simp [beval]
theorem beval_be8 {m : Nat} (h : m < 2 ^ 64) : beval (be8 m) = m := by
  simp only [beval, be8, List.foldl_cons, List.foldl_nil, BitVec.toNat_ofNat]
  omega
theorem beval_lt : ∀ l : List B8, l.length ≤ 8 → beval l < 2 ^ 64
  | [], _ => by simp [beval]
  | [a], _ => by have := a.isLt; simp [beval]; omega
  | [a, b], _ => by have := a.isLt; have := b.isLt; simp [beval]; omega
  | [a, b, c], _ => by have := a.isLt; have := b.isLt; have := c.isLt; simp [beval]; omega
  | [a, b, c, d], _ => by have := a.isLt; have := b.isLt; have := c.isLt; have := d.isLt; simp [beval]; omega
  | [a, b, c, d, e], _ => by have := a.isLt; have := b.isLt; have := c.isLt; have := d.isLt; have := e.isLt; simp [beval]; omega
  | [a, b, c, d, e, f], _ => by have := a.isLt; have := b.isLt; have := c.isLt; have := d.isLt; have := e.isLt; have := f.isLt; simp [beval]; omega
  | [a, b, c, d, e, f, g], _ => by have := a.isLt; have := b.isLt; have := c.isLt; have := d.isLt; have := e.isLt; have := f.isLt; have := g.isLt; simp [beval]; omega
  | [a, b, c, d, e, f, g, h], _ => by have := a.isLt; have := b.isLt; have := c.isLt; have := d.isLt; have := e.isLt; have := f.isLt; have := g.isLt; have := h.isLt; simp [beval]; omega
  | _ :: _ :: _ :: _ :: _ :: _ :: _ :: _ :: _ :: _, h => by simp at h
theorem be8_beval (l : List B8) (h : l.length = 8) : be8 (beval l) = l := by
  match l, h with
  | [a, b, c, d, e, f, g, i], _ =>
    have h1 := a.isLt; have h2 := b.isLt; have h3 := c.isLt; have h4 := d.isLt; have h5 := e.isLt; have h6 := f.isLt; have h7 := g.isLt; have h8 := i.isLt
    have hv : beval [a, b, c, d, e, f, g, i] = a.toNat * 2 ^ 56 + b.toNat * 2 ^ 48 + c.toNat * 2 ^ 40 + d.toNat * 2 ^ 32 + e.toNat * 2 ^ 24 + f.toNat * 2 ^ 16 + g.toNat * 2 ^ 8 + i.toNat := by
      simp only [beval, List.foldl_cons, List.foldl_nil]; omega
    have key : ∀ (x : B8) (y : Nat), y % 256 = x.toNat → BitVec.ofNat 8 y = x := fun x y e => by
      apply BitVec.eq_of_toNat_eq
      rw [BitVec.toNat_ofNat]; exact e
    unfold be8
    rw [hv, key a _ (by omega), key b _ (by omega), key c _ (by omega), key d _ (by omega), key e _ (by omega), key f _ (by omega), key g _ (by omega), key i _ (by omega)]
theorem be8_take_succ (m : Nat) {k : Nat} (h : k < 8) : (be8 m).take (k + 1) = (be8 m).take k ++ [BitVec.ofNat 8 (m / 2 ^ (56 - 8 * k))] := by
  match k, h with
  | 0, _ => rfl
  | 1, _ => rfl
  | 2, _ => rfl
  | 3, _ => rfl
  | 4, _ => rfl
  | 5, _ => rfl
  | 6, _ => rfl
  | 7, _ => simp [be8]
end Sh
end Go.Proofs.YtgbcncfhmnhljaaDoor
namespace Go.Proofs.YtgbcncfhmnhljaaDoor
open Go Go.RowKit Sh Leaf
namespace Sh

/-- A predicate. -/
structure Prd where
  kind : Int
  mask : Nat
  lo : Int
  hi : Int
  name : List B8
  num : Int
deriving DecidableEq
abbrev Prd.zero : Prd := ⟨0, 0, 0, 0, [], 0⟩
/-- A valid predicate. -/
def pok (p : Prd) : Prop :=
  (p.kind = 1 ∧ p.mask ≠ 0 ∧ p.lo = 0 ∧ p.hi = 0 ∧ p.name = [] ∧ p.num = 0) ∨
  (p.kind = 2 ∧ p.mask ≠ 0 ∧ p.mask < 4294967296 ∧ p.lo = 0 ∧ p.hi = 0 ∧ p.name = [] ∧ p.num = 0) ∨
  (p.kind = 3 ∧ p.mask ≠ 0 ∧ p.mask < 128 ∧ p.lo = 0 ∧ p.hi = 0 ∧ p.name = [] ∧ p.num = 0) ∨
  (p.kind = 4 ∧ p.mask = 0 ∧ 0 ≤ p.lo ∧ p.lo ≤ p.hi ∧ p.hi ≤ 67108864 ∧ p.name = [] ∧ p.num = 0) ∨
  (p.kind = 5 ∧ p.mask = 0 ∧ 0 ≤ p.lo ∧ p.lo < 1440 ∧ 0 ≤ p.hi ∧ p.hi < 1440 ∧ p.name = [] ∧ p.num = 0) ∨
  (p.kind = 6 ∧ p.mask = 0 ∧ p.lo = 0 ∧ p.hi = 0 ∧ nmok p.name ∧ p.num = 0) ∨
  (p.kind = 7 ∧ p.mask = 0 ∧ p.lo = 0 ∧ p.hi = 0 ∧ p.name = [] ∧ 0 ≤ p.num ∧ p.num ≤ 1000000)
instance (p : Prd) : Decidable (pok p) := by unfold pok; infer_instance

/-! ### Bits of a mask -/
/-- The numbers below i of the bits of m. -/
def bitl (m i : Nat) : List Nat := (List.range i).filter fun j => decide (m / 2 ^ j % 2 = 1)
theorem bitl_succ (m i : Nat) : bitl m (i + 1) = bitl m i ++ (if m / 2 ^ i % 2 = 1 then [i] else []) := by
  unfold bitl
  rw [List.range_succ, List.filter_append]
  congr 1
  by_cases h : m / 2 ^ i % 2 = 1
  · rw [if_pos h]; simp [h]
  · rw [if_neg h]; simp; omega
theorem bitl_lt {m i j : Nat} (h : j ∈ bitl m i) : j < i := by
  unfold bitl at h
  rw [List.mem_filter, List.mem_range] at h
  exact h.1
theorem mem_bitl {m i j : Nat} : j ∈ bitl m i ↔ j < i ∧ m.testBit j = true := by
  unfold bitl
  rw [List.mem_filter, List.mem_range, Nat.testBit_eq_decide_div_mod_eq]
def orl (a : Nat) (l : List Nat) : Nat := l.foldl (fun a i => a ||| 2 ^ i) a
theorem orl_bit : ∀ (l : List Nat) (a j : Nat), (orl a l).testBit j = (a.testBit j || decide (j ∈ l))
  | [], a, j => by simp [orl]
  | i :: l, a, j => by
    have h := orl_bit l (a ||| 2 ^ i) j
    have e : orl a (i :: l) = orl (a ||| 2 ^ i) l := rfl
    rw [e, h, Nat.testBit_or, Nat.testBit_two_pow]
    by_cases h1 : i = j
    · subst h1; simp
    · have h2 : ¬ j = i := fun e => h1 e.symm
      simp [h1, h2]
theorem orl_bitl {m : Nat} (h : m < 2 ^ 64) : orl 0 (bitl m 64) = m := by
  apply Nat.eq_of_testBit_eq
  intro j
  rw [orl_bit]
  rcases Nat.lt_or_ge j 64 with hj | hj
  · by_cases hb : m.testBit j = true
    · rw [hb, decide_eq_true (mem_bitl.2 ⟨hj, hb⟩)]; simp
    · rw [decide_eq_false (fun hm => hb (mem_bitl.1 hm).2)]
      simp at hb ⊢
      exact hb
  · have h1 : m.testBit j = false := Nat.testBit_lt_two_pow (Nat.lt_of_lt_of_le h (Nat.pow_le_pow_right (by omega) hj))
    rw [h1, decide_eq_false (fun hm => by have := bitl_lt hm; omega)]
    simp
theorem bitl_ne {m i : Nat} (h0 : m ≠ 0) (h : m < 2 ^ i) : bitl m i ≠ [] := by
  intro e
  obtain ⟨j, hj⟩ := Nat.exists_testBit_of_ne_zero h0
  have hji : j < i := by
    rcases Nat.lt_or_ge j i with hl | hl
    · exact hl
    · rw [Nat.testBit_lt_two_pow (Nat.lt_of_lt_of_le h (Nat.pow_le_pow_right (by omega) hl))] at hj; cases hj
  have := mem_bitl.2 ⟨hji, hj⟩
  rw [e] at this
  cases this

/-! ### Texts -/
/-- The word of a kind. -/
def wd (k : Int) : List B8 :=
  if k = 1 then [122, 111, 110, 101] else if k = 2 then [108, 105, 110, 101] else if k = 3 then [100, 97, 121, 115] else if k = 4 then [116, 105, 109, 101] else if k = 5 then [100, 97, 105, 108, 121] else if k = 6 then [104, 111, 108, 100, 101, 114] else if k = 7 then [114, 105, 100, 101, 115] else []
/-- The kind of a word, 0 if it is none. -/
def kindOf (w : List B8) : Int := if w = wd 1 then 1 else if w = wd 2 then 2 else if w = wd 3 then 3 else if w = wd 4 then 4 else if w = wd 5 then 5 else if w = wd 6 then 6 else if w = wd 7 then 7 else 0
/-- What stands behind the word. -/
def pbody (p : Prd) : List B8 :=
  if p.kind ≤ 3 then joi 44 ((bitl p.mask 64).map dcm) else if p.kind ≤ 5 then dcm p.lo.toNat ++ 45 :: dcm p.hi.toNat else if p.kind = 6 then p.name else dcm p.num.toNat
def pfmt (p : Prd) : List B8 := wd p.kind ++ 32 :: pbody p
/-- Format: the text and the error. -/
def fm (p : Prd) : List B8 × Nat := if pok p then (pfmt p, 0) else ([], 5)
/-- The mask of numbers in decimal. -/
def por (a : Nat) (l : List (List B8)) : Nat := l.foldl (fun m x => if 0 ≤ dg x ∧ dg x < 64 then m ||| 2 ^ (dg x).toNat else m) a
/-- The only predicate whose text s may be. -/
def lp (s : List B8) : Prd :=
  let k := kindOf (cut1 32 s).1
  let r := (cut1 32 s).2.1
  if k = 1 ∨ k = 2 ∨ k = 3 then ⟨k, por 0 (spl 44 r), 0, 0, [], 0⟩
  else if k = 4 ∨ k = 5 then ⟨k, 0, dg (cut1 45 r).1, dg (cut1 45 r).2.1, [], 0⟩
  else if k = 6 then ⟨k, 0, 0, 0, r, 0⟩
  else if k = 7 then ⟨k, 0, 0, 0, [], dg r⟩
  else .zero
/-- Parse: the predicate and the error. -/
def ps (s : List B8) : Prd × Nat := if pok (lp s) ∧ pfmt (lp s) = s then (lp s, 0) else (.zero, 8)

theorem pok_kind {p : Prd} (h : pok p) : 1 ≤ p.kind ∧ p.kind ≤ 7 := by unfold pok at h; omega
theorem kind_cases {k : Int} (h : 1 ≤ k ∧ k ≤ 7) : k = 1 ∨ k = 2 ∨ k = 3 ∨ k = 4 ∨ k = 5 ∨ k = 6 ∨ k = 7 := by omega
theorem kindOf_wd {k : Int} (h : 1 ≤ k ∧ k ≤ 7) : kindOf (wd k) = k := by
  rcases kind_cases h with rfl | rfl | rfl | rfl | rfl | rfl | rfl <;> decide
theorem wd_no {k : Int} (h : 1 ≤ k ∧ k ≤ 7) : (32 : B8) ∉ wd k := by
  rcases kind_cases h with rfl | rfl | rfl | rfl | rfl | rfl | rfl <;> decide
theorem por_bits : ∀ (l : List Nat) (a : Nat), (∀ i ∈ l, i < 64) → por a (l.map dcm) = orl a l
  | [], _, _ => rfl
  | i :: l, a, h => by
    have hi := h i (by simp)
    have hd : dg (dcm i) = i := dg_dcm (by omega)
    have e : por a ((i :: l).map dcm) = por (if 0 ≤ dg (dcm i) ∧ dg (dcm i) < 64 then a ||| 2 ^ (dg (dcm i)).toNat else a) (l.map dcm) := rfl
    rw [e, if_pos (by rw [hd]; omega), hd, Int.toNat_natCast, por_bits l _ (fun j hj => h j (List.mem_cons_of_mem _ hj))]
    rfl
theorem spl_bits {m : Nat} (h0 : m ≠ 0) (h : m < 2 ^ 64) : por 0 (spl 44 (joi 44 ((bitl m 64).map dcm))) = m := by
  rw [spl_joi _ (by simpa using bitl_ne h0 h), por_bits _ _ (fun i hi => bitl_lt hi), orl_bitl h]
  intro a ha
  obtain ⟨i, _, rfl⟩ := List.mem_map.1 ha
  exact dcm_no i (by decide)
theorem cut_dash (a b : Nat) : cut1 45 (dcm a ++ 45 :: dcm b) = (dcm a, dcm b, true) := cut1_at _ _ (dcm_no a (by decide))
/-- A valid predicate is the one of its text. -/
theorem lp_fmt {p : Prd} (h : pok p) (hm : p.mask < 2 ^ 64) : lp (pfmt p) = p := by
  have hk := pok_kind h
  have e1 : cut1 32 (pfmt p) = (wd p.kind, pbody p, true) := cut1_at _ _ (wd_no hk)
  obtain ⟨k, m, lo, hi, nm, nu⟩ := p
  unfold lp
  rw [e1]
  simp only [kindOf_wd hk]
  unfold pok at h
  simp only at h hm hk
  rcases h with ⟨rfl, h0, rfl, rfl, rfl, rfl⟩ | ⟨rfl, h0, h1, rfl, rfl, rfl, rfl⟩ | ⟨rfl, h0, h1, rfl, rfl, rfl, rfl⟩ | ⟨rfl, rfl, h1, h2, h3, rfl, rfl⟩ | ⟨rfl, rfl, h1, h2, h3, h4, rfl, rfl⟩ | ⟨rfl, rfl, rfl, rfl, h1, rfl⟩ | ⟨rfl, rfl, rfl, rfl, rfl, h1, h2⟩
  · simp [pbody]; exact spl_bits h0 hm
  · simp [pbody]; exact spl_bits h0 hm
  · simp [pbody]; exact spl_bits h0 hm
  · have ha : dg (dcm lo.toNat) = lo := by rw [dg_dcm (by omega)]; omega
    have hb : dg (dcm hi.toNat) = hi := by rw [dg_dcm (by omega)]; omega
    simp [pbody]
    exact ⟨(congrArg (fun c => dg c.1) (cut_dash lo.toNat hi.toNat)).trans ha, (congrArg (fun c => dg c.2.1) (cut_dash lo.toNat hi.toNat)).trans hb⟩
  · have ha : dg (dcm lo.toNat) = lo := by rw [dg_dcm (by omega)]; omega
    have hb : dg (dcm hi.toNat) = hi := by rw [dg_dcm (by omega)]; omega
    simp [pbody]
    exact ⟨(congrArg (fun c => dg c.1) (cut_dash lo.toNat hi.toNat)).trans ha, (congrArg (fun c => dg c.2.1) (cut_dash lo.toNat hi.toNat)).trans hb⟩
  · simp [pbody]
  · have ha : dg (dcm nu.toNat) = nu := by rw [dg_dcm (by omega)]; omega
    simp [pbody, ha]
theorem ps_fmt {p : Prd} (h : pok p) (hm : p.mask < 2 ^ 64) : ps (pfmt p) = (p, 0) := by
  unfold ps
  rw [lp_fmt h hm, if_pos ⟨h, rfl⟩]
/-- A text that is read is the text of what it is read as. -/
theorem ps_cases (s : List B8) : (pok (lp s) ∧ pfmt (lp s) = s ∧ ps s = (lp s, 0)) ∨ ((∀ q, pok q → q.mask < 2 ^ 64 → pfmt q ≠ s) ∧ ps s = (.zero, 8)) := by
  by_cases h : pok (lp s) ∧ pfmt (lp s) = s
  · exact .inl ⟨h.1, h.2, by unfold ps; rw [if_pos h]⟩
  · refine .inr ⟨fun q hq hm e => h ?_, by unfold ps; rw [if_neg h]⟩
    subst e
    rw [lp_fmt hq hm]
    exact ⟨hq, rfl⟩
/-- Whoever reads exactly the texts of valid predicates reads as specified. -/
theorem ps_of {s : List B8} {q : Prd} (h : pok q) (hm : q.mask < 2 ^ 64) (e : pfmt q = s) : ps s = (q, 0) := by rw [← e]; exact ps_fmt h hm
theorem ps_bad {s : List B8} (h : ∀ q, pok q → q.mask < 2 ^ 64 → pfmt q ≠ s) (hm : (lp s).mask < 2 ^ 64) : ps s = (.zero, 8) := by
  unfold ps
  rw [if_neg fun hc => h _ hc.1 hm hc.2]
theorem por_lt : ∀ (l : List (List B8)) (a : Nat), a < 2 ^ 64 → por a l < 2 ^ 64
  | [], _, h => h
  | x :: l, a, h => by
    have e : por a (x :: l) = por (if 0 ≤ dg x ∧ dg x < 64 then a ||| 2 ^ (dg x).toNat else a) l := rfl
    rw [e]
    refine por_lt l _ ?_
    split
    · exact Nat.or_lt_two_pow h (Nat.pow_lt_pow_right (by omega) (by omega))
    · exact h
theorem lp_mask (s : List B8) : (lp s).mask < 2 ^ 64 := by
  unfold lp
  simp only
  split
  · exact por_lt _ _ (by omega)
  · split
    · show 0 < _; omega
    · split
      · show 0 < _; omega
      · split
        · show 0 < _; omega
        · show 0 < _; omega

/-! ### Encodings -/
/-- What stands behind the kind. -/
def ebody (p : Prd) : List B8 := if p.kind ≤ 3 then be8 p.mask else if p.kind ≤ 5 then enc p.lo.toNat ++ enc p.hi.toNat else if p.kind = 6 then fld p.name else enc p.num.toNat
def en (p : Prd) : List B8 := enc p.kind.toNat ++ ebody p
/-- Encode: the bytes and the error. -/
def ed (p : Prd) : List B8 × Nat := if pok p then (en p, 0) else ([], 5)
/-- What is read at last: the predicate if it is valid. -/
def fin (p : Prd) (n : Nat) : Prd × Nat × Nat := if pok p then (p, n, 0) else (.zero, 0, 5)
/-- Decode: the predicate, how many bytes it has, the error. -/
def dn (b : List B8) : Prd × Nat × Nat :=
  let (k, u, e) := rd b
  if e ≠ 0 then (.zero, 0, e)
  else if k = 1 ∨ k = 2 ∨ k = 3 then
    if b.length - u < 8 then (.zero, 0, 3) else fin ⟨k, beval ((b.drop u).take 8), 0, 0, [], 0⟩ (u + 8)
  else if k = 4 ∨ k = 5 then
    let (x, u1, e1) := rd (b.drop u)
    if e1 ≠ 0 then (.zero, 0, e1) else
    let (y, u2, e2) := rd (b.drop (u + u1))
    if e2 ≠ 0 then (.zero, 0, e2) else fin ⟨k, 0, x, y, [], 0⟩ (u + u1 + u2)
  else if k = 6 then
    let (x, u1, e1) := rdf (b.drop u)
    if e1 ≠ 0 then (.zero, 0, e1) else fin ⟨k, 0, 0, 0, x, 0⟩ (u + u1)
  else if k = 7 then
    let (x, u1, e1) := rd (b.drop u)
    if e1 ≠ 0 then (.zero, 0, e1) else fin ⟨k, 0, 0, 0, [], x⟩ (u + u1)
  else (.zero, 0, 6)
theorem fin_ok {p : Prd} (h : pok p) (n : Nat) : fin p n = (p, n, 0) := by unfold fin; rw [if_pos h]
theorem fin_bad {p : Prd} (h : ¬ pok p) (n : Nat) : fin p n = (.zero, 0, 5) := by unfold fin; rw [if_neg h]
theorem fin_back {p q : Prd} {n m : Nat} (h : fin p n = (q, m, 0)) : pok p ∧ q = p ∧ m = n := by
  unfold fin at h
  split at h
  · rename_i hp
    injection h with h1 h2
    injection h2 with h2 _
    exact ⟨hp, h1.symm, h2.symm⟩
  · injection h with _ h2
    injection h2 with _ h3
    cases h3
theorem fin_err {p q : Prd} {n m e : Nat} (h : fin p n = (q, m, e)) (he : e ≠ 0) : q = .zero ∧ m = 0 := by
  unfold fin at h
  split at h
  · injection h with _ h2
    injection h2 with _ h3
    exact absurd h3.symm he
  · injection h with h1 h2
    injection h2 with h2 _
    exact ⟨h1.symm, h2.symm⟩
theorem dn_err {b : List B8} {k u e : Nat} (h : rd b = (k, u, e)) (he : e ≠ 0) : dn b = (.zero, 0, e) := by
  unfold dn; rw [h]; simp only; rw [if_pos he]
theorem dn_mask {b : List B8} {k u : Nat} (h : rd b = (k, u, 0)) (hk : k = 1 ∨ k = 2 ∨ k = 3) : dn b = if b.length - u < 8 then (.zero, 0, 3) else fin ⟨k, beval ((b.drop u).take 8), 0, 0, [], 0⟩ (u + 8) := by
  unfold dn; rw [h]; simp only; rw [if_neg (by simp), if_pos hk]
theorem dn_time {b : List B8} {k u x u1 e1 y u2 e2 : Nat} (h : rd b = (k, u, 0)) (hk : k = 4 ∨ k = 5) (h1 : rd (b.drop u) = (x, u1, e1)) (h2 : rd (b.drop (u + u1)) = (y, u2, e2)) :
    dn b = if e1 ≠ 0 then (.zero, 0, e1) else if e2 ≠ 0 then (.zero, 0, e2) else fin ⟨k, 0, x, y, [], 0⟩ (u + u1 + u2) := by
  unfold dn; rw [h]; simp only; rw [if_neg (by simp), if_neg (by omega), if_pos hk, h1]; simp only; rw [h2]
theorem dn_name {b x : List B8} {u u1 e1 : Nat} (h : rd b = (6, u, 0)) (h1 : rdf (b.drop u) = (x, u1, e1)) : dn b = if e1 ≠ 0 then (.zero, 0, e1) else fin ⟨6, 0, 0, 0, x, 0⟩ (u + u1) := by
  unfold dn; rw [h]; simp only; rw [if_neg (by simp), if_neg (by omega), if_neg (by omega), if_pos trivial, h1]; rfl
theorem dn_num {b : List B8} {u x u1 e1 : Nat} (h : rd b = (7, u, 0)) (h1 : rd (b.drop u) = (x, u1, e1)) : dn b = if e1 ≠ 0 then (.zero, 0, e1) else fin ⟨7, 0, 0, 0, [], x⟩ (u + u1) := by
  unfold dn; rw [h]; simp only; rw [if_neg (by simp), if_neg (by omega), if_neg (by omega), if_neg (by omega), if_pos trivial, h1]; rfl
theorem dn_kind {b : List B8} {k u : Nat} (h : rd b = (k, u, 0)) (hk : k = 0 ∨ 7 < k) : dn b = (.zero, 0, 6) := by
  unfold dn; rw [h]; simp only; rw [if_neg (by simp), if_neg (by omega), if_neg (by omega), if_neg (by omega), if_neg (by omega)]
/-- A predicate is read from its encoding, whatever follows. -/
theorem dn_en {p : Prd} (h : pok p) (hm : p.mask < 2 ^ 64) (t : List B8) : dn (en p ++ t) = (p, (en p).length, 0) := by
  have hk := pok_kind h
  have e0 : rd (en p ++ t) = (p.kind.toNat, (enc p.kind.toNat).length, 0) := by
    unfold en
    rw [List.append_assoc]
    exact rd_enc _ (by omega) _
  have ed0 : (en p ++ t).drop (enc p.kind.toNat).length = ebody p ++ t := by
    unfold en
    rw [List.append_assoc, List.drop_left]
  have el : (en p).length = (enc p.kind.toNat).length + (ebody p).length := by unfold en; rw [List.length_append]
  have hc := h
  unfold pok at hc
  obtain ⟨k, m, lo, hi, nm, nu⟩ := p
  simp only at hc hm hk e0 ed0 el
  rcases hc with hc | hc | hc | hc | hc | hc | hc
  case inl | inr.inl | inr.inr.inl =>
    all_goals
      have eb : ebody ⟨k, m, lo, hi, nm, nu⟩ = be8 m := by unfold ebody; rw [if_pos (by show k ≤ 3; omega)]
      rw [eb] at ed0 el
      have hlen : (en ⟨k, m, lo, hi, nm, nu⟩ ++ t).length - (enc k.toNat).length = 8 + t.length := by rw [List.length_append, el, be8_length]; omega
      have ht : (be8 m ++ t).take 8 = be8 m := by rw [← be8_length m]; exact List.take_left
      rw [dn_mask e0 (by omega), hlen, if_neg (by omega), ed0, ht, beval_be8 hm, el, be8_length]
      have ep : (⟨(k.toNat : Int), m, 0, 0, [], 0⟩ : Prd) = ⟨k, m, lo, hi, nm, nu⟩ := by
        rw [show ((k.toNat : Nat) : Int) = k by omega]
        simp [hc]
      rw [ep, fin_ok h]
  case inr.inr.inr.inl | inr.inr.inr.inr.inl =>
    all_goals
      have eb : ebody ⟨k, m, lo, hi, nm, nu⟩ = enc lo.toNat ++ enc hi.toNat := by unfold ebody; rw [if_neg (by show ¬ k ≤ 3; omega), if_pos (by show k ≤ 5; omega)]
      rw [eb] at ed0 el
      have e1 : rd ((en ⟨k, m, lo, hi, nm, nu⟩ ++ t).drop (enc k.toNat).length) = (lo.toNat, (enc lo.toNat).length, 0) := by
        rw [ed0, List.append_assoc]
        exact rd_enc _ (by omega) _
      have e2 : rd ((en ⟨k, m, lo, hi, nm, nu⟩ ++ t).drop ((enc k.toNat).length + (enc lo.toNat).length)) = (hi.toNat, (enc hi.toNat).length, 0) := by
        rw [← List.drop_drop, ed0, List.append_assoc, List.drop_left]
        exact rd_enc _ (by omega) _
      rw [dn_time e0 (by omega) e1 e2, if_neg (by simp), if_neg (by simp), el, List.length_append, Nat.add_assoc]
      have ep : (⟨(k.toNat : Int), 0, (lo.toNat : Int), (hi.toNat : Int), [], 0⟩ : Prd) = ⟨k, m, lo, hi, nm, nu⟩ := by
        rw [show ((k.toNat : Nat) : Int) = k by omega, show ((lo.toNat : Nat) : Int) = lo by omega, show ((hi.toNat : Nat) : Int) = hi by omega]
        simp [hc]
      rw [ep, fin_ok h]
  case inr.inr.inr.inr.inr.inl =>
    obtain ⟨rfl, rfl, rfl, rfl, hn, rfl⟩ := hc
    have eb : ebody ⟨6, 0, 0, 0, nm, 0⟩ = fld nm := by unfold ebody; rfl
    rw [eb] at ed0 el
    have e1 : rdf ((en ⟨6, 0, 0, 0, nm, 0⟩ ++ t).drop (enc (6 : Int).toNat).length) = (nm, (fld nm).length, 0) := by
      rw [ed0]
      exact rdf_fld _ _ (by have := hn.2.1; omega)
    rw [dn_name e0 e1, if_neg (by simp), el, fin_ok h]
  case inr.inr.inr.inr.inr.inr =>
    obtain ⟨rfl, rfl, rfl, rfl, rfl, hn1, hn2⟩ := hc
    have eb : ebody ⟨7, 0, 0, 0, [], nu⟩ = enc nu.toNat := by unfold ebody; rfl
    rw [eb] at ed0 el
    have e1 : rd ((en ⟨7, 0, 0, 0, [], nu⟩ ++ t).drop (enc (7 : Int).toNat).length) = (nu.toNat, (enc nu.toNat).length, 0) := by
      rw [ed0]
      exact rd_enc _ (by omega) _
    have ep : (⟨7, 0, 0, 0, [], (nu.toNat : Int)⟩ : Prd) = ⟨7, 0, 0, 0, [], nu⟩ := by rw [show ((nu.toNat : Nat) : Int) = nu by omega]
    rw [dn_num e0 e1, if_neg (by simp), el, ep, fin_ok h]
end Sh
end Go.Proofs.YtgbcncfhmnhljaaDoor
namespace Go.Proofs.YtgbcncfhmnhljaaDoor
open Go Go.RowKit Sh Leaf
namespace Sh

/-- A ride. -/
structure Ctx where
  zone : Int
  line : Int
  minute : Int
  holder : List B8
deriving DecidableEq
/-- A valid ride. -/
def cok (c : Ctx) : Prop := (0 ≤ c.zone ∧ c.zone ≤ 63) ∧ (0 ≤ c.line ∧ c.line ≤ 31) ∧ (0 ≤ c.minute ∧ c.minute ≤ 67108864) ∧ nmok c.holder
instance (c : Ctx) : Decidable (cok c) := by unfold cok; infer_instance
/-- Bit z of a mask. -/
def hbit (m : Nat) (z : Int) : Prop := m / 2 ^ z.toNat % 2 = 1
instance (m : Nat) (z : Int) : Decidable (hbit m z) := by unfold hbit; infer_instance
/-- What a valid predicate asks of a valid ride. -/
def asks (p : Prd) (c : Ctx) : Prop :=
  if p.kind = 1 then hbit p.mask c.zone else if p.kind = 2 then hbit p.mask c.line else if p.kind = 3 then hbit p.mask (c.minute / 1440 % 7) else if p.kind = 4 then p.lo ≤ c.minute ∧ c.minute ≤ p.hi
  else if p.kind = 5 then (if p.lo ≤ p.hi then p.lo ≤ c.minute % 1440 ∧ c.minute % 1440 ≤ p.hi else p.lo ≤ c.minute % 1440 ∨ c.minute % 1440 ≤ p.hi) else if p.kind = 6 then c.holder = p.name else True
instance (p : Prd) (c : Ctx) : Decidable (asks p c) := by unfold asks; infer_instance
/-- Holds. -/
def hd (p : Prd) (c : Ctx) : Prop := pok p ∧ cok c ∧ asks p c
instance (p : Prd) (c : Ctx) : Decidable (hd p c) := by unfold hd; infer_instance
/-- All, behind the first k predicates. -/
def hdA (c : Ctx) : Nat → List Prd → Nat × Bool
  | _, [] => (0, true)
  | k, p :: t => if hd p c then hdA c (k + 1) t else (k, false)
def hdAll (l : List Prd) (c : Ctx) : Nat × Bool := hdA c 0 l
theorem hdA_all (c : Ctx) : ∀ (l : List Prd) (k : Nat), (hdA c k l).2 = decide (∀ p ∈ l, hd p c)
  | [], k => by simp [hdA]
  | p :: t, k => by
    unfold hdA
    by_cases h : hd p c
    · rw [if_pos h, hdA_all c t (k + 1)]
      refine decide_eq_decide.2 ⟨fun ht q hq => ?_, fun ht q hq => ht q (List.mem_cons_of_mem _ hq)⟩
      rcases List.mem_cons.1 hq with rfl | hq
      · exact h
      · exact ht q hq
    · rw [if_neg h]
      exact (decide_eq_false fun ht => h (ht p (by simp))).symm
theorem hdAll_all (l : List Prd) (c : Ctx) : (hdAll l c).2 = decide (∀ p ∈ l, hd p c) := hdA_all c l 0
theorem hdA_ok (c : Ctx) : ∀ (l : List Prd) (k j : Nat) (hj : j < l.length), (∀ i (h : i < l.length), i < j → hd l[i] c) → ¬ hd l[j] c → hdA c k l = (k + j, false)
  | p :: t, k, 0, _, _, h => by
    have h' : ¬ hd p c := h
    rw [hdA, if_neg h']; rfl
  | p :: t, k, j + 1, hj, h1, h => by
    have h0 := h1 0 (by simp) (by omega)
    have h0' : hd p c := h0
    rw [hdA, if_pos h0', hdA_ok c t (k + 1) j (by simpa using hj) (fun i hi hij => h1 (i + 1) (by simpa using hi) (by omega)) h]
    rw [Nat.add_assoc, Nat.add_comm 1 j]
theorem hdA_true (c : Ctx) : ∀ (l : List Prd) (k : Nat), (∀ p ∈ l, hd p c) → hdA c k l = (0, true)
  | [], _, _ => rfl
  | p :: t, k, h => by rw [hdA, if_pos (h p (by simp)), hdA_true c t (k + 1) (fun q hq => h q (List.mem_cons_of_mem _ hq))]
/-- The list with one predicate more. -/
theorem hdAll_more (l : List Prd) (p : Prd) (k : Nat) (c : Ctx) : (hdAll (l.take k ++ p :: l.drop k) c).2 = ((hdAll l c).2 && decide (hd p c)) := by
  rw [hdAll_all, hdAll_all, ← Bool.decide_and]
  refine decide_eq_decide.2 ⟨fun h => ⟨fun q hq => ?_, h p (by simp)⟩, fun h q hq => ?_⟩
  · rw [← List.take_append_drop k l] at hq
    rcases List.mem_append.1 hq with hq | hq
    · exact h q (List.mem_append_left _ hq)
    · exact h q (List.mem_append_right _ (List.mem_cons_of_mem _ hq))
  · rcases List.mem_append.1 hq with hq | hq
    · exact h.1 q (List.mem_of_mem_take hq)
    · rcases List.mem_cons.1 hq with rfl | hq
      · exact h.2
      · exact h.1 q (List.mem_of_mem_drop hq)
/-- A daily span, and the one around it. -/
theorem daily_outer (a b : Int) (c : Ctx) (hc : cok c) (h0 : 0 ≤ a) (h1 : a < b) (h2 : b < 1440) (h3 : ¬ (b = 1439 ∧ a = 0)) :
    decide (hd ⟨5, 0, a, b, [], 0⟩ c) = !decide (hd ⟨5, 0, (b + 1) % 1440, (a + 1439) % 1440, [], 0⟩ c) := by
  have k1 : pok ⟨5, 0, a, b, [], 0⟩ := by unfold pok; simp; omega
  have k2 : pok ⟨5, 0, (b + 1) % 1440, (a + 1439) % 1440, [], 0⟩ := by unfold pok; simp; omega
  have hm : 0 ≤ c.minute % 1440 ∧ c.minute % 1440 < 1440 := by omega
  have e1 : hd ⟨5, 0, a, b, [], 0⟩ c ↔ a ≤ c.minute % 1440 ∧ c.minute % 1440 ≤ b := by
    unfold hd asks
    simp only [k1, hc, true_and]
    rw [if_neg (by omega), if_neg (by omega), if_neg (by omega), if_neg (by omega), if_pos trivial, if_pos (by omega)]
  have e2 : hd ⟨5, 0, (b + 1) % 1440, (a + 1439) % 1440, [], 0⟩ c ↔ ¬ (a ≤ c.minute % 1440 ∧ c.minute % 1440 ≤ b) := by
    unfold hd asks
    simp only [k2, hc, true_and]
    rw [if_neg (by omega), if_neg (by omega), if_neg (by omega), if_neg (by omega), if_pos trivial]
    split <;> omega
  by_cases h : a ≤ c.minute % 1440 ∧ c.minute % 1440 ≤ b
  · rw [decide_eq_true (e1.2 h), decide_eq_false (fun q => (e2.1 q) h)]; rfl
  · rw [decide_eq_false (fun q => h (e1.1 q)), decide_eq_true (e2.2 h)]; rfl
end Sh
end Go.Proofs.YtgbcncfhmnhljaaDoor
namespace Go.Proofs.YtgbcncfhmnhljaaDoor
open Go Go.RowKit Sh Leaf
namespace Sh

/-- No holder, or a name. -/
def nok (h : List B8) : Prop := h = [] ∨ nmok h
instance (h : List B8) : Decidable (nok h) := by unfold nok; infer_instance
/-- A valid authority. -/
def aok (a : Aut) : Prop := a = .never ∨ (a.zones ≠ 0 ∧ a.zones < 18446744073709551616 ∧ a.lines ≠ 0 ∧ a.lines < 4294967296 ∧ a.hi ≤ 67108864 ∧ nok a.holder ∧ Canon a.zones a.lines (mins a) a.holder a)
/-- The ride c is in a. -/
def ina (a : Aut) (c : Ctx) : Prop := a.none = false ∧ hbit a.zones c.zone ∧ hbit a.lines c.line ∧ mins a c.minute.toNat ∧ (a.holder = [] ∨ a.holder = c.holder)
noncomputable instance (a : Aut) : Decidable (aok a) := Classical.propDecidable _
noncomputable instance (a : Aut) (c : Ctx) : Decidable (ina a c) := Classical.propDecidable _
theorem aok_never : aok .never := .inl rfl
theorem ina_never (c : Ctx) : ¬ ina .never c := fun h => by have := h.1; simp at this
theorem bit_ex {m : Nat} (n : Nat) (h : m ≠ 0) (hlt : m < 2 ^ n) : ∃ w, w < n ∧ m / 2 ^ w % 2 = 1 := by
  apply Classical.byContradiction
  intro hno
  refine h (mask_ext n hlt (Nat.pow_pos (by omega)) fun w hw => ⟨fun h => absurd ⟨w, hw, h⟩ hno, fun h => ?_⟩)
  simp at h
theorem hbit_and (a b : Nat) (z : Int) : hbit (a &&& b) z ↔ hbit a z ∧ hbit b z := by
  unfold hbit
  have h1 := Nat.testBit_eq_decide_div_mod_eq (x := a &&& b) (i := z.toNat)
  have h2 := Nat.testBit_eq_decide_div_mod_eq (x := a) (i := z.toNat)
  have h3 := Nat.testBit_eq_decide_div_mod_eq (x := b) (i := z.toNat)
  rw [Nat.testBit_and, h2, h3, ← Bool.decide_and] at h1
  exact (decide_eq_decide.1 h1).symm
theorem hbit_zero (z : Int) : ¬ hbit 0 z := by unfold hbit; simp
theorem hbit_full {n : Nat} {z : Int} (h : z.toNat < n) : hbit (2 ^ n - 1) z := by
  unfold hbit
  have h1 := Nat.testBit_eq_decide_div_mod_eq (x := 2 ^ n - 1) (i := z.toNat)
  rw [Nat.testBit_two_pow_sub_one, decide_eq_true h] at h1
  exact of_decide_eq_true h1.symm
/-- A holder that h permits. -/
def pick (h : List B8) : List B8 := if h = [] then [97#8] else h
theorem pick_ok {h : List B8} (hn : nok h) : nmok (pick h) ∧ (h = [] ∨ h = pick h) := by
  unfold pick
  by_cases e : h = []
  · rw [if_pos e]; exact ⟨by decide, .inl e⟩
  · rw [if_neg e]; exact ⟨hn.elim (fun k => absurd k e) id, .inr rfl⟩
theorem Canon.ord {Z Ln : Nat} {S : Nat → Prop} {h : List B8} {a : Aut} (ha : Canon Z Ln S h a) : 0 ≤ a.lo ∧ a.lo ≤ a.hi ∧ a.days ≠ 0 ∧ ∃ x, S x ∧ a.lo = x := by
  obtain ⟨x, hx, ex, mx⟩ := ha.lo
  obtain ⟨y, hy, ey, my⟩ := ha.hi
  have := mx y hy
  refine ⟨by omega, by omega, fun h0 => ?_, x, hx, ex⟩
  have := (ha.day (x / 1440 % 7) (by omega)).2 ⟨x, hx, rfl⟩
  rw [h0] at this
  simp at this
theorem ride_ok {a : Aut} (hi : a.hi ≤ 67108864) {z l x : Nat} {n : List B8} (hz : z < 64) (hl : l < 32) (hx : mins a x) (hn : nmok n) : cok ⟨z, l, x, n⟩ := by
  have := hx.2.1
  exact ⟨⟨by simp, by simp only; omega⟩, ⟨by simp, by simp only; omega⟩, ⟨by simp, by simp only; omega⟩, hn⟩
theorem ina_ride {a : Aut} {z l x : Nat} {n : List B8} : ina a ⟨z, l, x, n⟩ ↔ a.none = false ∧ a.zones / 2 ^ z % 2 = 1 ∧ a.lines / 2 ^ l % 2 = 1 ∧ mins a x ∧ (a.holder = [] ∨ a.holder = n) := by
  unfold ina hbit
  simp only [Int.toNat_natCast]
/-- A valid summary that is not the empty one has a ride. -/
theorem ride_ex {a : Aut} (ha : aok a) (hn : a.none = false) : ∃ z l x : Nat, z < 64 ∧ l < 32 ∧ a.zones / 2 ^ z % 2 = 1 ∧ a.lines / 2 ^ l % 2 = 1 ∧ mins a x := by
  rcases ha with rfl | ⟨h1, h2, h3, h4, h5, h6, h7⟩
  · simp at hn
  · obtain ⟨z, hz, ez⟩ := bit_ex 64 h1 h2
    obtain ⟨l, hl, el⟩ := bit_ex 32 h3 h4
    obtain ⟨_, _, _, x, hx, _⟩ := h7.ord
    exact ⟨z, l, x, hz, hl, ez, el, hx⟩
theorem some_aok {a : Aut} (ha : aok a) (hn : a.none = false) : a.zones ≠ 0 ∧ a.zones < 18446744073709551616 ∧ a.lines ≠ 0 ∧ a.lines < 4294967296 ∧ a.hi ≤ 67108864 ∧ nok a.holder ∧ Canon a.zones a.lines (mins a) a.holder a := by
  rcases ha with rfl | h
  · simp at hn
  · exact h
theorem none_aok {a : Aut} (ha : aok a) (hn : a.none = true) : a = .never := by
  rcases ha with rfl | h
  · rfl
  · rw [h.2.2.2.2.2.2.none] at hn; cases hn
theorem sub_holder {a b : Aut} (ha : aok a) (hna : a.none = false) (h : ∀ c, cok c → ina a c → ina b c) (e : a.holder = []) : b.holder = [] := by
  obtain ⟨z, l, x, hz, hl, ez, el, hx⟩ := ride_ex ha hna
  have hi := (some_aok ha hna).2.2.2.2.1
  have k1 := (ina_ride.1 (h _ (ride_ok hi hz hl hx (n := [97#8]) (by decide)) (ina_ride.2 ⟨hna, ez, el, hx, .inl e⟩))).2.2.2.2
  have k2 := (ina_ride.1 (h _ (ride_ok hi hz hl hx (n := [98#8]) (by decide)) (ina_ride.2 ⟨hna, ez, el, hx, .inl e⟩))).2.2.2.2
  rcases k1 with k1 | k1
  · exact k1
  · rcases k2 with k2 | k2
    · exact k2
    · rw [k1] at k2; simp at k2
/-- Two valid authorities with the same rides are equal. -/
theorem aok_unique {a b : Aut} (ha : aok a) (hb : aok b) (h : ∀ c, cok c → (ina a c ↔ ina b c)) : a = b := by
  have key : ∀ {a b : Aut}, aok a → aok b → a.none = false → (∀ c, cok c → (ina a c ↔ ina b c)) → b.none = false ∧ (∀ w, w < 64 → a.zones / 2 ^ w % 2 = 1 → b.zones / 2 ^ w % 2 = 1) ∧ (∀ w, w < 32 → a.lines / 2 ^ w % 2 = 1 → b.lines / 2 ^ w % 2 = 1) ∧ (∀ x, mins a x → mins b x) ∧ (a.holder = [] → b.holder = []) ∧ (b.holder = [] ∨ b.holder = pick a.holder) := by
    intro a b ha hb hna h
    obtain ⟨z, l, x, hz, hl, ez, el, hx⟩ := ride_ex ha hna
    obtain ⟨_, _, _, _, hi, hn, _⟩ := some_aok ha hna
    obtain ⟨p1, p2⟩ := pick_ok hn
    have get : ∀ z l x : Nat, z < 64 → l < 32 → a.zones / 2 ^ z % 2 = 1 → a.lines / 2 ^ l % 2 = 1 → mins a x → ina b ⟨z, l, x, pick a.holder⟩ := fun z l x hz hl ez el hx => (h _ (ride_ok hi hz hl hx p1)).1 (ina_ride.2 ⟨hna, ez, el, hx, p2⟩)
    refine ⟨(get z l x hz hl ez el hx).1, fun w hw e => (ina_ride.1 (get w l x hw hl e el hx)).2.1, fun w hw e => (ina_ride.1 (get z w x hz hw ez e hx)).2.2.1, fun y hy => (ina_ride.1 (get z l y hz hl ez el hy)).2.2.2.1, sub_holder ha hna fun c hc k => (h c hc).1 k, (ina_ride.1 (get z l x hz hl ez el hx)).2.2.2.2⟩
  rcases (by cases a.none <;> simp : a.none = false ∨ a.none = true) with hna | hna
  · obtain ⟨hnb, kz, kl, km, kh, ko⟩ := key ha hb hna h
    obtain ⟨_, jz, jl, jm, jh, jo⟩ := key hb ha hnb fun c hc => (h c hc).symm
    obtain ⟨a1, a2, a3, a4, a5, a6, a7⟩ := some_aok ha hna
    obtain ⟨b1, b2, b3, b4, b5, b6, b7⟩ := some_aok hb hnb
    have e1 : a.zones = b.zones := mask_ext 64 a2 b2 fun w hw => ⟨kz w hw, jz w hw⟩
    have e2 : a.lines = b.lines := mask_ext 32 a4 b4 fun w hw => ⟨kl w hw, jl w hw⟩
    have e3 : a.holder = b.holder := by
      by_cases q : a.holder = []
      · rw [q, kh q]
      · rcases ko with k | k
        · exact absurd (jh k) q
        · rw [k]; unfold pick; rw [if_neg q]
    refine canon_unique a7 ?_
    rw [e1, e2, e3]
    exact canon_congr b7 fun x => ⟨jm x, km x⟩
  · rcases (by cases b.none <;> simp : b.none = false ∨ b.none = true) with hnb | hnb
    · have := (key hb ha hnb fun c hc => (h c hc).symm).1
      rw [hna] at this; cases this
    · rw [none_aok ha hna, none_aok hb hnb]

/-- The valid authority of the rides P. -/
def IsSet (P : Ctx → Prop) (a : Aut) : Prop := aok a ∧ ∀ c, cok c → (ina a c ↔ P c)
theorem IsSet.unique {P : Ctx → Prop} {a b : Aut} (ha : IsSet P a) (hb : IsSet P b) : a = b := aok_unique ha.1 hb.1 fun c hc => (ha.2 c hc).trans (hb.2 c hc).symm
theorem IsSet.congr {P Q : Ctx → Prop} {a : Aut} (ha : IsSet P a) (h : ∀ c, cok c → (P c ↔ Q c)) : IsSet Q a := ⟨ha.1, fun c hc => (ha.2 c hc).trans (h c hc)⟩
theorem IsSet.never {P : Ctx → Prop} (h : ∀ c, cok c → ¬ P c) : IsSet P .never := ⟨aok_never, fun c hc => ⟨fun k => absurd k (ina_never c), fun k => absurd k (h c hc)⟩⟩
theorem aok_set {a : Aut} (h : aok a) : IsSet (ina a) a := ⟨h, fun _ _ => Iff.rfl⟩
/-- The summary of a product is valid, and has the rides of the product. -/
theorem canon_set {Z Ln F L D : Nat} {M : Nat → Prop} {h : List B8} {a : Aut} (ha : Canon Z Ln (inT F L D M) h a) (hz : Z ≠ 0) (hz2 : Z < 18446744073709551616) (hl : Ln ≠ 0) (hl2 : Ln < 4294967296) (hL : L ≤ 67108864) (hh : nok h) :
    IsSet (fun c => hbit Z c.zone ∧ hbit Ln c.line ∧ inT F L D M c.minute.toNat ∧ (h = [] ∨ h = c.holder)) a := by
  have hm := canon_mins ha
  have e1 := ha.zones
  have e2 := ha.lines
  have e3 := ha.holder
  refine ⟨.inr ⟨by rw [e1]; exact hz, by rw [e1]; exact hz2, by rw [e2]; exact hl, by rw [e2]; exact hl2, ?_, by rw [e3]; exact hh, ?_⟩, fun c _ => ?_⟩
  · obtain ⟨y, hy, ey, _⟩ := ha.hi
    have := hy.2.1
    omega
  · rw [e1, e2, e3]
    exact canon_congr ha fun x => (hm x).symm
  · unfold ina
    rw [e1, e2, e3, hm, ha.none]
    simp
/-- What the closure of a product is: the empty one if there is no minute. -/
theorem clo_set {Z Ln F L D : Nat} {M : Nat → Prop} {h : List B8} {a : Aut} (ha : ((∀ y, ¬ inT F L D M y) ∧ a = .never) ∨ Canon Z Ln (inT F L D M) h a) (hz : Z ≠ 0) (hz2 : Z < 18446744073709551616) (hl : Ln ≠ 0) (hl2 : Ln < 4294967296) (hL : L ≤ 67108864) (hh : nok h) :
    IsSet (fun c => hbit Z c.zone ∧ hbit Ln c.line ∧ inT F L D M c.minute.toNat ∧ (h = [] ∨ h = c.holder)) a := by
  rcases ha with ⟨h0, rfl⟩ | ha
  · exact IsSet.never fun c _ k => h0 _ k.2.2.1
  · exact canon_set ha hz hz2 hl hl2 hL hh

/-- The fields are in their ranges. -/
def rng (a : Aut) : Prop := a.zones ≠ 0 ∧ a.lines ≠ 0 ∧ a.lines < 4294967296 ∧ a.days ≠ 0 ∧ a.days < 128 ∧ 0 ≤ a.lo ∧ a.lo ≤ a.hi ∧ a.hi ≤ 67108864 ∧ nok a.holder ∧ sepA 0 a.daily ∧ ∀ s ∈ a.daily, s.2 < 1440
noncomputable instance (a : Aut) : Decidable (rng a) := Classical.propDecidable _
theorem aok_rng {a : Aut} (h : aok a) (hn : a.none = false) : rng a := by
  obtain ⟨h1, h2, h3, h4, h5, h6, h7⟩ := some_aok h hn
  obtain ⟨o1, o2, o3, _⟩ := h7.ord
  exact ⟨h1, h3, h4, o3, h7.days, o1, o2, h5, h6, h7.sep, h7.less⟩
theorem sepA_len : ∀ {l : List (Int × Int)} {lo : Int}, sepA lo l → lo ≤ 1441 → (∀ s ∈ l, s.2 < 1440) → 2 * (l.length : Int) ≤ 1441 - lo
  | [], lo, _, h, _ => by simp; omega
  | s :: t, lo, h, _, hs => by
    have h1 := h.1
    have h2 := h.2.1
    have h3 := hs s (by simp)
    have := sepA_len h.2.2 (by omega) fun x hx => hs x (List.mem_cons_of_mem _ hx)
    rw [List.length_cons]
    omega
theorem rng_len {a : Aut} (h : rng a) : a.daily.length ≤ 720 := by
  have := sepA_len h.2.2.2.2.2.2.2.2.2.1 (by omega) h.2.2.2.2.2.2.2.2.2.2
  omega
theorem rng_mins {a : Aut} (h : rng a) (x : Nat) : mins a x ↔ inT a.lo.toNat a.hi.toNat a.days (fun k => spm a.daily (k : Int)) x := by
  have h1 := h.2.2.2.2.2.1
  have h2 := h.2.2.2.2.2.2.1
  rw [mins_inT h1]
  constructor
  · exact fun k => k.1
  · intro k
    have := k.2.1
    exact ⟨k, by omega⟩
/-- Valid is: in range, and its own closure. -/
theorem aok_clo {a c : Aut} (hn : a.none = false) (hz : a.zones < 18446744073709551616) (hr : rng a) (hc : ((∀ y, ¬ inT a.lo.toNat a.hi.toNat a.days (fun k => spm a.daily (k : Int)) y) ∧ c = .never) ∨ Canon a.zones a.lines (inT a.lo.toNat a.hi.toNat a.days (fun k => spm a.daily (k : Int))) a.holder c) : a = c ↔ aok a := by
  constructor
  · rintro rfl
    rcases hc with ⟨_, rfl⟩ | hc
    · exact aok_never
    · obtain ⟨r1, r2, r3, r4, r5, r6, r7, r8, r9, r10, r11⟩ := hr
      exact .inr ⟨r1, hz, r2, r3, r8, r9, canon_congr hc fun x => (rng_mins ⟨r1, r2, r3, r4, r5, r6, r7, r8, r9, r10, r11⟩ x).symm⟩
  · intro h
    obtain ⟨h1, h2, h3, h4, h5, h6, h7⟩ := some_aok h hn
    rcases hc with ⟨h0, rfl⟩ | hc
    · obtain ⟨_, _, _, x, hx, _⟩ := h7.ord
      exact absurd ((rng_mins hr x).1 hx) (h0 x)
    · exact canon_unique (canon_congr h7 (rng_mins hr)) hc
theorem aok_bd {a : Aut} (h : aok a) : a.daily.length ≤ 720 ∧ (∀ s ∈ a.daily, 0 ≤ s.1 ∧ s.1 ≤ s.2 ∧ s.2 < 1440) := by
  rcases (by cases a.none <;> simp : a.none = false ∨ a.none = true) with hn | hn
  · have hr := aok_rng h hn
    refine ⟨rng_len hr, fun s hs => ?_⟩
    have := sepA_mem hr.2.2.2.2.2.2.2.2.2.1 s hs
    exact ⟨this.1, this.2, hr.2.2.2.2.2.2.2.2.2.2 s hs⟩
  · rw [none_aok h hn]
    exact ⟨by simp, fun s hs => by simp at hs⟩
/-- Meet. -/
def both (a b : Aut) (c : Ctx) : Prop := aok a ∧ aok b ∧ ina a c ∧ ina b c
/-- Of: all predicates hold. -/
def holdsAll (l : List Prd) (c : Ctx) : Prop := ∀ p ∈ l, asks p c
theorem hd_asks {p : Prd} {c : Ctx} (hp : pok p) (hc : cok c) : hd p c ↔ asks p c := ⟨fun h => h.2.2, fun h => ⟨hp, hc, h⟩⟩
end Sh
end Go.Proofs.YtgbcncfhmnhljaaDoor
namespace Go.Proofs.YtgbcncfhmnhljaaDoor
open Go Go.RowKit Sh Leaf
namespace Sh

/-- Bit i of a mask. -/
abbrev bt (m i : Nat) : Prop := m / 2 ^ i % 2 = 1
theorem bt_test (m i : Nat) : bt m i ↔ m.testBit i = true := by
  rw [Nat.testBit_eq_decide_div_mod_eq]; exact decide_eq_true_iff.symm
/-- i is the lowest bit of m. -/
def IsLow (m i : Nat) : Prop := bt m i ∧ ∀ j, j < i → ¬ bt m j
theorem IsLow.unique {m i j : Nat} (h : IsLow m i) (k : IsLow m j) : i = j := by
  rcases Nat.lt_trichotomy i j with q | q | q
  · exact absurd h.1 (k.2 i q)
  · exact q
  · exact absurd k.1 (h.2 j q)
theorem bt_lt {m n i : Nat} (hm : m < 2 ^ n) (h : bt m i) : i < n := by
  rcases Nat.lt_or_ge i n with q | q
  · exact q
  · have : 2 ^ n ≤ 2 ^ i := Nat.pow_le_pow_right (by omega) q
    have e : m / 2 ^ i = 0 := Nat.div_eq_of_lt (by omega)
    unfold bt at h
    rw [e] at h
    omega
theorem IsLow.ex {m : Nat} (hm : m ≠ 0) : ∃ i, IsLow m i := by
  obtain ⟨w, _, hw⟩ := bit_ex (m := m) m hm Nat.lt_two_pow_self
  have key : ∀ n, (∃ i, i ≤ n ∧ IsLow m i) ∨ ∀ j, j ≤ n → ¬ bt m j := by
    intro n
    induction n with
    | zero =>
      by_cases h : bt m 0
      · exact .inl ⟨0, Nat.le_refl _, h, fun j hj => by omega⟩
      · exact .inr fun j hj => by rw [Nat.le_zero.1 hj]; exact h
    | succ n ih =>
      rcases ih with ⟨i, hi, h⟩ | h
      · exact .inl ⟨i, by omega, h⟩
      · by_cases q : bt m (n + 1)
        · exact .inl ⟨n + 1, Nat.le_refl _, q, fun j hj => h j (by omega)⟩
        · refine .inr fun j hj => ?_
          rcases Nat.lt_or_ge j (n + 1) with k | k
          · exact h j (by omega)
          · rw [show j = n + 1 by omega]; exact q
  rcases key w with ⟨i, _, h⟩ | h
  · exact ⟨i, h⟩
  · exact absurd hw (h w (Nat.le_refl _))
theorem IsLow.ne {m i : Nat} (h : IsLow m i) : m ≠ 0 := fun e => by have := h.1; subst e; unfold bt at this; simp at this
/-- The bits of one mask that are not of another one. -/
theorem bt_less {a b i : Nat} (hb : b < 18446744073709551616) (hi : i < 64) : bt (a &&& (18446744073709551615 - b)) i ↔ bt a i ∧ ¬ bt b i := by
  have e := Nat.testBit_two_pow_sub_succ (n := 64) (x := b) hb i
  rw [show (2 ^ 64 - (b + 1) : Nat) = 18446744073709551615 - b by omega] at e
  rw [bt_test, bt_test, bt_test, Nat.testBit_and, e]
  simp [hi]
theorem bt_less' {a b i : Nat} (ha : a < 18446744073709551616) (hb : b < 18446744073709551616) : bt (a &&& (18446744073709551615 - b)) i ↔ bt a i ∧ ¬ bt b i := by
  by_cases hi : i < 64
  · exact bt_less hb hi
  · refine iff_of_false (fun h => hi (bt_lt (n := 64) (Nat.lt_of_le_of_lt Nat.and_le_left ha) h)) (fun h => hi (bt_lt (n := 64) ha h.1))
theorem less_zero {a b : Nat} (ha : a < 18446744073709551616) (hb : b < 18446744073709551616) : a &&& (18446744073709551615 - b) = 0 ↔ ∀ i, bt a i → bt b i := by
  constructor
  · intro h i hi
    apply Classical.byContradiction
    intro hn
    have := (bt_less' ha hb).2 ⟨hi, hn⟩
    rw [h] at this
    unfold bt at this
    simp at this
  · intro h
    apply Classical.byContradiction
    intro hn
    obtain ⟨i, hi⟩ := IsLow.ex hn
    have := (bt_less' ha hb).1 hi.1
    exact this.2 (h i this.1)

/-! ### The order -/
/-- Names, by their length first (of one length only what is needed here: equal, or single letters). -/
def nle (s t : List B8) : Prop := s.length < t.length ∨ s = t ∨ ∃ x y, s = [x] ∧ t = [y] ∧ x.toNat < y.toNat
def cle (c d : Ctx) : Prop := c.zone < d.zone ∨ (c.zone = d.zone ∧ (c.line < d.line ∨ (c.line = d.line ∧ (c.minute < d.minute ∨ (c.minute = d.minute ∧ nle c.holder d.holder)))))
theorem nle_anti {s t : List B8} (h : nle s t) (k : nle t s) : s = t := by
  rcases h with h | h | ⟨x, y, rfl, rfl, h⟩
  · rcases k with k | k | ⟨x, y, rfl, rfl, k⟩
    · omega
    · exact k.symm
    · simp at h
  · exact h
  · rcases k with k | k | ⟨u, v, hu, hv, k⟩
    · simp at k
    · exact k.symm
    · simp at hu hv
      subst hu hv
      omega
theorem cle_anti {c d : Ctx} (h : cle c d) (k : cle d c) : c = d := by
  obtain ⟨z, l, m, n⟩ := c
  obtain ⟨z', l', m', n'⟩ := d
  unfold cle at h k
  simp only at h k
  have h1 : z = z' := by omega
  have h2 : l = l' := by omega
  have h3 : m = m' := by omega
  have h4 : n = n' := nle_anti (by
    rcases h with h | ⟨_, h | ⟨_, h | ⟨_, h⟩⟩⟩
    · omega
    · omega
    · omega
    · exact h) (by
    rcases k with h | ⟨_, h | ⟨_, h | ⟨_, h⟩⟩⟩
    · omega
    · omega
    · omega
    · exact h)
  rw [h1, h2, h3, h4]
theorem nle_a {t : List B8} (ht : nmok t) : nle [97#8] t := by
  obtain ⟨h1, _, h3⟩ := ht
  match t, h1, h3 with
  | [x], _, h3 =>
    have := h3 x (by simp)
    by_cases e : x = 97#8
    · exact .inr (.inl (by rw [e]))
    · refine .inr (.inr ⟨_, _, rfl, rfl, ?_⟩)
      have : x.toNat ≠ 97 := fun q => e (BitVec.eq_of_toNat_eq (by rw [q]; rfl))
      show 97 < x.toNat
      omega
  | x :: y :: r, _, _ => exact .inl (by simp)
theorem nle_b {t : List B8} (ht : nmok t) (hn : t ≠ [97#8]) : nle [98#8] t := by
  obtain ⟨h1, _, h3⟩ := ht
  match t, h1, h3, hn with
  | [x], _, h3, hn =>
    have := h3 x (by simp)
    have h97 : x.toNat ≠ 97 := fun q => hn (by rw [show x = 97#8 from BitVec.eq_of_toNat_eq (by rw [q]; rfl)])
    by_cases e : x = 98#8
    · exact .inr (.inl (by rw [e]))
    · refine .inr (.inr ⟨_, _, rfl, rfl, ?_⟩)
      have : x.toNat ≠ 98 := fun q => e (BitVec.eq_of_toNat_eq (by rw [q]; rfl))
      show 98 < x.toNat
      omega
  | x :: y :: r, _, _, _ => exact .inl (by simp)

/-! ### Least -/
/-- The ride with zero in all fields. -/
abbrev zeroC : Ctx := ⟨0, 0, 0, []⟩
def LeastR (a : Aut) (c : Ctx) (ok : Bool) : Prop :=
  ((¬ aok a ∨ a.none = true) ∧ c = zeroC ∧ ok = false) ∨ (aok a ∧ a.none = false ∧ ok = true ∧ ∃ z l : Nat, IsLow a.zones z ∧ IsLow a.lines l ∧ c = ⟨z, l, a.lo, pick a.holder⟩)
theorem LeastR.unique {a : Aut} {c d : Ctx} {p q : Bool} (h : LeastR a c p) (k : LeastR a d q) : c = d ∧ p = q := by
  rcases h with ⟨h0, rfl, rfl⟩ | ⟨h0, h1, rfl, z, l, hz, hl, rfl⟩
  · rcases k with ⟨_, rfl, rfl⟩ | ⟨k0, k1, _⟩
    · exact ⟨rfl, rfl⟩
    · rcases h0 with h0 | h0
      · exact absurd k0 h0
      · rw [k1] at h0; cases h0
  · rcases k with ⟨k0, _⟩ | ⟨_, _, rfl, z', l', hz', hl', rfl⟩
    · rcases k0 with k0 | k0
      · exact absurd h0 k0
      · rw [h1] at k0; cases k0
    · rw [hz.unique hz', hl.unique hl']; exact ⟨rfl, rfl⟩
/-- What is known of an authority that is valid and not empty. -/
theorem LeastR.facts {a : Aut} (ha : aok a) (hn : a.none = false) {z l : Nat} (hz : IsLow a.zones z) (hl : IsLow a.lines l) :
    cok ⟨z, l, a.lo, pick a.holder⟩ ∧ ina a ⟨z, l, a.lo, pick a.holder⟩ ∧ ∀ d, cok d → ina a d → (z : Int) ≤ d.zone ∧ (l : Int) ≤ d.line ∧ a.lo ≤ d.minute := by
  obtain ⟨h1, h2, h3, h4, h5, h6, h7⟩ := some_aok ha hn
  obtain ⟨o1, o2, _, x, hx, ex⟩ := h7.ord
  obtain ⟨p1, p2⟩ := pick_ok h6
  have hz64 := bt_lt (n := 64) h2 hz.1
  have hl32 := bt_lt (n := 32) h4 hl.1
  rw [ex]
  refine ⟨ride_ok h5 hz64 hl32 hx p1, ina_ride.2 ⟨hn, hz.1, hl.1, hx, p2⟩, fun d hd hi => ?_⟩
  obtain ⟨⟨z0, z1⟩, ⟨l0, l1⟩, ⟨m0, m1⟩, _⟩ := hd
  obtain ⟨_, i1, i2, i3, _⟩ := hi
  refine ⟨?_, ?_, ?_⟩
  · rcases Nat.lt_or_ge d.zone.toNat z with q | q
    · exact absurd i1 (hz.2 _ q)
    · omega
  · rcases Nat.lt_or_ge d.line.toNat l with q | q
    · exact absurd i2 (hl.2 _ q)
    · omega
  · have := i3.1; omega
theorem LeastR.true {a : Aut} {c : Ctx} (h : LeastR a c true) : aok a ∧ cok c ∧ ina a c ∧ ∀ d, cok d → ina a d → c.zone ≤ d.zone := by
  rcases h with ⟨_, _, h⟩ | ⟨h0, h1, _, z, l, hz, hl, rfl⟩
  · cases h
  · obtain ⟨f1, f2, f3⟩ := LeastR.facts h0 h1 hz hl
    exact ⟨h0, f1, f2, fun d hd hi => (f3 d hd hi).1⟩
theorem LeastR.false {a : Aut} {c : Ctx} (h : LeastR a c false) (ha : aok a) (d : Ctx) : ¬ ina a d := by
  rcases h with ⟨h | h, _⟩ | ⟨_, _, h, _⟩
  · exact absurd ha h
  · exact fun k => by have := k.1; rw [h] at this; cases this
  · cases h

/-! ### Witness -/
/-- m is the first minute of a that is not one of b. -/
def FirstMin (a b : Aut) (m : Nat) : Prop := mins a m ∧ ¬ mins b m ∧ ∀ x, x < m → mins a x → mins b x
def NoMin (a b : Aut) : Prop := ∀ x, mins a x → mins b x
/-- The first ride of a that is not one of b. -/
def WitR (a b : Aut) (c : Ctx) (ok : Bool) : Prop :=
  ((¬ aok a ∨ ¬ aok b ∨ a.none = true) ∧ c = zeroC ∧ ok = false) ∨
  (aok a ∧ aok b ∧ a.none = false ∧ ∃ z l : Nat, IsLow a.zones z ∧ IsLow a.lines l ∧
    ((¬ ina b ⟨z, l, a.lo, pick a.holder⟩ ∧ c = ⟨z, l, a.lo, pick a.holder⟩ ∧ ok = true) ∨
     (ina b ⟨z, l, a.lo, pick a.holder⟩ ∧
       ((a.holder = [] ∧ b.holder ≠ [] ∧ c = ⟨z, l, a.lo, [98#8]⟩ ∧ ok = true) ∨
        (¬ (a.holder = [] ∧ b.holder ≠ []) ∧
          ((∃ m, FirstMin a b m ∧ c = ⟨z, l, m, pick a.holder⟩ ∧ ok = true) ∨
           (NoMin a b ∧
             ((∃ i, IsLow (a.lines &&& (18446744073709551615 - b.lines)) i ∧ c = ⟨z, i, a.lo, pick a.holder⟩ ∧ ok = true) ∨
              (a.lines &&& (18446744073709551615 - b.lines) = 0 ∧
                ((∃ i, IsLow (a.zones &&& (18446744073709551615 - b.zones)) i ∧ c = ⟨i, l, a.lo, pick a.holder⟩ ∧ ok = true) ∨
                 (a.zones &&& (18446744073709551615 - b.zones) = 0 ∧ c = zeroC ∧ ok = false)))))))))))
/-- Every ride of a is one of b. -/
def sub (a b : Aut) : Prop := ∀ d, cok d → ina a d → ina b d
def FirstC (a b : Aut) (c : Ctx) : Prop := cok c ∧ ina a c ∧ ¬ ina b c ∧ ∀ d, cok d → ina a d → ¬ ina b d → cle c d
theorem wit_main {a b : Aut} {c : Ctx} {ok : Bool} (h : WitR a b c ok) (ha : aok a) (hb : aok b) : (ok = true ∧ FirstC a b c) ∨ (ok = false ∧ c = zeroC ∧ sub a b) := by
  rcases h with ⟨h0, rfl, rfl⟩ | ⟨_, _, hn, z, l, hz, hl, h⟩
  · refine .inr ⟨rfl, rfl, fun d _ hi => ?_⟩
    rcases h0 with h0 | h0 | h0
    · exact absurd ha h0
    · exact absurd hb h0
    · have := hi.1; rw [h0] at this; cases this
  · obtain ⟨f1, f2, f3⟩ := LeastR.facts ha hn hz hl
    obtain ⟨a1, a2, a3, a4, a5, a6, a7⟩ := some_aok ha hn
    obtain ⟨o1, o2, _, x0, hx0, ex0⟩ := a7.ord
    obtain ⟨p1, p2⟩ := pick_ok a6
    have hz64 := bt_lt (n := 64) a2 hz.1
    have hl32 := bt_lt (n := 32) a4 hl.1
    have nleh : ∀ d, cok d → ina a d → nle (pick a.holder) d.holder := fun d hd hi => by
      rcases hi.2.2.2.2 with e | e
      · unfold pick; rw [if_pos e]; exact nle_a hd.2.2.2
      · have : a.holder ≠ [] := fun q => by have := hd.2.2.2.1; rw [← e, q] at this; simp at this
        unfold pick; rw [if_neg this, e]; exact .inr (.inl rfl)
    have low : ∀ d, cok d → ina a d → cle ⟨z, l, a.lo, pick a.holder⟩ d := fun d hd hi => by
      obtain ⟨g1, g2, g3⟩ := f3 d hd hi
      have := nleh d hd hi
      unfold cle
      simp only
      rcases Int.lt_or_eq_of_le g1 with g | g
      · exact .inl g
      · refine .inr ⟨g, ?_⟩
        rcases Int.lt_or_eq_of_le g2 with g | g
        · exact .inl g
        · refine .inr ⟨g, ?_⟩
          rcases Int.lt_or_eq_of_le g3 with g | g
          · exact .inl g
          · exact .inr ⟨g, this⟩
    rcases h with ⟨h, rfl, rfl⟩ | ⟨hib, h⟩
    · exact .inl ⟨rfl, f1, f2, h, fun d hd hi _ => low d hd hi⟩
    · obtain ⟨b0, b1, b2, b3, b4⟩ := hib
      have b1' : bt b.zones z := by simpa [hbit] using b1
      have b2' : bt b.lines l := by simpa [hbit] using b2
      have b3' : mins b x0 := by simpa [ex0] using b3
      rcases h with ⟨ha0, hb0, rfl, rfl⟩ | ⟨hnh, h⟩
      · have hbh : b.holder = [97#8] := by
          rcases b4 with e | e
          · exact absurd e hb0
          · simpa [pick, ha0] using e
        rw [ex0]
        refine .inl ⟨rfl, ride_ok a5 hz64 hl32 hx0 (by decide), ina_ride.2 ⟨hn, hz.1, hl.1, hx0, .inl ha0⟩, fun k => ?_, fun d hd hi hnb => ?_⟩
        · rcases k.2.2.2.2 with e | e
          · exact hb0 e
          · rw [hbh] at e; simp at e
        · obtain ⟨g1, g2, g3⟩ := f3 d hd hi
          unfold cle
          simp only
          rcases Int.lt_or_eq_of_le g1 with g | g
          · exact .inl g
          · refine .inr ⟨g, ?_⟩
            rcases Int.lt_or_eq_of_le g2 with g' | g'
            · exact .inl g'
            · refine .inr ⟨g', ?_⟩
              rcases Int.lt_or_eq_of_le g3 with g'' | g''
              · left; omega
              · refine .inr ⟨by omega, nle_b hd.2.2.2 fun e => hnb ⟨b0, ?_, ?_, ?_, .inr (by rw [hbh, e])⟩⟩
                · unfold hbit; rw [← g]; simpa using b1'
                · unfold hbit; rw [← g']; simpa using b2'
                · rw [← g'', ex0]; simpa using b3'
      · have hsubh : ∀ d, cok d → ina a d → b.holder = [] ∨ b.holder = d.holder := fun d hd hi => by
          by_cases e : a.holder = []
          · exact .inl (Classical.byContradiction fun k => hnh ⟨e, k⟩)
          · rcases b4 with q | q
            · exact .inl q
            · rcases hi.2.2.2.2 with k | k
              · exact absurd k e
              · right
                rw [← k, q]
                simp only [pick, if_neg e]
        rcases h with ⟨m, ⟨m1, m2, m3⟩, rfl, rfl⟩ | ⟨hnm, h⟩
        · refine .inl ⟨rfl, ride_ok a5 hz64 hl32 m1 p1, ina_ride.2 ⟨hn, hz.1, hl.1, m1, p2⟩, fun k => m2 (ina_ride.1 k).2.2.2.1, fun d hd hi hnb => ?_⟩
          obtain ⟨g1, g2, g3⟩ := f3 d hd hi
          have hm0 := hd.2.2.1.1
          unfold cle
          simp only
          rcases Int.lt_or_eq_of_le g1 with g | g
          · exact .inl g
          · refine .inr ⟨g, ?_⟩
            rcases Int.lt_or_eq_of_le g2 with g' | g'
            · exact .inl g'
            · refine .inr ⟨g', ?_⟩
              have hbz : hbit b.zones d.zone := by unfold hbit; rw [← g]; simpa using b1'
              have hbl : hbit b.lines d.line := by unfold hbit; rw [← g']; simpa using b2'
              rcases Nat.lt_trichotomy d.minute.toNat m with q | q | q
              · exact absurd ⟨b0, hbz, hbl, m3 _ q hi.2.2.2.1, hsubh d hd hi⟩ hnb
              · exact .inr ⟨by omega, nleh d hd hi⟩
              · left; omega
        · rcases h with ⟨i, hi0, rfl, rfl⟩ | ⟨hl0, h⟩
          · by_cases hblt : b.lines < 18446744073709551616
            · have hil := (bt_less' (by omega) hblt).1 hi0.1
              rw [ex0]
              refine .inl ⟨rfl, ride_ok a5 hz64 (bt_lt (n := 32) a4 hil.1) hx0 p1, ina_ride.2 ⟨hn, hz.1, hil.1, hx0, p2⟩, fun k => hil.2 (ina_ride.1 k).2.2.1, fun d hd hi hnb => ?_⟩
              obtain ⟨g1, g2, g3⟩ := f3 d hd hi
              have hl0 := hd.2.1.1
              unfold cle
              simp only
              rcases Int.lt_or_eq_of_le g1 with g | g
              · exact .inl g
              · refine .inr ⟨g, ?_⟩
                have hbz : hbit b.zones d.zone := by unfold hbit; rw [← g]; simpa using b1'
                rcases Nat.lt_trichotomy d.line.toNat i with q | q | q
                · have hbl : hbit b.lines d.line := Classical.byContradiction fun k => hi0.2 _ q ((bt_less' (by omega) hblt).2 ⟨hi.2.2.1, k⟩)
                  exact absurd ⟨b0, hbz, hbl, hnm _ hi.2.2.2.1, hsubh d hd hi⟩ hnb
                · refine .inr ⟨by omega, ?_⟩
                  rcases Int.lt_or_eq_of_le g3 with g'' | g''
                  · left; omega
                  · exact .inr ⟨by omega, nleh d hd hi⟩
                · left; omega
            · exfalso
              obtain ⟨_, _, _, k4, _⟩ := some_aok hb b0
              omega
          · obtain ⟨_, k2, _, k4, _⟩ := some_aok hb b0
            have hlines := (less_zero (by omega) (by omega)).1 hl0
            rcases h with ⟨i, hi0, rfl, rfl⟩ | ⟨hz0, rfl, rfl⟩
            · have hil := (bt_less' a2 k2).1 hi0.1
              rw [ex0]
              refine .inl ⟨rfl, ride_ok a5 (bt_lt (n := 64) a2 hil.1) hl32 hx0 p1, ina_ride.2 ⟨hn, hil.1, hl.1, hx0, p2⟩, fun k => hil.2 (ina_ride.1 k).2.1, fun d hd hi hnb => ?_⟩
              obtain ⟨g1, g2, g3⟩ := f3 d hd hi
              have hl0 := hd.1.1
              unfold cle
              simp only
              rcases Nat.lt_trichotomy d.zone.toNat i with q | q | q
              · have hbz : hbit b.zones d.zone := Classical.byContradiction fun k => hi0.2 _ q ((bt_less' a2 k2).2 ⟨hi.2.1, k⟩)
                exact absurd ⟨b0, hbz, hlines _ hi.2.2.1, hnm _ hi.2.2.2.1, hsubh d hd hi⟩ hnb
              · refine .inr ⟨by omega, ?_⟩
                rcases Int.lt_or_eq_of_le g2 with g' | g'
                · exact .inl g'
                · refine .inr ⟨g', ?_⟩
                  rcases Int.lt_or_eq_of_le g3 with g'' | g''
                  · left; omega
                  · exact .inr ⟨by omega, nleh d hd hi⟩
              · left; omega
            · have hzones := (less_zero a2 k2).1 hz0
              exact .inr ⟨rfl, rfl, fun d hd hi => ⟨b0, hzones _ hi.2.1, hlines _ hi.2.2.1, hnm _ hi.2.2.2.1, hsubh d hd hi⟩⟩
theorem FirstC.unique {a b : Aut} {c d : Ctx} (h : FirstC a b c) (k : FirstC a b d) : c = d := cle_anti (h.2.2.2 d k.1 k.2.1 k.2.2.1) (k.2.2.2 c h.1 h.2.1 h.2.2.1)
theorem WitR.not {a b : Aut} {c : Ctx} {ok : Bool} (h : WitR a b c ok) (hn : ¬ (aok a ∧ aok b)) : c = zeroC ∧ ok = false := by
  rcases h with ⟨_, h1, h2⟩ | ⟨h1, h2, _⟩
  · exact ⟨h1, h2⟩
  · exact absurd ⟨h1, h2⟩ hn
theorem WitR.unique {a b : Aut} {c d : Ctx} {p q : Bool} (h : WitR a b c p) (k : WitR a b d q) : c = d ∧ p = q := by
  by_cases hab : aok a ∧ aok b
  · rcases wit_main h hab.1 hab.2 with ⟨rfl, h1⟩ | ⟨rfl, h0, h1⟩ <;> rcases wit_main k hab.1 hab.2 with ⟨rfl, k1⟩ | ⟨rfl, k0, k1⟩
    · exact ⟨h1.unique k1, rfl⟩
    · exact absurd (k1 c h1.1 h1.2.1) h1.2.2.1
    · exact absurd (h1 d k1.1 k1.2.1) k1.2.2.1
    · exact ⟨h0.trans k0.symm, rfl⟩
  · obtain ⟨h1, h2⟩ := h.not hab
    obtain ⟨k1, k2⟩ := k.not hab
    exact ⟨h1.trans k1.symm, h2.trans k2.symm⟩
/-- Within. -/
def wi (a b : Aut) : Prop := aok a ∧ aok b ∧ sub a b
noncomputable instance (a b : Aut) : Decidable (wi a b) := Classical.propDecidable _
theorem wit_within {a b : Aut} {c : Ctx} {ok : Bool} (h : WitR a b c ok) : wi a b ↔ aok a ∧ aok b ∧ ok = false := by
  constructor
  · rintro ⟨ha, hb, hs⟩
    rcases wit_main h ha hb with ⟨_, h1⟩ | ⟨h1, _⟩
    · exact absurd (hs c h1.1 h1.2.1) h1.2.2.1
    · exact ⟨ha, hb, h1⟩
  · rintro ⟨ha, hb, h0⟩
    rcases wit_main h ha hb with ⟨h1, _⟩ | ⟨_, _, hs⟩
    · rw [h0] at h1; cases h1
    · exact ⟨ha, hb, hs⟩
theorem wi_refl {a : Aut} (h : aok a) : wi a a := ⟨h, h, fun _ _ k => k⟩
theorem wi_trans {a b c : Aut} (h : wi a b) (k : wi b c) : wi a c := ⟨h.1, k.2.1, fun d hd hi => k.2.2 d hd (h.2.2 d hd hi)⟩
theorem wi_anti {a b : Aut} (h : wi a b) (k : wi b a) : a = b := aok_unique h.1 h.2.1 fun d hd => ⟨h.2.2 d hd, k.2.2 d hd⟩
theorem wi_meet {a b m : Aut} (ha : aok a) (hb : aok b) (hm : IsSet (both a b) m) : wi a b ↔ m = a := by
  constructor
  · intro h
    refine aok_unique hm.1 ha fun d hd => (hm.2 d hd).trans ⟨fun k => k.2.2.1, fun k => ⟨ha, hb, k, h.2.2 d hd k⟩⟩
  · rintro rfl
    exact ⟨ha, hb, fun d hd hi => ((hm.2 d hd).1 hi).2.2.2⟩
theorem meet_wi {a b m : Aut} (ha : aok a) (hb : aok b) (hm : IsSet (both a b) m) : wi m a ∧ wi m b :=
  ⟨⟨hm.1, ha, fun d hd hi => ((hm.2 d hd).1 hi).2.2.1⟩, ⟨hm.1, hb, fun d hd hi => ((hm.2 d hd).1 hi).2.2.2⟩⟩

/-! ### The first minute, day by day -/
/-- A minute of a that is not one of b. -/
def dif (a b : Aut) (x : Nat) : Prop := mins a x ∧ ¬ mins b x
/-- A week before there is the same difference, where neither a nor b begins or ends between. -/
theorem dif_week {a b : Aut} {x : Nat} (h : dif a b x) (h7 : 10080 ≤ x) (ha : a.lo ≤ (x : Int) - 10080) (hb2 : (x : Int) - 10080 ≤ b.hi → (x : Int) ≤ b.hi) : dif a b (x - 10080) := by
  obtain ⟨⟨a1, a2, a3, a4⟩, hnb⟩ := h
  have e1 : (x - 10080) / 1440 % 7 = x / 1440 % 7 := by omega
  have e2 : (x - 10080) % 1440 = x % 1440 := by omega
  refine ⟨⟨by omega, by omega, by rw [e1]; exact a3, by rw [e2]; exact a4⟩, fun k => hnb ?_⟩
  obtain ⟨b1, b2, b3, b4⟩ := k
  rw [e1] at b3
  rw [e2] at b4
  exact ⟨by omega, hb2 (by omega), b3, b4⟩
/-- Nothing differs before day d, and not on day d before its minute k. -/
def before (a b : Aut) (d k : Nat) : Prop := ∀ x, (x / 1440 < d ∨ (x / 1440 = d ∧ x % 1440 < k)) → ¬ dif a b x
theorem before.next {a b : Aut} {d : Nat} (h : before a b d 1440) : before a b (d + 1) 0 := fun x hx => h x (by omega)
theorem before.first {a b : Aut} {d k : Nat} (h : before a b d k) (hk : k < 1440) (hd : dif a b (d * 1440 + k)) : FirstMin a b (d * 1440 + k) :=
  ⟨hd.1, hd.2, fun x hx ha => Classical.byContradiction fun hb => h x (by omega) ⟨ha, hb⟩⟩
theorem before.start {a b : Aut} (d : Nat) (h : (d : Int) * 1440 ≤ a.lo) : before a b d 0 := fun x hx k => by
  have := k.1.1
  omega
theorem before.done {a b : Aut} {d : Nat} (h : before a b d 0) (hd : a.hi < (d : Int) * 1440) : NoMin a b := fun x ha => Classical.byContradiction fun hb => h x (by have := ha.2.1; omega) ⟨ha, hb⟩
end Sh
end Go.Proofs.YtgbcncfhmnhljaaDoor
namespace Go.Proofs.YtgbcncfhmnhljaaDoor
open Go Go.RowKit Sh Leaf

/-- Blocks of cells other than g stay, and the first cell of g stays. -/
structure Oth (g : Nat) (w w' : World) : Prop where
  oth : ∀ b t cs, b ≠ g → ∀ {fr : Nat × Nat}, w.heap[b]? = some (.cells cs t fr) → w'.heap[b]? = some (.cells cs t fr)
  zero : ∀ v, w.cell? ⟨g, 0, none⟩ = some v → w'.cell? ⟨g, 0, none⟩ = some v
instance {g : Nat} {w w' : World} : CoeFun (Oth g w w') (fun _ => ∀ b t cs, b ≠ g → ∀ {fr : Nat × Nat}, w.heap[b]? = some (.cells cs t fr) → w'.heap[b]? = some (.cells cs t fr)) := ⟨Oth.oth⟩
theorem lt_of_heap {w : World} {b : Nat} {o : Obj} (h : w.heap[b]? = some o) : b < w.heap.size := (Array.getElem?_eq_some_iff.1 h).1
theorem lt_of_cell {w : World} {b i : Nat} {v : Value} (h : w.cell? ⟨b, i, none⟩ = some v) : b < w.heap.size := World.block_lt_of_cell? w _ h
theorem Oth.trans {g : Nat} {a b c : World} (h : Oth g a b) (k : Oth g b c) : Oth g a c := ⟨fun x t cs hx _ hw => k.oth x t cs hx (h.oth x t cs hx hw), fun v hv => k.zero v (h.zero v hv)⟩
theorem Oth.refl (g : Nat) (w : World) : Oth g w w := ⟨fun _ _ _ _ _ h => h, fun _ h => h⟩
theorem Oth.drew {g : Nat} {w w' : World} (h : Oth g w w') : Oth g w w'.drew := ⟨fun x t cs hx _ hw => h.oth x t cs hx hw, fun v hv => h.zero v hv⟩
theorem Oth.below (g : Nat) {B : Nat} {w w' : World} (h : Below B w w') (hB : w.heap.size ≤ B := by exact Nat.le_refl _) : Oth g w w' :=
  ⟨fun b _ _ _ _ hw => (h.block b (by have := lt_of_heap hw; omega)).trans hw, fun _ hv => (h.cell (p := ⟨g, 0, none⟩) (by have := lt_of_cell hv; show g < B; omega)).trans hv⟩
theorem Oth.alloc (g : Nat) (w : World) (o : Obj) : Oth g w (w.alloc o) := Oth.below g ((Below.refl w.heap.size w).alloc (Nat.le_refl _) o)
theorem Oth.cell {g : Nat} {w w' : World} (h : Oth g w w') {a : Addr} {v : Value} (ha : a.block ≠ g) (hv : w.cell? a = some v) : w'.cell? a = some v := by
  unfold World.cell? at hv ⊢
  cases hb : w.heap[a.block]? with
  | none => rw [hb] at hv; cases hv
  | some o =>
    cases o with
    | cells c t fr =>
      rw [hb] at hv
      rw [h.oth a.block t c ha hb]
      exact hv
    | _ => rw [hb] at hv; cases hv
end Go.Proofs.YtgbcncfhmnhljaaDoor
namespace Go.Proofs.YtgbcncfhmnhljaaDoor
open Go Go.RowKit Sh Leaf

theorem run_field_one {P : Program} {t : TypeId} {fs : Array Field} (ht : P.underlying t = some (.struct fs)) (i : Nat) (f : Field) (hf : fs[i]? = some f) {d : TypeDesc} (hu : P.underlying f.type = some d) (hd : d.isRow = false) (cs : Array Value) (v : Value) (hv : cs[f.offset]? = some v) (W : World) :
    (Instr.field t (.agg cs) i).run P W = .ok v W := by
  have hagg : (isAgg f.type).run P W = .ok false W := by
    unfold isAgg
    rw [Sem.run_bind, run_underlying hu W]
    cases d <;> simp_all
  have ha : (asAgg (.agg cs)).run P W = .ok cs W := rfl
  simp [Instr.field, run_underlying ht, hf, Go.part, ha, hagg, hv]
end Go.Proofs.YtgbcncfhmnhljaaDoor
namespace Go.Proofs.YtgbcncfhmnhljaaDoor
namespace Sh

theorem near_skip {a b : Aut} {d : Nat} (h : before a b d 0) (h0 : 0 ≤ a.lo) (h1 : a.lo / 1440 + 9 < (d : Int)) (h2 : (d : Int) < b.hi / 1440 - 9 ∨ b.hi / 1440 + 9 < (d : Int)) : before a b (d + 1) 0 := by
  intro x hx hd
  have hxd : x / 1440 < d ∨ x / 1440 = d := by omega
  rcases hxd with k | k
  · exact h x (.inl k) hd
  · have hw := dif_week hd (by omega) (by omega) (by omega)
    exact h (x - 10080) (.inl (by omega)) hw
/-- A day on which no ride of a is. -/
theorem day_skip {a b : Aut} {d : Nat} (h : before a b d 0) (h0 : ¬ bt a.days (d % 7)) : before a b (d + 1) 0 := by
  intro x hx hd
  have hxd : x / 1440 < d ∨ x / 1440 = d := by omega
  rcases hxd with k | k
  · exact h x (.inl k) hd
  · have := hd.1.2.2.1
    rw [k] at this
    exact h0 this
end Sh
end Go.Proofs.YtgbcncfhmnhljaaDoor
