/-
  What the library gives to every text.
  Slices of bytes: a slice value that reads as a list of bytes; append to own rows; parts of slices.
  append of bytes, of zeros: as a run, as an operation, as a step of a drawn region.
  A row of bytes of the call's own; bytes as literals.
  bytes.Clone, varint.Append by their contracts.
  slices.Grow of the nil slice of bytes.
  Slices of slices of bytes: a slice value that reads as a list of lists; a row of slices of the call's own; append to it.
  Regions that lay and append slices of slices in any order: blocks that lie as they lay, append of a slice of slices.
  b[:min(len(b), m)]: the three ways of the test, and what is left.
-/
import Derived.Laws.AppendOwn
import Derived.Laws.AppendOwnNone
import Derived.OwnWalk
import Derived.WalkSpells
import Derived.Deep.DeepMust
import Derived.StillTailTactics
import Derived.Laws.CopyOwn
import Derived.Deep.RegionHeld3
import Derived.Test.YtodmfippjcfbbaaPk0
import Derived.Lib.AppendZeros
import Derived.Lib.AppendZerosOnto
namespace Go.Proofs.Ytodmfippjcfbbaa
open Go Go.RowKit Sh Leaf

theorem bv_toNat (x : B8) : bv x = (x.toNat : Int) := by unfold bv; rfl
theorem own_below {w w' : World} {base B n size : Nat} {e : TypeId} {v : Value} {xs : List Value} (h : w.ownsRow base e size v n xs) (hb : Below B w w') (hB : w.heap.size ≤ B) : w'.ownsRow base e size v n xs := by
  refine ⟨h.1, ?_⟩
  rcases h.2 with h2 | ⟨g, cap, cur, hv, hg, hh, r⟩
  · exact .inl h2
  · have hlt : g < w.heap.size := by
      rcases Nat.lt_or_ge g w.heap.size with hl | hl
      · exact hl
      · rw [Array.getElem?_eq_none hl] at hh; cases hh
    exact .inr ⟨g, cap, cur, hv, hg, (hb.block g (by omega)).trans hh, r⟩
end Go.Proofs.Ytodmfippjcfbbaa
namespace Go.Proofs.Ytodmfippjcfbbaa
open Go Go.RowKit Sh Leaf

/-- The slice value v reads as the bytes l; its cells, if there are any, lie in a block of which Q holds. -/
def Bytes (w : World) (Q : Nat → Prop) (v : Value) (l : List B8) : Prop :=
  ∃ A c, v = .slice A l.length c ∧ l.length ≤ c ∧ c ≤ maxLen ∧ (A = none → c = 0) ∧ (0 < l.length → ∃ g o, A = some ⟨g, o, none⟩ ∧ Q g ∧ ∀ j x, l[j]? = some x → w.cell? ⟨g, o + j, none⟩ = some (byt x))
section
variable {w w' : World} {Q Q' : Nat → Prop} {v : Value} {l : List B8}
theorem Bytes.keep (h : Bytes w Q v l) (hk : ∀ g, g < w.heap.size → Q g → w'.heap[g]? = w.heap[g]?) : Bytes w' Q v l := by
  obtain ⟨A, c, hv, h1, h2, h3, h4⟩ := h
  refine ⟨A, c, hv, h1, h2, h3, fun hl => ?_⟩
  obtain ⟨g, o, hA, hq, hc⟩ := h4 hl
  refine ⟨g, o, hA, hq, fun j x hj => ?_⟩
  have := hc j x hj
  rw [← this]
  exact World.cell?_of_block (w := w) (hk g (block_lt_of_cell this) hq)
theorem Bytes.mono (h : Bytes w Q v l) (hq : ∀ g, g < w.heap.size → Q g → Q' g) : Bytes w Q' v l := by
  obtain ⟨A, c, hv, h1, h2, h3, h4⟩ := h
  refine ⟨A, c, hv, h1, h2, h3, fun hl => ?_⟩
  obtain ⟨g, o, hA, hg, hc⟩ := h4 hl
  have h0 : (0 : Nat) < l.length := hl
  have := hc 0 l[0] (by simp [h0])
  exact ⟨g, o, hA, hq g (block_lt_of_cell this) hg, hc⟩
theorem Bytes.alloc (h : Bytes w Q v l) (o : Obj) : Bytes (w.alloc o) Q v l := h.keep fun g hg _ => Below.heap_alloc w o g hg
theorem Bytes.drew (h : Bytes w Q v l) : Bytes w.drew Q v l := h
theorem Bytes.drewN (h : Bytes w Q v l) (n : Nat) : Bytes (w.drewN n) Q v l := h
theorem Bytes.below {B : Nat} (h : Bytes w Q v l) (hb : Below B w w') (hB : w.heap.size ≤ B) : Bytes w' Q v l := h.keep fun g hg _ => hb.block g (by omega)
theorem Bytes.set (h : Bytes w Q v l) {a : Addr} (ha : ∀ g, Q g → g ≠ a.block) (x : Value) : Bytes (w.setCell a x) Q v l := h.keep fun g _ hq => heap_setCell_other w a g x (ha g hq)
theorem Bytes.setRow (h : Bytes w Q v l) {b : Nat} (ha : ∀ g, Q g → g ≠ b) (cs : Array Value) : Bytes (w.setRow b cs) Q v l := h.keep fun g _ hq => setRow_other w b g cs (ha g hq)
theorem Bytes.grown {row : Option Nat} (h : Bytes w Q v l) (hg : w.grownBy w' row) (hr : ∀ g, Q g → some g ≠ row) : Bytes w' Q v l := h.keep fun g hl hq => hg.block g hl (hr g hq)
theorem Bytes.nil (w : World) (Q : Nat → Prop) : Bytes w Q (.slice none 0 0) [] := ⟨none, 0, rfl, by simp, by simp [maxLen], fun _ => rfl, fun h => absurd h (by simp)⟩
end
/-- What a row of the call's own holds. -/
theorem Bytes.of_own {w : World} {base : Nat} {v : Value} {l : List B8} (h : w.ownsRow base 5 1 v l.length (l.map byt)) : Bytes w (fun g => base ≤ g) v l := by
  obtain ⟨_, h2⟩ := h
  rcases h2 with ⟨rfl, hn⟩ | ⟨g, cap, cur, rfl, hg, hh, hc, hm, hs, ht⟩
  · have : l = [] := List.eq_nil_of_length_eq_zero hn
    subst this
    exact Bytes.nil _ _
  · refine ⟨_, cap, rfl, hc, hm, fun h => (by cases h), fun _ => ⟨g, 0, rfl, hg, fun j x hj => ?_⟩⟩
    rw [cell_of_row w g (0 + j) cur _ _ hh, Nat.zero_add]
    have h1 : (l.map byt)[j]? = some (byt x) := by rw [List.getElem?_map, hj]; rfl
    rw [← ht, List.getElem?_take] at h1
    split at h1
    · simpa using h1
    · cases h1
theorem byteInfo : (Try.prog.info? 5).map (fun i => (i.zero, i.size, i.bytes)) = some (some (.int .u8 0), 1, 1) := by kernel_rfl
theorem own_lit (w : World) (base : Nat) (l : List B8) (hb : base ≤ w.heap.size) (hl : l.length ≤ 1000) :
    (w.alloc (.cells (l.map byt).toArray 5)).ownsRow base 5 1 (.slice (some ⟨w.heap.size, 0, none⟩) l.length l.length) l.length (l.map byt) := by
  refine ⟨by simp, .inr ⟨w.heap.size, l.length, (l.map byt).toArray, rfl, hb, heap_alloc_new w _, Nat.le_refl _, by unfold maxLen; omega, by simp, ?_⟩⟩
  simp [List.take_of_length_le]
theorem own_lit_at (w : World) (base g : Nat) (l : List B8) (hg : g = w.heap.size) (hb : base ≤ g) (hl : l.length ≤ 1000) :
    (w.alloc (.cells (l.map byt).toArray 5)).ownsRow base 5 1 (.slice (some ⟨g, 0, none⟩) l.length l.length) l.length (l.map byt) := by
  subst hg; exact own_lit w base l hb hl
theorem byt_one (l : List B8) : ∀ x ∈ l.map byt, x.oneCell' = true := by
  intro x hx
  obtain ⟨y, _, rfl⟩ := List.mem_map.1 hx
  rfl

/-- One byte in a block of its own. -/
theorem bytes_one (w : World) (z : Int) (x : B8) (h : z = bv x) : Bytes (w.alloc (.cells #[.int .u8 z] 5)) (fun _ => True) (.slice (some ⟨w.heap.size, 0, none⟩) 1 1) [x] := by
  subst h
  refine ⟨_, 1, rfl, by simp, by simp [maxLen], fun h => (by cases h), fun _ => ⟨_, _, rfl, trivial, fun j y hj => ?_⟩⟩
  rw [cell_of_row _ _ _ _ _ _ (heap_alloc_new w _)]
  match j, hj with
  | 0, hj => simp at hj; subst hj; rfl
  | j + 1, hj => simp at hj
theorem be_byte (n m : Nat) : (n : Int) / 2 ^ (8 * m) % 256 = bv (BitVec.ofNat 8 (n / 256 ^ m)) := by
  have e : 256 ^ m = 2 ^ (8 * m) := by rw [Nat.pow_mul]
  rw [bv_ofNat, e]
  simp
/-- append(own, src...), whatever src is. -/
theorem wpList_append_bytes {w : World} {ops : Array Oper} {rest : List Oper} {o : Oper} {a : Act} {R : Exit → Act → World → Prop} (hgd : o.guard = none) (s x : Operand)
    (ho : o.op = .call { callee := .builtin .append, args := #[s, x], argTypes := #[25, 25] })
    (base : Nat) (v : Value) (xs : List B8) (hs : a.eval s = v) (hown : w.ownsRow base 5 1 v xs.length (xs.map byt))
    (Q : Nat → Prop) (v2 : Value) (ys : List B8) (hx : a.eval x = v2) (hr : Bytes w Q v2 ys) (h47 : xs.length + ys.length ≤ 140737488355328) (hbase : base ≤ w.heap.size)
    (h : ∀ v' w', w'.ownsRow base 5 1 v' (xs ++ ys).length ((xs ++ ys).map byt) → Below base w w' → wpList Try.prog ops R rest (a.put o.dst v') w') : wpList Try.prog ops R (o :: rest) a w := by
  have hbel : ∀ w', w.grownBy w' v.ownBlock → Below base w w' := fun w' hg => (Below.refl _ _).grown hg hbase fun k hk => by
    rcases hown.2 with ⟨rfl, _⟩ | ⟨g, cap, cur, rfl, hge, _⟩
    · simp [Value.ownBlock] at hk
    · simp [Value.ownBlock] at hk; omega
  obtain ⟨i0, hi, hz0, hz1, hz2⟩ := info_parts byteInfo
  obtain ⟨A, c, hv, hc1, hc2, hc3, hc4⟩ := hr
  have hlen : (xs ++ ys).length = xs.length + ys.length := by simp
  have hmap : (xs ++ ys).map byt = xs.map byt ++ ys.map byt := by simp
  rw [hlen, hmap] at h
  cases A with
  | none =>
    have h0 := hc3 rfl
    subst h0
    have hy : ys = [] := List.eq_nil_of_length_eq_zero (by omega)
    subst hy
    refine wpList_append_own_none hgd s x 25 ho base 5 i0 1 Try.underlying25 hi v xs.length (xs.map byt) hs hown (by rw [hx, hv]; rfl) ?_
    exact h v w (by simpa using hown) (Below.refl _ _)
  | some ad =>
    refine wpList_append_own w hgd s x 25 ho base 5 i0 (.int .u8 0) 1 1 Try.underlying25 hi hz0 hz1 hz2 rfl (by decide) v xs.length (xs.map byt) hs hown ad ys.length c (ys.map byt) (by rw [hx, hv]) (by simp) ?_ (byt_one ys)
      (by unfold maxLen; omega) (by omega) hbase (fun v' w' h1 h2 _ => h v' w' h1 (hbel w' h2))
    intro j b hb
    have hj : j < ys.length := by
      have := (List.getElem?_eq_some_iff.1 hb).1
      simpa using this
    obtain ⟨g, o, hA, _, hcell⟩ := hc4 (by omega)
    obtain rfl := Option.some.inj hA
    rw [Addr.add_mid]
    rw [List.getElem?_map, List.getElem?_eq_getElem hj] at hb
    obtain rfl := Option.some.inj hb
    exact hcell j _ (List.getElem?_eq_getElem hj)
section
variable {P : Program} {ops : Array Oper} {w : World} {rest : List Oper} {o : Oper} {a : Act}
theorem wpList_slice_run {Q : Exit → Act → World → Prop} (hgd : o.guard = none) (t : TypeId) (x : Operand) (lo hi mx : Option Operand) (ho : o.op = .slice t x lo hi mx) (v : Value)
    (hr : (Instr.sliceAt t (a.eval x) (lo.map a.eval) (hi.map a.eval) (mx.map a.eval)).run P w = .ok v w) (h : wpList P ops Q rest (a.put o.dst v) w) : wpList P ops Q (o :: rest) a w :=
  wpList_plain hgd fun K hK => by
    unfold Oper.wp execOp
    simp only [ho, Sem.run_bind, Sem.run_pure, hr, Result.andThen_ok]
    exact hK _ _ h
theorem wpStill_value {Q : Act → Prop} (hw : Region.wanted o (yielded ops a.tmps) = true) (v : Value) (hr : (execOp a.eval o).run P w = .ok (.value v) w) (h : wpStill P ops w Q rest (a.put o.dst v)) : wpStill P ops w Q (o :: rest) a := by
  show if Region.wanted o (yielded ops a.tmps) = true then _ else _
  rw [if_pos hw]
  unfold Oper.still
  rw [hr]
  exact ⟨rfl, h⟩
theorem wpStill_slice_run {Q : Act → Prop} (hw : Region.wanted o (yielded ops a.tmps) = true) (t : TypeId) (x : Operand) (lo hi mx : Option Operand) (ho : o.op = .slice t x lo hi mx) (v : Value)
    (hr : (Instr.sliceAt t (a.eval x) (lo.map a.eval) (hi.map a.eval) (mx.map a.eval)).run P w = .ok v w) (h : wpStill P ops w Q rest (a.put o.dst v)) : wpStill P ops w Q (o :: rest) a :=
  wpStill_value hw v (by unfold execOp; simp only [ho, Sem.run_bind, Sem.run_pure, hr, Result.andThen_ok]) h
theorem wpStill_load_run {Q : Act → Prop} (hw : Region.wanted o (yielded ops a.tmps) = true) (ty : TypeId) (x : Operand) (ho : o.op = .load ty x) (g off : Nat) (hx : a.eval x = .pointer (some ⟨g, off, none⟩))
    (cs : List Value) (d : TypeDesc) (hc : w.rangeAt g off cs) (hu : P.underlying ty = some d) (hd : d.isRow = true) (hi : (P.info? ty).map (·.size) = some cs.length)
    (h : wpStill P ops w Q rest (a.put o.dst (.agg cs.toArray))) : wpStill P ops w Q (o :: rest) a :=
  wpStill_value hw _ (by unfold execOp; simp only [ho, hx, Instr.loadAt, Instr.sureAddr, Sem.run_bind, Sem.run_pure, Result.andThen_ok, run_loadVar_mid w g off ty cs d hc hu hd hi]) h
end

theorem elem_bytes : Try.prog.underlying 25 = some (.slice (Try.prog.elem 25)) := by kernel_rfl
theorem size_byte (W : World) : (sizeOf (Try.prog.elem 25)).run Try.prog W = .ok 1 W := run_sizeOf_one (by kernel_rfl) W
/-- s[k:] -/
theorem run_cut_from (A : Option Addr) (len c k : Nat) (hk : k ≤ len) (W : World) :
    (Instr.sliceAt 25 (.slice A len c) (some (.int .i64 (k : Int))) none none).run Try.prog W = .ok (.slice (if c = k then A else A.map (·.add k)) (len - k) (c - k)) W := by
  rw [run_sliceAt_slice W _ _ _ _ _ elem_bytes, run_slice_l W 25 A len c elem_bytes .i64 (k : Int) (by omega) (by omega), size_byte]
  simp [sliced, Result.andThen]
/-- s[:k] -/
theorem run_cut_to (A : Option Addr) (len c k : Nat) (hk : k ≤ c) (W : World) :
    (Instr.sliceAt 25 (.slice A len c) none (some (.int .i64 (k : Int))) none).run Try.prog W = .ok (.slice A k c) W := by
  rw [run_sliceAt_slice W _ _ _ _ _ elem_bytes, run_slice_h W 25 A len c elem_bytes .i64 (k : Int) (by omega) (by omega), size_byte]
  have e : Option.map (fun x : Addr => x.add 0) A = A := by
    cases A with
    | none => rfl
    | some a => simp [Addr.add]
  simp [sliced, Result.andThen, e]
/-- s[i:j] -/
theorem run_cut_mid (A : Option Addr) (len c i j : Nat) (hi : i ≤ j) (hj : j ≤ c) (W : World) :
    (Instr.sliceAt 25 (.slice A len c) (some (.int .i64 (i : Int))) (some (.int .i64 (j : Int))) none).run Try.prog W = .ok (.slice (if c = i then A else A.map (·.add i)) (j - i) (c - i)) W := by
  rw [run_sliceAt_slice W _ _ _ _ _ elem_bytes, run_slice_lh W 25 A len c elem_bytes .i64 .i64 (i : Int) (j : Int) (by omega) (by omega) (by omega), size_byte]
  simp [sliced, Result.andThen]

section
variable {w : World} {Q : Nat → Prop} {l : List B8}
theorem Bytes.drop {A : Option Addr} {len c : Nat} (h : Bytes w Q (.slice A len c) l) (k : Nat) (hk : k ≤ l.length) : Bytes w Q (.slice (if c = k then A else A.map (·.add k)) (len - k) (c - k)) (l.drop k) := by
  obtain ⟨A', c', hv, h1, h2, h3, h4⟩ := h
  injection hv with ha hb hc
  subst ha hb hc
  refine ⟨_, _, by rw [List.length_drop], by rw [List.length_drop]; omega, by omega, fun e => ?_, fun hl => ?_⟩
  · by_cases hck : c = k
    · omega
    · rw [if_neg hck] at e
      have : A = none := by cases A <;> simp_all
      have := h3 this
      omega
  · rw [List.length_drop] at hl
    obtain ⟨g, o, rfl, hq, hcell⟩ := h4 (by omega)
    refine ⟨g, o + k, ?_, hq, fun j x hj => ?_⟩
    · rw [if_neg (by omega)]; simp [Addr.add_mid]
    · rw [List.getElem?_drop] at hj
      have := hcell _ x hj
      rwa [← Nat.add_assoc] at this
theorem Bytes.take {A : Option Addr} {len c : Nat} (h : Bytes w Q (.slice A len c) l) (k : Nat) (hk : k ≤ l.length) : Bytes w Q (.slice A k c) (l.take k) := by
  obtain ⟨A', c', hv, h1, h2, h3, h4⟩ := h
  injection hv with ha hb hc
  subst ha hb hc
  have hl : (l.take k).length = k := by simp; omega
  refine ⟨A, c, by rw [hl], by omega, h2, h3, fun h0 => ?_⟩
  obtain ⟨g, o, hA, hq, hcell⟩ := h4 (by omega)
  refine ⟨g, o, hA, hq, fun j x hj => hcell j x ?_⟩
  rw [List.getElem?_take] at hj
  split at hj
  · exact hj
  · cases hj
/-- Its cells, as a range of a block. -/
theorem Bytes.range {A : Option Addr} {len c : Nat} (h : Bytes w Q (.slice A len c) l) (h0 : 0 < l.length) : ∃ g o, A = some ⟨g, o, none⟩ ∧ Q g ∧ w.rangeAt g o (l.map byt) := by
  obtain ⟨A', c', hv, h1, h2, h3, h4⟩ := h
  injection hv with ha hb hc
  subst ha hb hc
  obtain ⟨g, o, hA, hq, hcell⟩ := h4 h0
  refine ⟨g, o, hA, hq, fun j v hj => ?_⟩
  rw [List.getElem?_map] at hj
  cases hx : l[j]? with
  | none => rw [hx] at hj; cases hj
  | some x => rw [hx] at hj; injection hj with hj; subst hj; exact hcell j x hx
end

/-- Sixty-four bytes out of the middle. -/
theorem bytes_mid {w : World} {Q : Nat → Prop} {l : List B8} {A : Option Addr} {len c : Nat} (h : Bytes w Q (.slice A len c) l) (q : Nat) (hq : 64 * q + 64 ≤ l.length) :
    ∃ g o c', (∀ W, (Instr.sliceAt 25 (.slice A len c) (some (.int .i64 (64 * (q : Int)))) (some (.int .i64 (64 * (q : Int) + 64))) none).run Try.prog W = .ok (.slice (some ⟨g, o, none⟩) 64 c') W) ∧ Q g ∧
      ∀ j, j < 64 → w.cell? ⟨g, o + j, none⟩ = some (byt (((l.drop (64 * q)).take 64).getD j 0)) := by
  obtain ⟨A', c', hv, h1, h2, h3, h4⟩ := h
  injection hv with ha hb hc
  subst ha hb hc
  obtain ⟨g, o, rfl, hQ, hcell⟩ := h4 (by omega)
  refine ⟨g, o + 64 * q, c - 64 * q, fun W => ?_, hQ, fun j hj => ?_⟩
  · have := run_cut_mid (some ⟨g, o, none⟩) l.length c (64 * q) (64 * q + 64) (by omega) (by omega) W
    rw [if_neg (by omega), show 64 * q + 64 - 64 * q = 64 by omega] at this
    simp only [Option.map_some, Addr.add_mid] at this
    rw [← this]
    congr 4
    all_goals (first | rfl | (congr 3; omega) | skip)
  · have hlt : 64 * q + j < l.length := by omega
    have hx := hcell (64 * q + j) l[64 * q + j] (List.getElem?_eq_getElem hlt)
    rw [← Nat.add_assoc] at hx
    rw [hx]
    congr 2
    rw [List.getD_eq_getElem?_getD, List.getElem?_take, if_pos hj, List.getElem?_drop, List.getElem?_eq_getElem hlt]
    rfl
/-- A block of bytes, whole, as a slice. -/
theorem Whole.bytes {w : World} {g : Nat} {t : TypeId} {l : List B8} (h : Whole w g t (l.map byt).toArray) (hl : l.length ≤ 1000000) : Bytes w (fun b => b = g) (.slice (some ⟨g, 0, none⟩) l.length l.length) l :=
  ⟨some ⟨g, 0, none⟩, l.length, rfl, Nat.le_refl _, by unfold maxLen; omega, fun h => (by cases h), fun _ => ⟨g, 0, rfl, rfl, fun j x hj => by rw [h.cell, Nat.zero_add]; simp [hj]⟩⟩
/-- copy(row of the call's own, src), whatever src is. -/
theorem wpList_copy_bytes {w : World} {ops : Array Oper} {rest : List Oper} {o : Oper} {a : Act} {R : Exit → Act → World → Prop} (hgd : o.guard = none) (d s : Operand)
    (ho : o.op = .call { callee := .builtin .copy, args := #[d, s], argTypes := #[25, 25] })
    (g dLen dCap : Nat) (hd : a.eval d = .slice (some ⟨g, 0, none⟩) dLen dCap) (v2 : Value) (hs : a.eval s = v2) (Q : Nat → Prop) (ys : List B8) (hr : Bytes w Q v2 ys)
    (t : TypeId) (cur : List Value) (hg : Whole w g t cur.toArray) (hfit : ys.length ≤ dLen) (hsz : dLen ≤ cur.length)
    (h : ∀ w', Hid (Whole w' g t (ys.map byt ++ cur.drop ys.length).toArray) → Below g w w' → wpList Try.prog ops R rest (a.put o.dst (goInt ys.length)) w') : wpList Try.prog ops R (o :: rest) a w := by
  obtain ⟨A, c, rfl, hc1, hc2, hc3, hc4⟩ := hr
  have hcsl : (ys.map byt).length = ys.length := by simp
  refine wpList_copy_splice hgd d s 25 25 ho 5 Try.underlying25 (by kernel_rfl) (some ⟨g, 0, none⟩) A dLen dCap ys.length c hd hs g 0 cur t hg (ys.map byt) (by rw [hcsl]; exact (Nat.min_eq_left hfit).symm)
    ?_ (by rw [hcsl]; omega) (byt_one ys) g w (Below.refl _ _) (Nat.le_refl _) ?_
  · intro hp
    rw [hcsl] at hp
    obtain ⟨g', o', rfl, _, hcell⟩ := hc4 hp
    refine ⟨rfl, _, rfl, fun j v hj => ?_⟩
    rw [Addr.add_mid]
    rw [List.getElem?_map] at hj
    cases hx : ys[j]? with
    | none => rw [hx] at hj; cases hj
    | some x => rw [hx] at hj; injection hj with hj; subst hj; exact hcell j x hx
  · intro w' hg' hb'
    rw [hcsl]
    refine h w' (Lib.hid ?_) hb'
    have := hg'.out
    have e : splice cur 0 (ys.map byt) = ys.map byt ++ cur.drop ys.length := by simp [splice]
    rw [e] at this
    exact this
theorem own_whole {w : World} {base g : Nat} {xs : List B8} (h : Whole w g 5 (xs.map byt).toArray) (hb : base ≤ g) (hl : xs.length ≤ 1000000) :
    w.ownsRow base 5 1 (.slice (some ⟨g, 0, none⟩) xs.length xs.length) xs.length (xs.map byt) :=
  ⟨by simp, .inr ⟨g, xs.length, (xs.map byt).toArray, rfl, hb, h, Nat.le_refl _, by unfold maxLen; omega, by simp, by simp [List.take_of_length_le]⟩⟩
theorem lit_bytes (w : World) (fr : Nat × Nat) (l : List B8) (zs : Array Value) (hz : zs = (l.map byt).toArray) (hl : l.length ≤ 1000) :
    Bytes (w.alloc (.cells zs 5 fr)) (fun _ => True) (.slice (some ⟨w.heap.size, 0, none⟩) l.length l.length) l := by
  refine ⟨some ⟨w.heap.size, 0, none⟩, l.length, rfl, Nat.le_refl _, by unfold maxLen; omega, fun h => (by cases h), fun _ => ⟨w.heap.size, 0, rfl, trivial, fun j x hj => ?_⟩⟩
  rw [World.cell?_alloc_mark, Nat.zero_add, hz]
  simp [hj]
theorem min_take (l : List B8) (m : Nat) : (if (m : Int) < (l.length : Int) then (m : Int) else (l.length : Int)) = ((l.take m).length : Int) := by
  rw [List.length_take]
  split <;> omega
theorem Bytes.cut {w : World} {Q : Nat → Prop} {A : Option Addr} {l : List B8} {c : Nat} (h : Bytes w Q (.slice A l.length c) l) (m : Nat) : Bytes w Q (.slice A (l.take m).length c) (l.take m) := by
  have := h.take (min m l.length) (Nat.min_le_right _ _)
  rw [List.length_take]
  rwa [show l.take (min m l.length) = l.take m by rw [List.take_eq_take_iff]; omega] at this
/-- A list in the first cells of a row. -/
theorem bytes_row {w : World} {g cap : Nat} {cur : Array Value} {l : List B8} (h : Whole w g 5 cur) (hc : l.length ≤ cap) (hm : cap ≤ maxLen) (ht : ∀ (j : Nat) (x : B8), l[j]? = some x → cur[j]? = some (byt x)) : Bytes w (fun b => b = g) (.slice (some ⟨g, 0, none⟩) l.length cap) l :=
  ⟨some ⟨g, 0, none⟩, cap, rfl, hc, hm, fun h => (by cases h), fun _ => ⟨g, 0, rfl, rfl, fun j x hj => by rw [h.cell, Nat.zero_add]; exact ht j x hj⟩⟩
theorem own_open {w : World} {base : Nat} {v : Value} {l : List B8} (h : w.ownsRow base 5 1 v l.length (l.map byt)) (h0 : 0 < l.length) :
    ∃ g cap cur, v = .slice (some ⟨g, 0, none⟩) l.length cap ∧ base ≤ g ∧ Whole w g 5 cur ∧ l.length ≤ cap ∧ cap ≤ maxLen ∧ l.length ≤ cur.size ∧ ∀ (j : Nat) (x : B8), l[j]? = some x → cur[j]? = some (byt x) := by
  rcases h.2 with ⟨_, hn⟩ | ⟨g, cap, cur, rfl, hg, hh, hc, hm, hs, ht⟩
  · omega
  · refine ⟨g, cap, cur, rfl, hg, hh, hc, hm, by omega, fun j x hj => ?_⟩
    have h1 : (l.map byt)[j]? = some (byt x) := by rw [List.getElem?_map, hj]; rfl
    rw [← ht, List.getElem?_take] at h1
    split at h1
    · simpa using h1
    · cases h1
theorem there_below {W0 w' : World} {g' n : Nat} (h' : W0.there g' 0 n) (hg' : g' < W0.heap.size) (hk : Below W0.heap.size W0 w') : w'.there g' 0 n := fun j hj => by
  have := h' j hj
  rw [hk.cell (p := ⟨g', 0 + j, none⟩) hg', hk.frozen (p := ⟨g', 0 + j, none⟩) hg']
  exact this
end Go.Proofs.Ytodmfippjcfbbaa
namespace Go.Proofs.Ytodmfippjcfbbaa
open Go Go.RowKit Sh Leaf

theorem run_append_bytes {w : World} (ty : TypeId) (base : Nat) (v : Value) (xs : List B8) (hown : w.ownsRow base 5 1 v xs.length (xs.map byt))
    (Q : Nat → Prop) (v2 : Value) (ys : List B8) (hr : Bytes w Q v2 ys) (h47 : xs.length + ys.length ≤ 140737488355328) (hbase : base ≤ w.heap.size) :
    ∃ v' w', (Builtin.append_ #[25, 25] ty #[v, v2]).run Try.prog w = .ok v' w' ∧ w'.ownsRow base 5 1 v' (xs ++ ys).length ((xs ++ ys).map byt) ∧ Below base w w' := by
  have hbel : ∀ w', w.grownBy w' v.ownBlock → Below base w w' := fun w' hg => (Below.refl _ _).grown hg hbase fun k hk => by
    rcases hown.2 with ⟨rfl, _⟩ | ⟨g, cap, cur, rfl, hge, _⟩
    · simp [Value.ownBlock] at hk
    · simp [Value.ownBlock] at hk; omega
  obtain ⟨i0, hi, hz0, hz1, hz2⟩ := info_parts byteInfo
  obtain ⟨A, c, hv, hc1, hc2, hc3, hc4⟩ := hr
  have hlen : (xs ++ ys).length = xs.length + ys.length := by simp
  have hmap : (xs ++ ys).map byt = xs.map byt ++ ys.map byt := by simp
  rw [hlen, hmap, hv]
  cases A with
  | none =>
    have h0 := hc3 rfl
    subst h0
    have hy : ys = [] := List.eq_nil_of_length_eq_zero (by omega)
    subst hy
    exact ⟨v, w, run_append_owned_none w base 25 ty 5 i0 1 Try.underlying25 hi v xs.length (xs.map byt) hown, by simpa using hown, Below.refl _ _⟩
  | some ad =>
    obtain ⟨v', w', hrun, h1, h2⟩ := run_append_own w base 25 ty 5 i0 (.int .u8 0) 1 1 Try.underlying25 hi hz0 hz1 hz2 rfl (by decide) v xs.length (xs.map byt) hown ad ys.length c (ys.map byt) (by simp)
      (by
        intro j b hb
        have hj : j < ys.length := by
          have := (List.getElem?_eq_some_iff.1 hb).1
          simpa using this
        obtain ⟨g, o, hA, _, hcell⟩ := hc4 (by omega)
        obtain rfl := Option.some.inj hA
        rw [Addr.add_mid]
        rw [List.getElem?_map, List.getElem?_eq_getElem hj] at hb
        obtain rfl := Option.some.inj hb
        exact hcell j _ (List.getElem?_eq_getElem hj)) (byt_one ys) (by unfold maxLen; omega) (by omega) hbase
    exact ⟨v', w', hrun, h1, hbel w' h2.1⟩

theorem step_append_bytes {w : World} {ops : Array Oper} {o : Oper} {a : Act} {K : Act → World → Prop} {R : Exit → Act → World → Prop} {E : Prop} (hw : Region.wanted o (yielded ops a.tmps) = true) (s x : Operand)
    (ho : o.op = .call { callee := .builtin .append, args := #[s, x], argTypes := #[25, 25] })
    (base : Nat) (v : Value) (xs : List B8) (hs : a.eval s = v) (hown : w.ownsRow base 5 1 v xs.length (xs.map byt))
    (Q : Nat → Prop) (v2 : Value) (ys : List B8) (hx : a.eval x = v2) (hr : Bytes w Q v2 ys) (h47 : xs.length + ys.length ≤ 140737488355328) (hbase : base ≤ w.heap.size)
    (h : ∀ v' w', w'.ownsRow base 5 1 v' (xs ++ ys).length ((xs ++ ys).map byt) → Below base w w' → K (a.put o.dst v') w') :
    if Region.wanted o (yielded ops a.tmps) = true then Oper.wp Try.prog o a w K R else E := by
  rw [if_pos hw]
  obtain ⟨v', w', hrun, h1, h2⟩ := run_append_bytes o.type base v xs hown Q v2 ys hr h47 hbase
  unfold Oper.wp
  simp [execOp, ho, resolve, invoke, builtin, hs, hx, hrun, Result.andThen]
  exact h v' w' h1 h2
/-- append(own, src...) under a guard that holds. -/
theorem wpList_append_wanted {w : World} {ops : Array Oper} {rest : List Oper} {o : Oper} {a : Act} {R : Exit → Act → World → Prop} (hw : Region.wanted o (yielded ops a.tmps) = true) (s x : Operand)
    (ho : o.op = .call { callee := .builtin .append, args := #[s, x], argTypes := #[25, 25] })
    (base : Nat) (v : Value) (xs : List B8) (hs : a.eval s = v) (hown : w.ownsRow base 5 1 v xs.length (xs.map byt))
    (Q : Nat → Prop) (v2 : Value) (ys : List B8) (hx : a.eval x = v2) (hr : Bytes w Q v2 ys) (h47 : xs.length + ys.length ≤ 140737488355328) (hbase : base ≤ w.heap.size)
    (h : ∀ v' w', w'.ownsRow base 5 1 v' (xs ++ ys).length ((xs ++ ys).map byt) → Below base w w' → wpList Try.prog ops R rest (a.put o.dst v') w') : wpList Try.prog ops R (o :: rest) a w := by
  obtain ⟨v', w', hrun, h1, h2⟩ := run_append_bytes o.type base v xs hown Q v2 ys hr h47 hbase
  show if Region.wanted o (yielded ops a.tmps) then _ else _
  rw [if_pos hw]
  left
  unfold Oper.wp
  simp [execOp, ho, resolve, invoke, builtin, hs, hx, hrun, Result.andThen]
  exact h v' w' h1 h2
theorem zeroCells_byt (k : Nat) : Builtin.zeroCells (Value.int .u8 0).cells k = ((List.replicate k (0 : B8)).map byt).toArray := by
  unfold Builtin.zeroCells
  apply Array.ext_getElem?
  intro i
  simp only [Value.cells, List.map_replicate, byt, bv_zero]
  by_cases h : i < k
  · simp [h, Nat.mod_one]
  · simp [h]
theorem run_append_zeros {w : World} (ty : TypeId) (base : Nat) (v : Value) (xs : List B8) (hown : w.ownsRow base 5 1 v xs.length (xs.map byt)) (k : Nat) (hk : k ≤ 1000) (hx : xs.length ≤ 1000) (hbase : base ≤ w.heap.size) :
    ∃ v' w', (Builtin.append_ #[25, 3] ty #[v, .int .i64 (k : Int)]).run Try.prog w = .ok v' w' ∧ w'.ownsRow base 5 1 v' (xs ++ List.replicate k (0 : B8)).length ((xs ++ List.replicate k (0 : B8)).map byt) ∧ Below base w w' := by
  obtain ⟨i0, hi, hz0, hz1, hz2⟩ := info_parts byteInfo
  have hlen : (xs ++ List.replicate k (0 : B8)).length = xs.length + k := by simp
  have hzr : (List.replicate k (0 : B8)).map byt = List.replicate k (.int .u8 0) := by rw [List.map_replicate, byt, bv_zero]
  have hown' := hown
  rcases hown.2 with ⟨rfl, hn⟩ | ⟨g, cap, cur, rfl, hg, hh, hc, hm, hs, ht⟩
  · have hx0 : xs = [] := List.eq_nil_of_length_eq_zero (by omega)
    subst hx0
    by_cases h0 : k = 0
    · subst h0
      refine ⟨.slice none 0 0, w, ?_, by simpa using hown', Below.refl _ _⟩
      simp [Builtin.append_, run_underlying Try.underlying25, run_underlying Try.underlying3, sizeOf, typeInfo, hi, asInt, asIntOf, IntKind.wrap_i64]
    · have hrun := Lib.run_append_nil_zeros (P := Try.prog) w 25 3 ty 5 i0 (.int .u8 0) .i64 .i64 Try.underlying25 Try.underlying3 hi hz0 k (by omega) (by omega) (by omega) (by rw [hz2]; omega)
      have hge := grownCap_ge w k 0 5
      have hle := grownCap_le_maxLen w k 0 5 (by unfold maxLen; omega)
      generalize grownCap w k 0 5 = C at *
      rw [zeroCells_byt, zeroCells_byt] at hrun
      simp only [List.nil_append, List.length_replicate]
      refine ⟨_, _, hrun, ⟨by simp, .inr ⟨_, C, _, rfl, hbase, heap_alloc_new _ _, hge, hle, ?_, ?_⟩⟩, ((Below.refl _ _).drew).alloc hbase _⟩
      · simp; omega
      · simp
  · by_cases hroom : xs.length + k ≤ cap
    · have hst := run_storeCells_at (P := Try.prog) g xs.length 5 (List.replicate k (.int .u8 0)) 0 cur w hh (by simp; omega) (by intro v hv; rw [List.eq_of_mem_replicate hv]; rfl)
      simp only [Nat.add_zero, List.length_replicate] at hst
      have ha : (⟨g, 0, none⟩ : Addr).add xs.length = ⟨g, xs.length, none⟩ := by rw [Addr.add_mid, Nat.zero_add]
      have hzc : (Builtin.zeroCells (Value.int .u8 0).cells k).toList = List.replicate k (.int .u8 0) := by rw [zeroCells_byt, hzr]
      have hw : IntKind.i64.wrap (k : Int) = k := by rw [IntKind.wrap_i64]; omega
      have hneg : ¬ ((k : Int) < 0) := by omega
      have h48 : ¬ ((281474976710656 : Int) < (k : Int) * (i0.bytes : Int)) := by rw [hz2]; omega
      obtain ⟨R, hR⟩ : ∃ R, R = (cur.toList.take xs.length ++ List.replicate k (Value.int .u8 0) ++ cur.toList.drop (xs.length + k)).toArray := ⟨_, rfl⟩
      rw [← hR] at hst
      refine ⟨.slice (some ⟨g, 0, none⟩) (xs.length + k) cap, w.setRow g R, ?_, ⟨by simp, .inr ⟨g, cap, R, by rw [hlen], hg, setRow_heap w g cur _ _ _ hh, by omega, hm, ?_, ?_⟩⟩, ⟨rfl, rfl, rfl, by simp, fun j hj => setRow_other w g j _ (by omega)⟩⟩
      · by_cases h0 : k = 0
        · subst h0
          have e : R = cur := by rw [hR]; simp
          rw [e, setRow_self w g cur _ _ hh]
          simp [Builtin.append_, run_underlying Try.underlying25, run_underlying Try.underlying3, sizeOf, typeInfo, hi, asInt, asIntOf, IntKind.wrap_i64, hc, storeCells, Result.andThen]
        · have hns : ¬ (k * i0.size = 0) := Nat.mul_ne_zero h0 (by omega)
          simp [Builtin.append_, run_underlying Try.underlying25, run_underlying Try.underlying3, sizeOf, typeInfo, zeroValue, hi, hz0, hz1, asInt, asIntOf, hw, hneg, h48, hroom, h0, ha, hzc, hst, Result.andThen]
      · rw [hR]; simp; omega
      · have h1 : cur.toList.take xs.length = xs.map byt := by simpa using ht
        rw [hR, hlen, List.map_append, hzr, ← h1]
        have e1 : (cur.toList.take xs.length).length = xs.length := by rw [h1]; simp
        have e2 : (cur.toList.take xs.length ++ List.replicate k (Value.int .u8 0)).length = (xs.length + k) * 1 := by rw [List.length_append, e1, List.length_replicate, Nat.mul_one]
        rw [← e2]
        exact List.take_left
    · have h0 : 0 < k := by omega
      have hold : (Builtin.firstCells i0.size xs.length (.slice (some ⟨g, 0, none⟩) xs.length cap)).run Try.prog w.drew = .ok (xs.map byt).toArray w.drew := by
        refine run_firstCells_some _ _ _ _ _ _ _ (by simp [hz1]) (fun j y hy => ?_)
        rw [Addr.add_mid]
        have hc1 : w.cell? ⟨g, 0 + j, none⟩ = some y := by
          rw [cell_of_row w g (0 + j) cur _ _ hh, Nat.zero_add]
          rw [← ht, List.getElem?_take] at hy
          split at hy
          · simpa using hy
          · cases hy
        exact hc1
      have hrun := Lib.run_append_grow_zeros (P := Try.prog) w 25 3 ty 5 i0 (.int .u8 0) .i64 .i64 Try.underlying25 Try.underlying3 hi hz0 (some ⟨g, 0, none⟩) xs.length cap _ hold k h0 (by omega) (by omega) (by omega) (by rw [hz2]; omega) (by
        have h1 := growslice_fits (need := xs.length + k) (old := cap) (bytes := i0.bytes) (by omega) (by rw [hz2]; omega)
        exact h1)
      have hge := grownCap_ge w (xs.length + k) cap 5
      have hle := grownCap_le_maxLen w (xs.length + k) cap 5 (by unfold maxLen; omega)
      generalize grownCap w (xs.length + k) cap 5 = C at *
      rw [zeroCells_byt, zeroCells_byt] at hrun
      refine ⟨_, _, hrun, ⟨by simp, .inr ⟨_, C, _, by rw [hlen], hbase, heap_alloc_new _ _, by omega, hle, ?_, ?_⟩⟩, ((Below.refl _ _).drew).alloc hbase _⟩
      · simp; omega
      · have e2 : ((xs.map byt) ++ (List.replicate k (0 : B8)).map byt).length = (xs ++ List.replicate k 0).length * 1 := by simp
        rw [← e2, List.map_append]
        simp only [Array.toList_append]
        exact List.take_left
end Go.Proofs.Ytodmfippjcfbbaa
namespace Go.Proofs.Ytodmfippjcfbbaa
open Go Go.RowKit Sh Leaf

/-- The slice v has the bytes l at the head of a block of the call's own (from 'base' on), or is nil. -/
abbrev Own (w : World) (base : Nat) (v : Value) (l : List B8) : Prop := w.ownsRow base 5 1 v l.length (l.map byt)
theorem own_nil (w : World) (base : Nat) : Own w base (.slice none 0 0) [] := ⟨by simp, .inl ⟨rfl, by simp⟩⟩
theorem byt_lit (n : Nat) (h : n < 256) : byt (BitVec.ofNat 8 n) = .int .u8 (n : Int) := by rw [byt, bv_lit n h]
theorem own_mono {w : World} {base base' : Nat} {v : Value} {l : List B8} (h : Own w base v l) (hb : base' ≤ base) : Own w base' v l := by
  refine ⟨h.1, ?_⟩
  rcases h.2 with h2 | ⟨g, cap, cur, hv, hg, r⟩
  · exact .inl h2
  · exact .inr ⟨g, cap, cur, hv, by omega, r⟩
theorem own_alloc {w : World} {base : Nat} {v : Value} {l : List B8} (h : Own w base v l) (o : Obj) : Own (w.alloc o) base v l := own_below h ((Below.refl w.heap.size w).alloc (Nat.le_refl _) o) (Nat.le_refl _)
/-- Element k of a row of the call's own: its cell, and what a store leaves. -/
theorem own_cell {w : World} {base : Nat} {v : Value} {l : List B8} (h : Own w base v l) (k : Nat) (hk : k < l.length) :
    ∃ g cap, v = .slice (some ⟨g, 0, none⟩) l.length cap ∧ base ≤ g ∧ w.cell? ⟨g, k, none⟩ = some (byt (l.getD k 0)) ∧ w.frozen? ⟨g, k, none⟩ = false ∧ ∀ x : B8, Own (w.setCell ⟨g, k, none⟩ (byt x)) base v (l.set k x) := by
  obtain ⟨g, cap, cur, rfl, hg, hh, hc, hm, hs, ht⟩ := own_open h (by omega)
  refine ⟨g, cap, rfl, hg, ?_, hh.frozen k, fun x => ?_⟩
  · rw [hh.cell, ht k l[k] (List.getElem?_eq_getElem hk), List.getD_eq_getElem?_getD, List.getElem?_eq_getElem hk]; rfl
  · have hset := hh.set k (byt x)
    refine ⟨by simp, .inr ⟨g, cap, _, by rw [List.length_set], hg, hset, by rw [List.length_set]; exact hc, hm, ?_, ?_⟩⟩
    · have hsz : cur.size = cap := by
        rcases h.2 with ⟨h2, _⟩ | ⟨g', cap', cur', hv, _, hh', _, _, hs', _⟩
        · cases h2
        · cases hv
          have e : Whole w g 5 cur' := hh'
          unfold Whole at e hh
          rw [hh] at e
          cases e
          omega
      rw [Array.size_setIfInBounds]
      omega
    · apply List.ext_getElem?
      intro j
      rw [List.getElem?_take, List.getElem?_map, List.getElem?_set]
      by_cases hj : j < (l.set k x).length * 1
      · rw [if_pos hj]
        rw [List.length_set] at hj
        have hjl : j < l.length := by omega
        rw [Array.getElem?_toList, Array.getElem?_setIfInBounds]
        by_cases e : k = j
        · subst e
          rw [if_pos rfl, if_pos (by omega), if_pos rfl, if_pos hk]
          rfl
        · rw [if_neg e, if_neg e, ht j l[j] (List.getElem?_eq_getElem hjl), List.getElem?_eq_getElem hjl]
          rfl
      · rw [if_neg hj]
        rw [List.length_set] at hj
        rw [if_neg (by omega), List.getElem?_eq_none (by omega)]
        rfl
theorem own_le {w : World} {base base' size n : Nat} {e : TypeId} {v : Value} {xs : List Value} (h : w.ownsRow base e size v n xs) (hb : base' ≤ base) : w.ownsRow base' e size v n xs :=
  ⟨h.1, h.2.imp id fun ⟨g, cap, cur, h1, h2, r⟩ => ⟨g, cap, cur, h1, Nat.le_trans hb h2, r⟩⟩
/-- b[k:k + n] -/
theorem cut_field (A : Option Addr) (b : List B8) (c k n : Nat) (Q : Nat → Prop) (w : World) (h : Bytes w Q (.slice A b.length c) b) (hn : k + n ≤ b.length) :
    ∃ A' c', (∀ W, (Instr.sliceAt 25 (.slice A b.length c) (some (.int .i64 (k : Int))) (some (.int .i64 ((k : Int) + (n : Int)))) none).run Try.prog W = .ok (.slice A' n c') W) ∧ Bytes w Q (.slice A' n c') ((b.drop k).take n) := by
  have hd := h.drop k (by omega)
  have ht := hd.take n (by simp; omega)
  obtain ⟨A0, c0, e0, h1, h2, h3, h4⟩ := id h
  cases e0
  refine ⟨_, _, fun W => ?_, ht⟩
  have := run_cut_mid A b.length c k (k + n) (by omega) (by omega) W
  rw [show ((k + n : Nat) : Int) = (k : Int) + (n : Int) by omega, show k + n - k = n by omega] at this
  exact this
end Go.Proofs.Ytodmfippjcfbbaa
namespace Go.Proofs.Ytodmfippjcfbbaa
open Go Go.RowKit Sh Leaf

theorem clone_own (v : Value) (l : List B8) (Q : Nat → Prop) (w : World) (hr : Bytes w Q v l) (hl : l.length ≤ 1000000000) :
    Calls Try.prog 42 #[v] w fun e w' => ∃ v', e = .returned v' ∧ Own w' w.heap.size v' l ∧ Below w.heap.size w w' := by
  have hr' := hr
  obtain ⟨A, c, rfl, hc1, hc2, hc3, hc4⟩ := hr'
  have he := fun (W : World) => Lib.run_eql_slice_nil (P := Try.prog) W 25 5 A l.length c 0 0 Try.underlying25
  clear hc4
  cases A with
  | none =>
    have h0 := hc3 rfl
    have hy : l = [] := List.eq_nil_of_length_eq_zero (by omega)
    subst hy
    subst h0
    simp only [List.length_nil] at he ⊢
    clear hc3 hr
    go_enter Try.func42, Try.ntmps42
    go_wp2
    go_ret
    exact ⟨_, rfl, own_nil _ _, Below.refl _ _⟩
  | some ad =>
    clear hc3
    go_enter Try.func42, Try.ntmps42
    go_wp2_with (at_builtin; refine wpList_append_bytes rfl _ _ rfl w.heap.size (.slice (some ⟨w.heap.size, 0, none⟩) 0 0) [] rfl (own_lit w w.heap.size [] (Nat.le_refl _) (by simp)) Q _ l rfl (hr.alloc _) (by simp; omega) (by simp) ?_; intro v' w' h1 h2)
    go_ret
    exact ⟨v', rfl, by simpa using h1, ((Below.refl _ _).alloc (Nat.le_refl _) _).trans h2⟩

theorem bits_group (m : Nat) : bits .or .u8 ((m : Int) % 256) 128 = bv (BitVec.ofNat 8 (m % 128 + 128)) := by
  have h1 : ((m : Int) % 256) = bv (BitVec.ofNat 8 m) := by rw [bv_ofNat]; omega
  have h2 : (128 : Int) = bv 128 := by unfold bv; rfl
  rw [h1, h2, bits_or_bv]
  congr 1
  apply BitVec.eq_of_toNat_eq
  rw [BitVec.toNat_or, BitVec.toNat_ofNat, BitVec.toNat_ofNat]
  have h3 : m % 2 ^ 8 = 128 * (m % 256 / 128) + m % 128 := by omega
  have h4 : (128 : B8).toNat = 128 := rfl
  have h5 : m % 256 / 128 = 0 ∨ m % 256 / 128 = 1 := by omega
  have h6 := Nat.two_pow_add_eq_or_of_lt (show m % 128 < 2 ^ 7 by omega) 1
  simp only [Nat.mul_one, Nat.reducePow] at h6 ⊢
  rw [h4, Nat.or_comm]
  rcases h5 with h5 | h5
  · rw [show m % 256 = m % 128 by omega, ← h6]; omega
  · rw [show m % 256 = 128 + m % 128 by omega, h6, ← Nat.or_assoc, Nat.or_self, ← h6]; omega

set_option maxHeartbeats 1000000 in
set_option maxRecDepth 100000 in
theorem append_ok (v : Value) (l : List B8) (Q : Nat → Prop) (n : Nat) (w : World) (hr : Bytes w Q v l) (hl : l.length ≤ 1000000) (hn : n ≤ 281474976710656) :
    Calls Try.prog 38 #[v, .int .i64 (n : Int)] w fun e w' => ∃ v', e = .returned (.tuple #[v', .int .i64 0]) ∧ Own w' w.heap.size v' (l ++ enc n) ∧ Below w.heap.size w w' := by
  have h7 := enc_len7 hn
  go_enter Try.func38, Try.ntmps38
  go_wp2_with fail
  refine (clone_own v l Q _ hr (by omega)).mono ?_
  rintro e w1 ⟨v1, rfl, hown, hb⟩
  go_wp2_with fail
  go_loopw [6, 1] (fun vb vn wr => ∃ (m : Nat) (xs : List B8), vn = .int .i64 m ∧ Own wr w.heap.size vb xs ∧ xs ++ enc m = l ++ enc n ∧ m ≤ n ∧ xs.length ≤ 1000007 ∧ Below w.heap.size w wr) (fun _ vn _ => (intOf vn).toNat)
  case atStart => exact ⟨n, l, rfl, hown, rfl, Nat.le_refl _, by omega, hb⟩
  case round =>
    obtain ⟨m, xs, rfl, hown', hx, hm, hxl, hb'⟩ := hrel
    clear hown hb
    have hbs := hb'.size
    have hlen := congrArg List.length hx
    simp only [List.length_append] at hlen
    have hp := enc_pos m
    by_cases hlt : m < 128
    · rw [enc_lt hlt] at hx
      have HX := Lib.hid hx
      have hz : (m : Int) = bv (BitVec.ofNat 8 m) := by rw [bv_ofNat]; omega
      have HZ := Lib.hid hz
      clear hx hz
      have hm256 : (m : Int) < 128 := by omega
      go_wp2_with (at_builtin; go_must (refine wpList_append_bytes rfl _ _ rfl w.heap.size _ xs rfl (hown'.alloc _) _ (.slice (some ⟨wr.heap.size, 0, none⟩) 1 1) _ rfl (bytes_one wr _ _ HZ.out) (by simp only [List.length_singleton]; omega) (by simp; omega) ?_; intro v' w' h1 h2))
      go_ret2
      refine ⟨v', rfl, ?_, (hb'.alloc (by omega) _).trans h2⟩
      rw [← HX.out]; exact h1
    · rw [enc_ge hlt] at hx
      have HX := Lib.hid hx
      have HZ := Lib.hid (bits_group m)
      clear hx
      go_wp2_with (at_builtin; go_must (refine wpList_append_bytes rfl _ _ rfl w.heap.size _ xs rfl (hown'.alloc _) _ (.slice (some ⟨wr.heap.size, 0, none⟩) 1 1) _ rfl (bytes_one wr _ _ HZ.out) (by simp only [List.length_singleton]; omega) (by simp; omega) ?_; intro v' w' h1 h2))
      go_roundw
      case rel =>
        refine ⟨m / 128, xs ++ [BitVec.ofNat 8 (m % 128 + 128)], by go_num, h1, ?_, by omega, by simp; omega, (hb'.alloc (by omega) _).trans h2⟩
        rw [List.append_assoc]; exact HX.out
      case measure => simp [intOf]; omega

set_option maxRecDepth 100000 in
theorem append_err (v : Value) (n : Int) (w : World) (hn : n < 0 ∨ 281474976710656 < n) :
    Calls Try.prog 38 #[v, .int .i64 n] w fun e w' => e = .returned (.tuple #[.slice none 0 0, .int .i64 1]) ∧ w' = w := by
  rcases hn with hn | hn
  · go_enter Try.func38, Try.ntmps38
    go_wp2
    go_ret2
    exact ⟨rfl, rfl⟩
  · have h0 : ¬ n < 0 := by omega
    go_enter Try.func38, Try.ntmps38
    go_wp2
    go_ret2
    exact ⟨rfl, rfl⟩
end Go.Proofs.Ytodmfippjcfbbaa
namespace Go.Proofs.Ytodmfippjcfbbaa
open Go Go.RowKit Sh Leaf

set_option maxHeartbeats 1000000 in
theorem grow (n : Nat) (h0 : 0 < n) (hn : n ≤ 1000000000) (w : World) :
    Calls Try.prog 45 #[.slice none 0 0, .int .i64 (n : Int)] w fun e w' => ∃ v', e = .returned v' ∧ w'.ownsRow w.heap.size 5 1 v' 0 [] ∧ Below w.heap.size w w' := by
  obtain ⟨i0, hi, hz0, hz1, hz2⟩ := info_parts byteInfo
  have hr := fun ty => Lib.run_append_nil_zeros (P := Try.prog) w 25 3 ty 5 i0 (.int .u8 0) .i64 .i64 Try.underlying25 Try.underlying3 hi hz0 n h0 (by omega) (by omega) (by rw [hz2]; omega)
  have hge := grownCap_ge w n 0 5
  have hle := grownCap_le_maxLen w n 0 5 (by unfold maxLen; omega)
  generalize grownCap w n 0 5 = C at *
  rw [zeroCells_byt, zeroCells_byt] at hr
  have ho : (w.drew.alloc (.cells (((List.replicate n (0 : B8)).map byt).toArray ++ ((List.replicate (C - n) (0 : B8)).map byt).toArray) 5)).ownsRow w.heap.size 5 1 (.slice (some ⟨w.heap.size, 0, none⟩) 0 C) 0 [] :=
    ⟨rfl, .inr ⟨_, C, _, rfl, Nat.le_refl _, heap_alloc_new _ _, by omega, hle, by simp; omega, by simp⟩⟩
  have hb : Below w.heap.size w (w.drew.alloc (.cells (((List.replicate n (0 : B8)).map byt).toArray ++ ((List.replicate (C - n) (0 : B8)).map byt).toArray) 5)) := (Below.refl _ _).drew.alloc (by simp) _
  generalize (w.drew.alloc (.cells (((List.replicate n (0 : B8)).map byt).toArray ++ ((List.replicate (C - n) (0 : B8)).map byt).toArray) 5)) = w1 at *
  have HR := Lib.hid hr
  clear hr hi hz0 hz1 hz2
  go_enter Try.func45, Try.ntmps45
  go_wp2_with (at_builtin; refine Lib.wpList_append_run _ rfl _ _ _ _ rfl _ _ rfl rfl _ _ (HR.out 25) ?_)
  go_ret
  exact ⟨_, rfl, ho, hb⟩
end Go.Proofs.Ytodmfippjcfbbaa
namespace Go.Proofs.Ytodmfippjcfbbaa
open Go Go.RowKit Sh Leaf

/-- The slice value u reads as the bytes x; its cells, if there are any, lie below B or in a block of bytes. -/
def Elem (w : World) (B : Nat) (u : Value) (x : List B8) : Prop := Bytes w (fun g => g < B ∨ ∃ cs fr, w.heap[g]? = some (.cells cs 5 fr)) u x
/-- Blocks of bytes are kept. -/
def Kb (w w' : World) : Prop := ∀ (g : Nat) (cs : Array Value) (fr : Nat × Nat), w.heap[g]? = some (.cells cs 5 fr) → w'.heap[g]? = some (.cells cs 5 fr)
theorem Kb.refl (w : World) : Kb w w := fun _ _ _ h => h
theorem Kb.trans {a b c : World} (h : Kb a b) (k : Kb b c) : Kb a c := fun g cs fr e => k g cs fr (h g cs fr e)
theorem Kb.below {w w' : World} (h : Below w.heap.size w w') : Kb w w' := fun g cs fr e => by
  have hlt : g < w.heap.size := by
    rcases Nat.lt_or_ge g w.heap.size with hl | hl
    · exact hl
    · rw [Array.getElem?_eq_none hl] at e; cases e
  rw [h.block g hlt]; exact e
theorem Kb.alloc (w : World) (o : Obj) : Kb w (w.alloc o) := Kb.below ((Below.refl _ w).alloc (Nat.le_refl _) o)
theorem Kb.drew (w : World) : Kb w w.drew := fun _ _ _ h => h
theorem Kb.grown {w w' : World} {row : Option Nat} (h : w.grownBy w' row) (hr : ∀ g, row = some g → ∀ cs fr, w.heap[g]? ≠ some (.cells cs 5 fr)) : Kb w w' := fun g cs fr e => by
  have hlt : g < w.heap.size := by
    rcases Nat.lt_or_ge g w.heap.size with hl | hl
    · exact hl
    · rw [Array.getElem?_eq_none hl] at e; cases e
  rw [h.block g hlt (fun e' => hr g e'.symm cs fr e)]; exact e
theorem Elem.keep {w w' : World} {B : Nat} {u : Value} {x : List B8} (h : Elem w B u x) (hb : Below B w w') (hk : Kb w w') : Elem w' B u x := by
  have h1 : Bytes w' (fun g => g < B ∨ ∃ cs fr, w.heap[g]? = some (.cells cs 5 fr)) u x := Bytes.keep h fun g _ hq => by
    rcases hq with hq | ⟨cs, fr, hq⟩
    · exact hb.block g hq
    · rw [hk g cs fr hq, hq]
  obtain ⟨A, c, hv, h2, h3, h4, h5⟩ := h1
  refine ⟨A, c, hv, h2, h3, h4, fun hl => ?_⟩
  obtain ⟨g, o, e, hq, hc⟩ := h5 hl
  refine ⟨g, o, e, ?_, hc⟩
  rcases hq with hq | ⟨cs, fr, hq⟩
  · exact .inl hq
  · exact .inr ⟨cs, fr, hk g cs fr hq⟩
theorem Elem.bytes {w : World} {B : Nat} {u : Value} {x : List B8} (h : Elem w B u x) : Bytes w (fun _ => True) u x := Bytes.mono h fun _ _ _ => trivial
theorem Elem.of_low {w : World} {B : Nat} {u : Value} {x : List B8} (h : Bytes w (fun g => g < B) u x) : Elem w B u x := Bytes.mono h fun _ _ hq => .inl hq
theorem Elem.of_own {w : World} {base B : Nat} {v : Value} {l : List B8} (h : w.ownsRow base 5 1 v l.length (l.map byt)) : Elem w B v l := by
  have hb := Bytes.of_own h
  rcases h.2 with ⟨rfl, hn⟩ | ⟨g, cap, cur, rfl, hg, hh, -⟩
  · have : l = [] := List.eq_nil_of_length_eq_zero hn
    subst this
    exact Bytes.nil _ _
  · obtain ⟨A, c, hv, h2, h3, h4, h5⟩ := hb
    refine ⟨A, c, hv, h2, h3, h4, fun hl => ?_⟩
    obtain ⟨g', o, e, hq, hc⟩ := h5 hl
    injection hv with e1 _ _
    rw [e] at e1
    injection e1 with e1
    injection e1 with e1 _ _
    subst e1
    exact ⟨g, o, e, .inr ⟨cur, (0, 0), hh⟩, hc⟩
theorem Elem.whole {w : World} {B g : Nat} {l : List B8} (h : Whole w g 5 (l.map byt).toArray) (hl : l.length ≤ 1000000) : Elem w B (.slice (some ⟨g, 0, none⟩) l.length l.length) l :=
  Bytes.mono (h.bytes hl) fun _ _ e => .inr ⟨_, _, e ▸ h.eq⟩
theorem Elem.nil (w : World) (B : Nat) : Elem w B (.slice none 0 0) [] := Bytes.nil _ _
theorem Elem.one {w : World} {B : Nat} {u : Value} {x : List B8} (h : Elem w B u x) : u.oneCell' = true := by
  obtain ⟨A, c, rfl, -⟩ := h; rfl

/-- The values us read as the lists ll, one by one. -/
def Each (w : World) (B : Nat) (us : List Value) (ll : List (List B8)) : Prop := us.length = ll.length ∧ ∀ (j : Nat) (u : Value) (x : List B8), us[j]? = some u → ll[j]? = some x → Elem w B u x
theorem Each.keep {w w' : World} {B : Nat} {us : List Value} {ll : List (List B8)} (h : Each w B us ll) (hb : Below B w w') (hk : Kb w w') : Each w' B us ll := ⟨h.1, fun j u x h1 h2 => (h.2 j u x h1 h2).keep hb hk⟩
theorem Each.nil (w : World) (B : Nat) : Each w B [] [] := ⟨rfl, fun j u x h => by simp at h⟩
theorem Each.snoc {w : World} {B : Nat} {us : List Value} {ll : List (List B8)} {u : Value} {x : List B8} (h : Each w B us ll) (hu : Elem w B u x) : Each w B (us ++ [u]) (ll ++ [x]) := by
  refine ⟨by simp [h.1], fun j v y h1 h2 => ?_⟩
  rw [List.getElem?_append] at h1 h2
  by_cases hj : j < us.length
  · rw [if_pos hj] at h1
    rw [if_pos (by rw [← h.1]; exact hj)] at h2
    exact h.2 j v y h1 h2
  · rw [if_neg hj] at h1
    rw [if_neg (by rw [← h.1]; exact hj)] at h2
    have e1 : j - us.length = 0 := by
      have := (List.getElem?_eq_some_iff.1 h1).1
      simp at this; omega
    rw [← h.1, e1] at h2
    rw [e1] at h1
    simp at h1 h2
    subst h1 h2
    exact hu
theorem Each.one {w : World} {B : Nat} {us : List Value} {ll : List (List B8)} (h : Each w B us ll) : ∀ u ∈ us, u.oneCell' = true := by
  intro u hu
  obtain ⟨j, hj, rfl⟩ := List.getElem_of_mem hu
  exact (h.2 j _ _ (List.getElem?_eq_getElem hj) (List.getElem?_eq_getElem (by rw [← h.1]; exact hj))).one

/-- The slice value v reads as the list of lists ll. -/
def Lists (w : World) (v : Value) (ll : List (List B8)) : Prop :=
  ∃ A c us, v = .slice A ll.length c ∧ ll.length ≤ c ∧ c ≤ maxLen ∧ (A = none → c = 0) ∧ Each w w.heap.size us ll ∧ (0 < ll.length → ∃ g o, A = some ⟨g, o, none⟩ ∧ ∀ j u, us[j]? = some u → w.cell? ⟨g, o + j, none⟩ = some u)
theorem Lists.below {w w' : World} {B : Nat} {v : Value} {ll : List (List B8)} (h : Lists w v ll) (hb : Below B w w') (hB : w.heap.size ≤ B) : Lists w' v ll := by
  obtain ⟨A, c, us, hv, h1, h2, h3, h4, h5⟩ := h
  have hb' := hb.mono hB
  refine ⟨A, c, us, hv, h1, h2, h3, ⟨h4.1, fun j u x e1 e2 => Bytes.mono ((h4.2 j u x e1 e2).keep hb' (Kb.below hb')) fun g hg _ => .inl hg⟩, fun hl => ?_⟩
  obtain ⟨g, o, e, hc⟩ := h5 hl
  refine ⟨g, o, e, fun j u hj => ?_⟩
  have := hc j u hj
  rw [hb'.cell (p := ⟨g, o + j, none⟩) (block_lt_of_cell this)]
  exact this
theorem Lists.nil (w : World) : Lists w (.slice none 0 0) [] := ⟨none, 0, [], rfl, by simp, by simp [maxLen], fun _ => rfl, Each.nil _ _, fun h => absurd h (by simp)⟩
theorem Lists.alloc {w : World} {v : Value} {ll : List (List B8)} (h : Lists w v ll) (o : Obj) : Lists (w.alloc o) v ll := h.below ((Below.refl w.heap.size w).alloc (Nat.le_refl _) o) (Nat.le_refl _)
theorem Lists.drew {w : World} {v : Value} {ll : List (List B8)} (h : Lists w v ll) : Lists w.drew v ll := h
theorem Lists.drewN {w : World} {v : Value} {ll : List (List B8)} (h : Lists w v ll) (n : Nat) : Lists (w.drewN n) v ll := h
/-- The element at j: its cell, and what it reads as. -/
theorem Lists.get {w : World} {A : Option Addr} {n c : Nat} {ll : List (List B8)} (h : Lists w (.slice A n c) ll) : n = ll.length ∧ ll.length ≤ c ∧ c ≤ maxLen ∧ (∀ j (hj : j < ll.length), ∃ g o A' c', A = some ⟨g, o, none⟩ ∧ w.cell? ⟨g, o + j, none⟩ = some (.slice A' ll[j].length c') ∧ Bytes w (fun _ => True) (.slice A' ll[j].length c') ll[j] ∧ g < w.heap.size) := by
  obtain ⟨A0, c0, us, hv, h1, h2, h3, h4, h5⟩ := h
  injection hv with e1 e2 e3
  subst e1 e2 e3
  refine ⟨rfl, h1, h2, fun j hj => ?_⟩
  obtain ⟨g, o, e, hc⟩ := h5 (by omega)
  have hj' : j < us.length := by rw [h4.1]; exact hj
  have hu := h4.2 j us[j] ll[j] (List.getElem?_eq_getElem hj') (List.getElem?_eq_getElem hj)
  have hcj := hc j us[j] (List.getElem?_eq_getElem hj')
  obtain ⟨A', c', hv', -⟩ := id hu
  rw [hv'] at hcj hu
  exact ⟨g, o, A', c', e, hcj, hu.bytes, block_lt_of_cell (a := ⟨g, o + j, none⟩) hcj⟩
/-- A row of the call's own whose values read as lists. -/
theorem Lists.of_own {w : World} {base B : Nat} {v : Value} {us : List Value} {ll : List (List B8)} (h : w.ownsRow base 25 1 v us.length us) (he : Each w B us ll) : Lists w v ll := by
  have he' : Each w w.heap.size us ll := ⟨he.1, fun j u x e1 e2 => Bytes.mono (he.2 j u x e1 e2) fun g hg _ => .inl hg⟩
  rcases h.2 with ⟨rfl, hn⟩ | ⟨g, cap, cur, rfl, hg, hh, hc, hm, hs, ht⟩
  · have : us = [] := List.eq_nil_of_length_eq_zero hn
    subst this
    have : ll = [] := List.eq_nil_of_length_eq_zero he.1.symm
    subst this
    exact Lists.nil _
  · refine ⟨_, cap, us, by rw [he.1], by rw [← he.1]; exact hc, hm, fun h => (by cases h), he', fun _ => ⟨g, 0, rfl, fun j u hj => ?_⟩⟩
    rw [cell_of_row w g (0 + j) cur _ _ hh, Nat.zero_add]
    rw [← ht, List.getElem?_take] at hj
    split at hj
    · simpa using hj
    · cases hj

theorem sliceInfo : (Try.prog.info? 25).map (fun i => (i.zero, i.size, i.bytes)) = some (some (.slice none 0 0), 1, 24) := by kernel_rfl
/-- append(own, values...) -/
theorem run_append_vals {w : World} (ty : TypeId) (base : Nat) (v : Value) (us : List Value) (hown : w.ownsRow base 25 1 v us.length us)
    (ad : Addr) (n c : Nat) (ys : List Value) (hn : ys.length = n) (hcells : ∀ j u, ys[j]? = some u → w.cell? (ad.add j) = some u) (hone : ∀ u ∈ ys, u.oneCell' = true) (h47 : us.length + ys.length ≤ 1000000000) (hbase : base ≤ w.heap.size) :
    ∃ v' w', (Builtin.append_ #[70, 70] ty #[v, .slice (some ad) n c]).run Try.prog w = .ok v' w' ∧ w'.ownsRow base 25 1 v' (us ++ ys).length (us ++ ys) ∧ Below base w w' ∧ Kb w w' ∧ w.grownBy w' v.ownBlock := by
  subst hn
  obtain ⟨i0, hi, hz0, hz1, hz2⟩ := info_parts sliceInfo
  obtain ⟨v', w', hrun, h1, h2⟩ := run_append_own w base 70 ty 25 i0 (.slice none 0 0) 1 24 Try.underlying70 hi hz0 hz1 hz2 rfl (by decide) v us.length us hown ad ys.length c ys (by simp) hcells hone (by unfold maxLen; omega) (by omega) hbase
  refine ⟨v', w', hrun, by rw [List.length_append]; exact h1, (Below.refl _ _).grown h2.1 hbase (fun k hk => (hown.lt k hk).1), Kb.grown h2.1 fun g hg cs fr => ?_, h2.1⟩
  rcases hown.2 with ⟨rfl, _⟩ | ⟨g', cap, cur, rfl, hge, hh, _⟩
  · simp [Value.ownBlock] at hg
  · simp [Value.ownBlock] at hg
    subst hg
    rw [hh]
    intro e
    injection e with e
    injection e with _ e _
    exact absurd e (by decide)
/-- append(own, u), u laid in a block of its own. -/
theorem wpList_append_elem {w : World} {ops : Array Oper} {rest : List Oper} {o : Oper} {a : Act} {R : Exit → Act → World → Prop} (hw : Region.wanted o (yielded ops a.tmps) = true) (s x : Operand)
    (ho : o.op = .call { callee := .builtin .append, args := #[s, x], argTypes := #[70, 70] })
    (base : Nat) (v : Value) (us : List Value) (hs : a.eval s = v) (hown : w.ownsRow base 25 1 v us.length us) (u : Value) (hu : u.oneCell' = true)
    (g c : Nat) (hx : a.eval x = .slice (some ⟨g, 0, none⟩) 1 c) (hg : w.cell? ⟨g, 0, none⟩ = some u) (h47 : us.length ≤ 900000000) (hbase : base ≤ w.heap.size)
    (h : ∀ v' w', w'.ownsRow base 25 1 v' (us ++ [u]).length (us ++ [u]) → Below base w w' → Kb w w' → w.grownBy w' v.ownBlock → wpList Try.prog ops R rest (a.put o.dst v') w') : wpList Try.prog ops R (o :: rest) a w := by
  obtain ⟨v', w', hrun, h1, h2, h3, h4⟩ := run_append_vals o.type base v us hown ⟨g, 0, none⟩ 1 c [u] rfl (fun j y hj => by
    match j, hj with
    | 0, hj => simp at hj; subst hj; rw [Addr.add_mid]; exact hg
    | j + 1, hj => simp at hj) (fun y hy => by simp at hy; subst hy; exact hu) (by simp; omega) hbase
  show if Region.wanted o (yielded ops a.tmps) then _ else _
  rw [if_pos hw]
  left
  unfold Oper.wp
  simp [execOp, ho, resolve, invoke, builtin, hs, hx, hrun, Result.andThen]
  exact h v' w' h1 h2 h3 h4
/-- .. as a step of a drawn region. -/
theorem step_append_elem {w : World} {ops : Array Oper} {o : Oper} {a : Act} {K : Act → World → Prop} {R : Exit → Act → World → Prop} {E : Prop} (hw : Region.wanted o (yielded ops a.tmps) = true) (s x : Operand)
    (ho : o.op = .call { callee := .builtin .append, args := #[s, x], argTypes := #[70, 70] })
    (base : Nat) (v : Value) (us : List Value) (hs : a.eval s = v) (hown : w.ownsRow base 25 1 v us.length us) (u : Value) (hu : u.oneCell' = true)
    (g c : Nat) (hx : a.eval x = .slice (some ⟨g, 0, none⟩) 1 c) (hg : w.cell? ⟨g, 0, none⟩ = some u) (h47 : us.length ≤ 900000000) (hbase : base ≤ w.heap.size)
    (h : ∀ v' w', w'.ownsRow base 25 1 v' (us ++ [u]).length (us ++ [u]) → Below base w w' → Kb w w' → w.grownBy w' v.ownBlock → K (a.put o.dst v') w') :
    if Region.wanted o (yielded ops a.tmps) = true then Oper.wp Try.prog o a w K R else E := by
  rw [if_pos hw]
  obtain ⟨v', w', hrun, h1, h2, h3, h4⟩ := run_append_vals o.type base v us hown ⟨g, 0, none⟩ 1 c [u] rfl (fun j y hj => by
    match j, hj with
    | 0, hj => simp at hj; subst hj; rw [Addr.add_mid]; exact hg
    | j + 1, hj => simp at hj) (fun y hy => by simp at hy; subst hy; exact hu) (by simp; omega) hbase
  unfold Oper.wp
  simp [execOp, ho, resolve, invoke, builtin, hs, hx, hrun, Result.andThen]
  exact h v' w' h1 h2 h3 h4
/-- The length of a slice value. -/
def vlen : Value → Nat
  | .slice _ n _ => n
  | _ => 0
end Go.Proofs.Ytodmfippjcfbbaa
namespace Go.Proofs.Ytodmfippjcfbbaa
open Go Go.RowKit Sh Leaf

/-- What lay in w lies in W, and blocks of bytes are kept. -/
structure Ctx (w W : World) : Prop where
  low : Below w.heap.size w W
  kb : Kb w W
theorem Ctx.refl (w : World) : Ctx w w := ⟨Below.refl _ _, Kb.refl _⟩
theorem Ctx.alloc {w W : World} (h : Ctx w W) (o : Obj) : Ctx w (W.alloc o) := ⟨h.low.alloc h.low.size o, h.kb.trans (Kb.alloc _ _)⟩
theorem Ctx.drew {w W : World} (h : Ctx w W) : Ctx w W.drew := ⟨h.low.drew, h.kb⟩
theorem Ctx.trans {w W X : World} (h : Ctx w W) (h1 : Below w.heap.size W X) (h2 : Kb W X) : Ctx w X := ⟨h.low.trans h1, h.kb.trans h2⟩
theorem blk_new (W : World) (o : Obj) (g : Nat) (hg : g = W.heap.size) : (W.alloc o).heap[g]? = some o := by subst hg; exact heap_alloc_new W o
theorem blk_alloc {W : World} {g : Nat} {o' : Obj} (h : W.heap[g]? = some o') (o : Obj) : (W.alloc o).heap[g]? = some o' := (Below.heap_alloc W o g (Array.getElem?_eq_some_iff.1 h).1).trans h
theorem blk_drew {W : World} {g : Nat} {o' : Obj} (h : W.heap[g]? = some o') : W.drew.heap[g]? = some o' := h
theorem blk_grown {W w1 : World} {v : Value} {g : Nat} {o : Obj} (hg : W.grownBy w1 v.ownBlock) (h : W.heap[g]? = some o) (hn : v.ownBlock ≠ some g) : w1.heap[g]? = some o :=
  (hg.block g (Array.getElem?_eq_some_iff.1 h).1 (fun e => hn e.symm)).trans h
theorem cell_of_blk {W : World} {g : Nat} {u : Value} {t : TypeId} (h : W.heap[g]? = some (.cells #[u] t (0, 0))) : W.cell? ⟨g, 0, none⟩ = some u := by rw [cell_of_row W g 0 _ t (0, 0) h]; rfl
theorem own_empty {W : World} {base g : Nat} (h : W.heap[g]? = some (.cells #[] 25 (0, 0))) (hb : base ≤ g) : W.ownsRow base 25 1 (.slice (some ⟨g, 0, none⟩) 0 0) 0 [] :=
  ⟨rfl, .inr ⟨g, 0, #[], rfl, hb, h, Nat.le_refl _, by unfold maxLen; omega, rfl, rfl⟩⟩
theorem own_not_bytes {W : World} {base : Nat} {v : Value} {n : Nat} {us : List Value} (h : W.ownsRow base 25 1 v n us) : ∀ g, v.ownBlock = some g → ∀ cs fr, W.heap[g]? ≠ some (.cells cs 5 fr) := by
  intro g hg cs fr
  rcases h.2 with ⟨rfl, _⟩ | ⟨g', cap, cur, rfl, hge, hh, _⟩
  · simp [Value.ownBlock] at hg
  · simp [Value.ownBlock] at hg
    subst hg
    rw [hh]
    intro e
    injection e with e
    injection e with _ e _
    exact absurd e (by decide)

/-- The slice value v has the values us. -/
def Vals (W : World) (v : Value) (us : List Value) : Prop :=
  ∃ A c, v = .slice A us.length c ∧ us.length ≤ c ∧ (A = none → c = 0) ∧ (∀ u ∈ us, u.oneCell' = true) ∧ (0 < us.length → ∃ g o, A = some ⟨g, o, none⟩ ∧ ∀ (j : Nat) (u : Value), us[j]? = some u → W.cell? ⟨g, o + j, none⟩ = some u)
theorem Vals.ctx {w W : World} {v : Value} {us : List Value} (h : Vals w v us) (hc : Ctx w W) : Vals W v us := by
  obtain ⟨A, c, h1, h2, h3, h4, h5⟩ := h
  refine ⟨A, c, h1, h2, h3, h4, fun h0 => ?_⟩
  obtain ⟨g, o, e, hcell⟩ := h5 h0
  exact ⟨g, o, e, fun j u hj => by rw [hc.low.cell (p := ⟨g, o + j, none⟩) (block_lt_of_cell (hcell j u hj))]; exact hcell j u hj⟩
theorem Lists.vals {w : World} {v : Value} {ll : List (List B8)} (h : Lists w v ll) : ∃ us, Vals w v us ∧ Each w w.heap.size us ll := by
  obtain ⟨A, c, us, h1, h2, h3, h4, h5, h6⟩ := h
  refine ⟨us, ⟨A, c, by rw [h5.1]; exact h1, by rw [h5.1]; exact h2, h4, h5.one, fun h0 => h6 (by rw [← h5.1]; exact h0)⟩, h5⟩
/-- append(own, src...) -/
theorem step_append_vals {w : World} {ops : Array Oper} {o : Oper} {a : Act} {K : Act → World → Prop} {R : Exit → Act → World → Prop} {E : Prop} (hw : Region.wanted o (yielded ops a.tmps) = true) (s x : Operand)
    (ho : o.op = .call { callee := .builtin .append, args := #[s, x], argTypes := #[70, 70] })
    (base : Nat) (v : Value) (us : List Value) (hs : a.eval s = v) (hown : w.ownsRow base 25 1 v us.length us) (vs : Value) (ys : List Value)
    (hx : a.eval x = vs) (hv : Vals w vs ys) (h47 : us.length + ys.length ≤ 900000000) (hbase : base ≤ w.heap.size)
    (h : ∀ v' w', w'.ownsRow base 25 1 v' (us ++ ys).length (us ++ ys) → Below base w w' → Kb w w' → w.grownBy w' v.ownBlock → K (a.put o.dst v') w') :
    if Region.wanted o (yielded ops a.tmps) = true then Oper.wp Try.prog o a w K R else E := by
  rw [if_pos hw]
  obtain ⟨A, c, rfl, h2, h3, h4, h5⟩ := hv
  unfold Oper.wp
  cases A with
  | none =>
    have h0 := h3 rfl
    subst h0
    have hy : ys = [] := List.eq_nil_of_length_eq_zero (by omega)
    subst hy
    obtain ⟨i0, hi, hz0, hz1, hz2⟩ := info_parts sliceInfo
    have hrun := run_append_owned_none (P := Try.prog) (w := w) base 70 o.type 25 i0 1 Try.underlying70 hi v us.length us hown
    simp [execOp, ho, resolve, invoke, builtin, hs, hx, hrun, Result.andThen]
    exact h v w (by simpa using hown) (Below.refl _ _) (Kb.refl _) ⟨rfl, rfl, rfl, Nat.le_refl _, fun _ _ _ => rfl⟩
  | some ad =>
    have hcells : ∀ j u, ys[j]? = some u → w.cell? (ad.add j) = some u := fun j u hj => by
      have hlt := (List.getElem?_eq_some_iff.1 hj).1
      obtain ⟨g, o', e, hcell⟩ := h5 (by omega)
      injection e with e
      subst e
      rw [Addr.add_mid]
      exact hcell j u hj
    obtain ⟨v', w', hrun, h1, h2, h3, h4⟩ := run_append_vals o.type base v us hown ad ys.length c ys rfl hcells h4 (by omega) hbase
    simp [execOp, ho, resolve, invoke, builtin, hs, hx, hrun, Result.andThen]
    exact h v' w' h1 h2 h3 h4
/-- append(own, u), the value u found in its block. -/
theorem step_append_found {w : World} {ops : Array Oper} {o : Oper} {a : Act} {K : Act → World → Prop} {R : Exit → Act → World → Prop} {E : Prop} (hw : Region.wanted o (yielded ops a.tmps) = true) (s x : Operand)
    (ho : o.op = .call { callee := .builtin .append, args := #[s, x], argTypes := #[70, 70] })
    (base : Nat) (v : Value) (us : List Value) (hs : a.eval s = v) (hown : w.ownsRow base 25 1 v us.length us)
    (g c : Nat) (hx : a.eval x = .slice (some ⟨g, 0, none⟩) 1 c) (u : Value) (t : TypeId) (hg : w.heap[g]? = some (.cells #[u] t (0, 0))) (hu : u.oneCell' = true) (h47 : us.length ≤ 900000000) (hbase : base ≤ w.heap.size)
    (h : ∀ v' w', w'.ownsRow base 25 1 v' (us ++ [u]).length (us ++ [u]) → Below base w w' → Kb w w' → w.grownBy w' v.ownBlock → K (a.put o.dst v') w') :
    if Region.wanted o (yielded ops a.tmps) = true then Oper.wp Try.prog o a w K R else E :=
  step_append_elem hw s x ho base v us hs hown u hu g c hx (cell_of_blk hg) h47 hbase h
end Go.Proofs.Ytodmfippjcfbbaa
namespace Go.Proofs.Ytodmfippjcfbbaa
open Go Go.RowKit Sh Leaf

/-- The length N that is left, by the test's way; the list p that is left. -/
theorem cut_cases {A : Option Addr} {l : List B8} {c : Nat} {Q : Nat → Prop} {w : World} (hb : Bytes w Q (.slice A l.length c) l) (m : Nat) :
    ∃ N : Nat, ((m < l.length ∧ N = m) ∨ (l.length < m ∧ N = l.length) ∨ (l.length ≤ m ∧ m ≤ l.length ∧ N = l.length)) ∧ N ≤ c ∧ N ≤ m ∧ ∃ p : List B8, Bytes w Q (.slice A N c) p ∧ p.length = N := by
  have hp := hb.cut m
  obtain ⟨A0, c0, e0, h1, h2, h3, h4⟩ := id hb
  cases e0
  rcases Nat.lt_trichotomy l.length m with h | h | h
  · exact ⟨_, .inr (.inl ⟨h, rfl⟩), h1, by omega, l, hb, rfl⟩
  · exact ⟨_, .inr (.inr ⟨by omega, by omega, rfl⟩), h1, by omega, l, hb, rfl⟩
  · have e : (l.take m).length = m := by simp; omega
    rw [e] at hp
    exact ⟨_, .inl ⟨h, rfl⟩, by omega, by omega, _, hp, e⟩
end Go.Proofs.Ytodmfippjcfbbaa
