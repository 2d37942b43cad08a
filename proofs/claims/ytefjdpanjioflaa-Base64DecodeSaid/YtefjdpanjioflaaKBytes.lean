/-
  Slices of bytes: a slice value that reads as a list of bytes; append to own rows; parts of slices.
-/
import Derived.Test.YtefjdpanjioflaaKMem
import Derived.Laws.AppendOwn
import Derived.Laws.AppendOwnNone
import Derived.OwnWalk
import Derived.WalkSpells
import Derived.Deep.DeepMust
import Derived.StillTailTactics
import Derived.Laws.CopyOwn
import Derived.Deep.RegionHeld3
namespace Go.Proofs.Ytefjdpanjioflaa
open Go Go.RowKit Sh Leaf

/-- The slice value v reads as the bytes l; its cells, if there are any, lie in a block of which Q holds. -/
def Bytes (w : World) (Q : Nat → Prop) (v : Value) (l : List B8) : Prop :=
  ∃ A c, v = .slice A l.length c ∧ l.length ≤ c ∧ c ≤ maxLen ∧ (A = none → c = 0) ∧ (0 < l.length → ∃ g o, A = some ⟨g, o, none⟩ ∧ Q g ∧ ∀ j x, l[j]? = some x → w.cell? ⟨g, o + j, none⟩ = some (byt x))
section
variable {w w' : World} {Q Q' : Nat → Prop} {v : Value} {l : List B8}
theorem Bytes.keep (h : Bytes w Q v l) (hk : ∀ g, g < w.heap.size → Q g → w'.heap[g]? = w.heap[g]?) : Bytes w' Q v l := by
  obtain ⟨A, c, hv, h1, h2, h3, h4⟩ := h
  refine ⟨A, c, hv, h1, h2, h3, fun hl => ?_⟩
  obtain ⟨g, o, hA, hq, hc⟩ := h4 hl
  refine ⟨g, o, hA, hq, fun j x hj => ?_⟩
  have := hc j x hj
  rw [← this]
  exact World.cell?_of_block (w := w) (hk g (block_lt_of_cell this) hq)
theorem Bytes.mono (h : Bytes w Q v l) (hq : ∀ g, g < w.heap.size → Q g → Q' g) : Bytes w Q' v l := by
  obtain ⟨A, c, hv, h1, h2, h3, h4⟩ := h
  refine ⟨A, c, hv, h1, h2, h3, fun hl => ?_⟩
  obtain ⟨g, o, hA, hg, hc⟩ := h4 hl
  have h0 : (0 : Nat) < l.length := hl
  have := hc 0 l[0] (by simp [h0])
  exact ⟨g, o, hA, hq g (block_lt_of_cell this) hg, hc⟩
theorem Bytes.alloc (h : Bytes w Q v l) (o : Obj) : Bytes (w.alloc o) Q v l := h.keep fun g hg _ => Below.heap_alloc w o g hg
theorem Bytes.drew (h : Bytes w Q v l) : Bytes w.drew Q v l := h
theorem Bytes.drewN (h : Bytes w Q v l) (n : Nat) : Bytes (w.drewN n) Q v l := h
theorem Bytes.below {B : Nat} (h : Bytes w Q v l) (hb : Below B w w') (hB : w.heap.size ≤ B) : Bytes w' Q v l := h.keep fun g hg _ => hb.block g (by omega)
theorem Bytes.set (h : Bytes w Q v l) {a : Addr} (ha : ∀ g, Q g → g ≠ a.block) (x : Value) : Bytes (w.setCell a x) Q v l := h.keep fun g _ hq => heap_setCell_other w a g x (ha g hq)
theorem Bytes.setRow (h : Bytes w Q v l) {b : Nat} (ha : ∀ g, Q g → g ≠ b) (cs : Array Value) : Bytes (w.setRow b cs) Q v l := h.keep fun g _ hq => setRow_other w b g cs (ha g hq)
theorem Bytes.grown {row : Option Nat} (h : Bytes w Q v l) (hg : w.grownBy w' row) (hr : ∀ g, Q g → some g ≠ row) : Bytes w' Q v l := h.keep fun g hl hq => hg.block g hl (hr g hq)
theorem Bytes.nil (w : World) (Q : Nat → Prop) : Bytes w Q (.slice none 0 0) [] := ⟨none, 0, rfl, by simp, by simp [maxLen], fun _ => rfl, fun h => absurd h (by simp)⟩
end
/-- What a row of the call's own holds. -/
theorem Bytes.of_own {w : World} {base : Nat} {v : Value} {l : List B8} (h : w.ownsRow base 5 1 v l.length (l.map byt)) : Bytes w (fun g => base ≤ g) v l := by
  obtain ⟨_, h2⟩ := h
  rcases h2 with ⟨rfl, hn⟩ | ⟨g, cap, cur, rfl, hg, hh, hc, hm, hs, ht⟩
  · have : l = [] := List.eq_nil_of_length_eq_zero hn
    subst this
    exact Bytes.nil _ _
  · refine ⟨_, cap, rfl, hc, hm, fun h => (by cases h), fun _ => ⟨g, 0, rfl, hg, fun j x hj => ?_⟩⟩
    rw [cell_of_row w g (0 + j) cur _ _ hh, Nat.zero_add]
    have h1 : (l.map byt)[j]? = some (byt x) := by rw [List.getElem?_map, hj]; rfl
    rw [← ht, List.getElem?_take] at h1
    split at h1
    · simpa using h1
    · cases h1
theorem byteInfo : (Try.prog.info? 5).map (fun i => (i.zero, i.size, i.bytes)) = some (some (.int .u8 0), 1, 1) := by kernel_rfl
theorem own_lit (w : World) (base : Nat) (l : List B8) (hb : base ≤ w.heap.size) (hl : l.length ≤ 1000) :
    (w.alloc (.cells (l.map byt).toArray 5)).ownsRow base 5 1 (.slice (some ⟨w.heap.size, 0, none⟩) l.length l.length) l.length (l.map byt) := by
  refine ⟨by simp, .inr ⟨w.heap.size, l.length, (l.map byt).toArray, rfl, hb, heap_alloc_new w _, Nat.le_refl _, by unfold maxLen; omega, by simp, ?_⟩⟩
  simp [List.take_of_length_le]
theorem own_lit_at (w : World) (base g : Nat) (l : List B8) (hg : g = w.heap.size) (hb : base ≤ g) (hl : l.length ≤ 1000) :
    (w.alloc (.cells (l.map byt).toArray 5)).ownsRow base 5 1 (.slice (some ⟨g, 0, none⟩) l.length l.length) l.length (l.map byt) := by
  subst hg; exact own_lit w base l hb hl
theorem byt_one (l : List B8) : ∀ x ∈ l.map byt, x.oneCell' = true := by
  intro x hx
  obtain ⟨y, _, rfl⟩ := List.mem_map.1 hx
  rfl

/-- One byte in a block of its own. -/
theorem bytes_one (w : World) (z : Int) (x : B8) (h : z = bv x) : Bytes (w.alloc (.cells #[.int .u8 z] 5)) (fun _ => True) (.slice (some ⟨w.heap.size, 0, none⟩) 1 1) [x] := by
  subst h
  refine ⟨_, 1, rfl, by simp, by simp [maxLen], fun h => (by cases h), fun _ => ⟨_, _, rfl, trivial, fun j y hj => ?_⟩⟩
  rw [cell_of_row _ _ _ _ _ _ (heap_alloc_new w _)]
  match j, hj with
  | 0, hj => simp at hj; subst hj; rfl
  | j + 1, hj => simp at hj
theorem be_byte (n m : Nat) : (n : Int) / 2 ^ (8 * m) % 256 = bv (BitVec.ofNat 8 (n / 256 ^ m)) := by
  have e : 256 ^ m = 2 ^ (8 * m) := by rw [Nat.pow_mul]
  rw [bv_ofNat, e]
  simp
/-- append(own, src...), whatever src is. -/
theorem wpList_append_bytes {w : World} {ops : Array Oper} {rest : List Oper} {o : Oper} {a : Act} {R : Exit → Act → World → Prop} (hgd : o.guard = none) (s x : Operand)
    (ho : o.op = .call { callee := .builtin .append, args := #[s, x], argTypes := #[22, 22] })
    (base : Nat) (v : Value) (xs : List B8) (hs : a.eval s = v) (hown : w.ownsRow base 5 1 v xs.length (xs.map byt))
    (Q : Nat → Prop) (v2 : Value) (ys : List B8) (hx : a.eval x = v2) (hr : Bytes w Q v2 ys) (h47 : xs.length + ys.length ≤ 140737488355328) (hbase : base ≤ w.heap.size)
    (h : ∀ v' w', w'.ownsRow base 5 1 v' (xs ++ ys).length ((xs ++ ys).map byt) → Below base w w' → wpList Try.prog ops R rest (a.put o.dst v') w') : wpList Try.prog ops R (o :: rest) a w := by
  have hbel : ∀ w', w.grownBy w' v.ownBlock → Below base w w' := fun w' hg => (Below.refl _ _).grown hg hbase fun k hk => by
    rcases hown.2 with ⟨rfl, _⟩ | ⟨g, cap, cur, rfl, hge, _⟩
    · simp [Value.ownBlock] at hk
    · simp [Value.ownBlock] at hk; omega
  obtain ⟨i0, hi, hz0, hz1, hz2⟩ := info_parts byteInfo
  obtain ⟨A, c, hv, hc1, hc2, hc3, hc4⟩ := hr
  have hlen : (xs ++ ys).length = xs.length + ys.length := by simp
  have hmap : (xs ++ ys).map byt = xs.map byt ++ ys.map byt := by simp
  rw [hlen, hmap] at h
  cases A with
  | none =>
    have h0 := hc3 rfl
    subst h0
    have hy : ys = [] := List.eq_nil_of_length_eq_zero (by omega)
    subst hy
    refine wpList_append_own_none hgd s x 22 ho base 5 i0 1 Try.underlying22 hi v xs.length (xs.map byt) hs hown (by rw [hx, hv]; rfl) ?_
    exact h v w (by simpa using hown) (Below.refl _ _)
  | some ad =>
    refine wpList_append_own w hgd s x 22 ho base 5 i0 (.int .u8 0) 1 1 Try.underlying22 hi hz0 hz1 hz2 rfl (by decide) v xs.length (xs.map byt) hs hown ad ys.length c (ys.map byt) (by rw [hx, hv]) (by simp) ?_ (byt_one ys)
      (by unfold maxLen; omega) (by omega) hbase (fun v' w' h1 h2 _ => h v' w' h1 (hbel w' h2))
    intro j b hb
    have hj : j < ys.length := by
      have := (List.getElem?_eq_some_iff.1 hb).1
      simpa using this
    obtain ⟨g, o, hA, _, hcell⟩ := hc4 (by omega)
    obtain rfl := Option.some.inj hA
    rw [Addr.add_mid]
    rw [List.getElem?_map, List.getElem?_eq_getElem hj] at hb
    obtain rfl := Option.some.inj hb
    exact hcell j _ (List.getElem?_eq_getElem hj)
section
variable {P : Program} {ops : Array Oper} {w : World} {rest : List Oper} {o : Oper} {a : Act}
theorem wpList_slice_run {Q : Exit → Act → World → Prop} (hgd : o.guard = none) (t : TypeId) (x : Operand) (lo hi mx : Option Operand) (ho : o.op = .slice t x lo hi mx) (v : Value)
    (hr : (Instr.sliceAt t (a.eval x) (lo.map a.eval) (hi.map a.eval) (mx.map a.eval)).run P w = .ok v w) (h : wpList P ops Q rest (a.put o.dst v) w) : wpList P ops Q (o :: rest) a w :=
  wpList_plain hgd fun K hK => by
    unfold Oper.wp execOp
    simp only [ho, Sem.run_bind, Sem.run_pure, hr, Result.andThen_ok]
    exact hK _ _ h
theorem wpStill_value {Q : Act → Prop} (hw : Region.wanted o (yielded ops a.tmps) = true) (v : Value) (hr : (execOp a.eval o).run P w = .ok (.value v) w) (h : wpStill P ops w Q rest (a.put o.dst v)) : wpStill P ops w Q (o :: rest) a := by
  show if Region.wanted o (yielded ops a.tmps) = true then _ else _
  rw [if_pos hw]
  unfold Oper.still
  rw [hr]
  exact ⟨rfl, h⟩
theorem wpStill_slice_run {Q : Act → Prop} (hw : Region.wanted o (yielded ops a.tmps) = true) (t : TypeId) (x : Operand) (lo hi mx : Option Operand) (ho : o.op = .slice t x lo hi mx) (v : Value)
    (hr : (Instr.sliceAt t (a.eval x) (lo.map a.eval) (hi.map a.eval) (mx.map a.eval)).run P w = .ok v w) (h : wpStill P ops w Q rest (a.put o.dst v)) : wpStill P ops w Q (o :: rest) a :=
  wpStill_value hw v (by unfold execOp; simp only [ho, Sem.run_bind, Sem.run_pure, hr, Result.andThen_ok]) h
theorem wpStill_load_run {Q : Act → Prop} (hw : Region.wanted o (yielded ops a.tmps) = true) (ty : TypeId) (x : Operand) (ho : o.op = .load ty x) (g off : Nat) (hx : a.eval x = .pointer (some ⟨g, off, none⟩))
    (cs : List Value) (d : TypeDesc) (hc : w.rangeAt g off cs) (hu : P.underlying ty = some d) (hd : d.isRow = true) (hi : (P.info? ty).map (·.size) = some cs.length)
    (h : wpStill P ops w Q rest (a.put o.dst (.agg cs.toArray))) : wpStill P ops w Q (o :: rest) a :=
  wpStill_value hw _ (by unfold execOp; simp only [ho, hx, Instr.loadAt, Instr.sureAddr, Sem.run_bind, Sem.run_pure, Result.andThen_ok, run_loadVar_mid w g off ty cs d hc hu hd hi]) h
end

theorem elem_bytes : Try.prog.underlying 22 = some (.slice (Try.prog.elem 22)) := by kernel_rfl
theorem size_byte (W : World) : (sizeOf (Try.prog.elem 22)).run Try.prog W = .ok 1 W := run_sizeOf_one (by kernel_rfl) W
/-- s[k:] -/
theorem run_cut_from (A : Option Addr) (len c k : Nat) (hk : k ≤ len) (W : World) :
    (Instr.sliceAt 22 (.slice A len c) (some (.int .i64 (k : Int))) none none).run Try.prog W = .ok (.slice (if c = k then A else A.map (·.add k)) (len - k) (c - k)) W := by
  rw [run_sliceAt_slice W _ _ _ _ _ elem_bytes, run_slice_l W 22 A len c elem_bytes .i64 (k : Int) (by omega) (by omega), size_byte]
  simp [sliced, Result.andThen]
/-- s[:k] -/
theorem run_cut_to (A : Option Addr) (len c k : Nat) (hk : k ≤ c) (W : World) :
    (Instr.sliceAt 22 (.slice A len c) none (some (.int .i64 (k : Int))) none).run Try.prog W = .ok (.slice A k c) W := by
  rw [run_sliceAt_slice W _ _ _ _ _ elem_bytes, run_slice_h W 22 A len c elem_bytes .i64 (k : Int) (by omega) (by omega), size_byte]
  have e : Option.map (fun x : Addr => x.add 0) A = A := by
    cases A with
    | none => rfl
    | some a => simp [Addr.add]
  simp [sliced, Result.andThen, e]
/-- s[i:j] -/
theorem run_cut_mid (A : Option Addr) (len c i j : Nat) (hi : i ≤ j) (hj : j ≤ c) (W : World) :
    (Instr.sliceAt 22 (.slice A len c) (some (.int .i64 (i : Int))) (some (.int .i64 (j : Int))) none).run Try.prog W = .ok (.slice (if c = i then A else A.map (·.add i)) (j - i) (c - i)) W := by
  rw [run_sliceAt_slice W _ _ _ _ _ elem_bytes, run_slice_lh W 22 A len c elem_bytes .i64 .i64 (i : Int) (j : Int) (by omega) (by omega) (by omega), size_byte]
  simp [sliced, Result.andThen]

section
variable {w : World} {Q : Nat → Prop} {l : List B8}
theorem Bytes.drop {A : Option Addr} {len c : Nat} (h : Bytes w Q (.slice A len c) l) (k : Nat) (hk : k ≤ l.length) : Bytes w Q (.slice (if c = k then A else A.map (·.add k)) (len - k) (c - k)) (l.drop k) := by
  obtain ⟨A', c', hv, h1, h2, h3, h4⟩ := h
  injection hv with ha hb hc
  subst ha hb hc
  refine ⟨_, _, by rw [List.length_drop], by rw [List.length_drop]; omega, by omega, fun e => ?_, fun hl => ?_⟩
  · by_cases hck : c = k
    · omega
    · rw [if_neg hck] at e
      have : A = none := by cases A <;> simp_all
      have := h3 this
      omega
  · rw [List.length_drop] at hl
    obtain ⟨g, o, rfl, hq, hcell⟩ := h4 (by omega)
    refine ⟨g, o + k, ?_, hq, fun j x hj => ?_⟩
    · rw [if_neg (by omega)]; simp [Addr.add_mid]
    · rw [List.getElem?_drop] at hj
      have := hcell _ x hj
      rwa [← Nat.add_assoc] at this
theorem Bytes.take {A : Option Addr} {len c : Nat} (h : Bytes w Q (.slice A len c) l) (k : Nat) (hk : k ≤ l.length) : Bytes w Q (.slice A k c) (l.take k) := by
  obtain ⟨A', c', hv, h1, h2, h3, h4⟩ := h
  injection hv with ha hb hc
  subst ha hb hc
  have hl : (l.take k).length = k := by simp; omega
  refine ⟨A, c, by rw [hl], by omega, h2, h3, fun h0 => ?_⟩
  obtain ⟨g, o, hA, hq, hcell⟩ := h4 (by omega)
  refine ⟨g, o, hA, hq, fun j x hj => hcell j x ?_⟩
  rw [List.getElem?_take] at hj
  split at hj
  · exact hj
  · cases hj
/-- Its cells, as a range of a block. -/
theorem Bytes.range {A : Option Addr} {len c : Nat} (h : Bytes w Q (.slice A len c) l) (h0 : 0 < l.length) : ∃ g o, A = some ⟨g, o, none⟩ ∧ Q g ∧ w.rangeAt g o (l.map byt) := by
  obtain ⟨A', c', hv, h1, h2, h3, h4⟩ := h
  injection hv with ha hb hc
  subst ha hb hc
  obtain ⟨g, o, hA, hq, hcell⟩ := h4 h0
  refine ⟨g, o, hA, hq, fun j v hj => ?_⟩
  rw [List.getElem?_map] at hj
  cases hx : l[j]? with
  | none => rw [hx] at hj; cases hj
  | some x => rw [hx] at hj; injection hj with hj; subst hj; exact hcell j x hx
end

/-- Sixty-four bytes out of the middle. -/
theorem bytes_mid {w : World} {Q : Nat → Prop} {l : List B8} {A : Option Addr} {len c : Nat} (h : Bytes w Q (.slice A len c) l) (q : Nat) (hq : 64 * q + 64 ≤ l.length) :
    ∃ g o c', (∀ W, (Instr.sliceAt 22 (.slice A len c) (some (.int .i64 (64 * (q : Int)))) (some (.int .i64 (64 * (q : Int) + 64))) none).run Try.prog W = .ok (.slice (some ⟨g, o, none⟩) 64 c') W) ∧ Q g ∧
      ∀ j, j < 64 → w.cell? ⟨g, o + j, none⟩ = some (byt (((l.drop (64 * q)).take 64).getD j 0)) := by
  obtain ⟨A', c', hv, h1, h2, h3, h4⟩ := h
  injection hv with ha hb hc
  subst ha hb hc
  obtain ⟨g, o, rfl, hQ, hcell⟩ := h4 (by omega)
  refine ⟨g, o + 64 * q, c - 64 * q, fun W => ?_, hQ, fun j hj => ?_⟩
  · have := run_cut_mid (some ⟨g, o, none⟩) l.length c (64 * q) (64 * q + 64) (by omega) (by omega) W
    rw [if_neg (by omega), show 64 * q + 64 - 64 * q = 64 by omega] at this
    simp only [Option.map_some, Addr.add_mid] at this
    rw [← this]
    congr 4
    all_goals (first | rfl | (congr 3; omega) | skip)
  · have hlt : 64 * q + j < l.length := by omega
    have hx := hcell (64 * q + j) l[64 * q + j] (List.getElem?_eq_getElem hlt)
    rw [← Nat.add_assoc] at hx
    rw [hx]
    congr 2
    rw [List.getD_eq_getElem?_getD, List.getElem?_take, if_pos hj, List.getElem?_drop, List.getElem?_eq_getElem hlt]
    rfl
theorem own_below {w w' : World} {base B n size : Nat} {e : TypeId} {v : Value} {xs : List Value} (h : w.ownsRow base e size v n xs) (hb : Below B w w') (hB : w.heap.size ≤ B) : w'.ownsRow base e size v n xs := by
  refine ⟨h.1, ?_⟩
  rcases h.2 with h2 | ⟨g, cap, cur, hv, hg, hh, r⟩
  · exact .inl h2
  · have hlt : g < w.heap.size := by
      rcases Nat.lt_or_ge g w.heap.size with hl | hl
      · exact hl
      · rw [Array.getElem?_eq_none hl] at hh; cases hh
    exact .inr ⟨g, cap, cur, hv, hg, (hb.block g (by omega)).trans hh, r⟩
/-- A block of bytes, whole, as a slice. -/
theorem Whole.bytes {w : World} {g : Nat} {t : TypeId} {l : List B8} (h : Whole w g t (l.map byt).toArray) (hl : l.length ≤ 1000000) : Bytes w (fun b => b = g) (.slice (some ⟨g, 0, none⟩) l.length l.length) l :=
  ⟨some ⟨g, 0, none⟩, l.length, rfl, Nat.le_refl _, by unfold maxLen; omega, fun h => (by cases h), fun _ => ⟨g, 0, rfl, rfl, fun j x hj => by rw [h.cell, Nat.zero_add]; simp [hj]⟩⟩
/-- copy(row of the call's own, src), whatever src is. -/
theorem wpList_copy_bytes {w : World} {ops : Array Oper} {rest : List Oper} {o : Oper} {a : Act} {R : Exit → Act → World → Prop} (hgd : o.guard = none) (d s : Operand)
    (ho : o.op = .call { callee := .builtin .copy, args := #[d, s], argTypes := #[22, 22] })
    (g dLen dCap : Nat) (hd : a.eval d = .slice (some ⟨g, 0, none⟩) dLen dCap) (v2 : Value) (hs : a.eval s = v2) (Q : Nat → Prop) (ys : List B8) (hr : Bytes w Q v2 ys)
    (t : TypeId) (cur : List Value) (hg : Whole w g t cur.toArray) (hfit : ys.length ≤ dLen) (hsz : dLen ≤ cur.length)
    (h : ∀ w', Hid (Whole w' g t (ys.map byt ++ cur.drop ys.length).toArray) → Below g w w' → wpList Try.prog ops R rest (a.put o.dst (goInt ys.length)) w') : wpList Try.prog ops R (o :: rest) a w := by
  obtain ⟨A, c, rfl, hc1, hc2, hc3, hc4⟩ := hr
  have hcsl : (ys.map byt).length = ys.length := by simp
  refine wpList_copy_splice hgd d s 22 22 ho 5 Try.underlying22 (by kernel_rfl) (some ⟨g, 0, none⟩) A dLen dCap ys.length c hd hs g 0 cur t hg (ys.map byt) (by rw [hcsl]; exact (Nat.min_eq_left hfit).symm)
    ?_ (by rw [hcsl]; omega) (byt_one ys) g w (Below.refl _ _) (Nat.le_refl _) ?_
  · intro hp
    rw [hcsl] at hp
    obtain ⟨g', o', rfl, _, hcell⟩ := hc4 hp
    refine ⟨rfl, _, rfl, fun j v hj => ?_⟩
    rw [Addr.add_mid]
    rw [List.getElem?_map] at hj
    cases hx : ys[j]? with
    | none => rw [hx] at hj; cases hj
    | some x => rw [hx] at hj; injection hj with hj; subst hj; exact hcell j x hx
  · intro w' hg' hb'
    rw [hcsl]
    refine h w' (Lib.hid ?_) hb'
    have := hg'.out
    have e : splice cur 0 (ys.map byt) = ys.map byt ++ cur.drop ys.length := by simp [splice]
    rw [e] at this
    exact this
theorem own_whole {w : World} {base g : Nat} {xs : List B8} (h : Whole w g 5 (xs.map byt).toArray) (hb : base ≤ g) (hl : xs.length ≤ 1000000) :
    w.ownsRow base 5 1 (.slice (some ⟨g, 0, none⟩) xs.length xs.length) xs.length (xs.map byt) :=
  ⟨by simp, .inr ⟨g, xs.length, (xs.map byt).toArray, rfl, hb, h, Nat.le_refl _, by unfold maxLen; omega, by simp, by simp [List.take_of_length_le]⟩⟩
theorem lit_bytes (w : World) (fr : Nat × Nat) (l : List B8) (zs : Array Value) (hz : zs = (l.map byt).toArray) (hl : l.length ≤ 1000) :
    Bytes (w.alloc (.cells zs 5 fr)) (fun _ => True) (.slice (some ⟨w.heap.size, 0, none⟩) l.length l.length) l := by
  refine ⟨some ⟨w.heap.size, 0, none⟩, l.length, rfl, Nat.le_refl _, by unfold maxLen; omega, fun h => (by cases h), fun _ => ⟨w.heap.size, 0, rfl, trivial, fun j x hj => ?_⟩⟩
  rw [World.cell?_alloc_mark, Nat.zero_add, hz]
  simp [hj]
theorem min_take (l : List B8) (m : Nat) : (if (m : Int) < (l.length : Int) then (m : Int) else (l.length : Int)) = ((l.take m).length : Int) := by
  rw [List.length_take]
  split <;> omega
theorem Bytes.cut {w : World} {Q : Nat → Prop} {A : Option Addr} {l : List B8} {c : Nat} (h : Bytes w Q (.slice A l.length c) l) (m : Nat) : Bytes w Q (.slice A (l.take m).length c) (l.take m) := by
  have := h.take (min m l.length) (Nat.min_le_right _ _)
  rw [List.length_take]
  rwa [show l.take (min m l.length) = l.take m by rw [List.take_eq_take_iff]; omega] at this
/-- A list in the first cells of a row. -/
theorem bytes_row {w : World} {g cap : Nat} {cur : Array Value} {l : List B8} (h : Whole w g 5 cur) (hc : l.length ≤ cap) (hm : cap ≤ maxLen) (ht : ∀ (j : Nat) (x : B8), l[j]? = some x → cur[j]? = some (byt x)) : Bytes w (fun b => b = g) (.slice (some ⟨g, 0, none⟩) l.length cap) l :=
  ⟨some ⟨g, 0, none⟩, cap, rfl, hc, hm, fun h => (by cases h), fun _ => ⟨g, 0, rfl, rfl, fun j x hj => by rw [h.cell, Nat.zero_add]; exact ht j x hj⟩⟩
theorem own_open {w : World} {base : Nat} {v : Value} {l : List B8} (h : w.ownsRow base 5 1 v l.length (l.map byt)) (h0 : 0 < l.length) :
    ∃ g cap cur, v = .slice (some ⟨g, 0, none⟩) l.length cap ∧ base ≤ g ∧ Whole w g 5 cur ∧ l.length ≤ cap ∧ cap ≤ maxLen ∧ l.length ≤ cur.size ∧ ∀ (j : Nat) (x : B8), l[j]? = some x → cur[j]? = some (byt x) := by
  rcases h.2 with ⟨_, hn⟩ | ⟨g, cap, cur, rfl, hg, hh, hc, hm, hs, ht⟩
  · omega
  · refine ⟨g, cap, cur, rfl, hg, hh, hc, hm, by omega, fun j x hj => ?_⟩
    have h1 : (l.map byt)[j]? = some (byt x) := by rw [List.getElem?_map, hj]; rfl
    rw [← ht, List.getElem?_take] at h1
    split at h1
    · simpa using h1
    · cases h1
theorem there_below {W0 w' : World} {g' n : Nat} (h' : W0.there g' 0 n) (hg' : g' < W0.heap.size) (hk : Below W0.heap.size W0 w') : w'.there g' 0 n := fun j hj => by
  have := h' j hj
  rw [hk.cell (p := ⟨g', 0 + j, none⟩) hg', hk.frozen (p := ⟨g', 0 + j, none⟩) hg']
  exact this
end Go.Proofs.Ytefjdpanjioflaa
