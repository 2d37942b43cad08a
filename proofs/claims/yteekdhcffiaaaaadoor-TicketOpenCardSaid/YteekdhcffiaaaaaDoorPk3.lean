/-
  KLib
  KBytes
  KApp
  ShaClone
  ShaPad
  KOwn
  KGrow
  KSeq
  VarApp
  VarRef
-/
import Derived.Laws.AppendOwn
import Derived.Laws.AppendOwnNone
import Derived.OwnWalk
import Derived.WalkSpells
import Derived.Deep.DeepMust
import Derived.StillTailTactics
import Derived.Laws.CopyOwn
import Derived.Deep.RegionHeld3
import Derived.Test.YteekdhcffiaaaaaDoorPk0
import Derived.Lib.AppendZeros
import Derived.Lib.AppendZerosOnto
namespace Go.Proofs.YteekdhcffiaaaaaDoor
open Go Go.RowKit Sh Leaf

theorem own_below {w w' : World} {base B n size : Nat} {e : TypeId} {v : Value} {xs : List Value} (h : w.ownsRow base e size v n xs) (hb : Below B w w') (hB : w.heap.size ≤ B) : w'.ownsRow base e size v n xs := by
  refine ⟨h.1, ?_⟩
  rcases h.2 with h2 | ⟨g, cap, cur, hv, hg, hh, r⟩
  · exact .inl h2
  · have hlt : g < w.heap.size := by
      rcases Nat.lt_or_ge g w.heap.size with hl | hl
      · exact hl
      · rw [Array.getElem?_eq_none hl] at hh; cases hh
    exact .inr ⟨g, cap, cur, hv, hg, (hb.block g (by omega)).trans hh, r⟩
end Go.Proofs.YteekdhcffiaaaaaDoor
namespace Go.Proofs.YteekdhcffiaaaaaDoor
open Go Go.RowKit Sh Leaf

def Bytes (w : World) (Q : Nat → Prop) (v : Value) (l : List B8) : Prop :=
  ∃ A c, v = .slice A l.length c ∧ l.length ≤ c ∧ c ≤ maxLen ∧ (A = none → c = 0) ∧ (0 < l.length → ∃ g o, A = some ⟨g, o, none⟩ ∧ Q g ∧ ∀ j x, l[j]? = some x → w.cell? ⟨g, o + j, none⟩ = some (byt x))
section
variable {w w' : World} {Q Q' : Nat → Prop} {v : Value} {l : List B8}
theorem Bytes.keep (h : Bytes w Q v l) (hk : ∀ g, g < w.heap.size → Q g → w'.heap[g]? = w.heap[g]?) : Bytes w' Q v l := by
  obtain ⟨A, c, hv, h1, h2, h3, h4⟩ := h
  refine ⟨A, c, hv, h1, h2, h3, fun hl => ?_⟩
  obtain ⟨g, o, hA, hq, hc⟩ := h4 hl
  refine ⟨g, o, hA, hq, fun j x hj => ?_⟩
  have := hc j x hj
  rw [← this]
  exact World.cell?_of_block (w := w) (hk g (block_lt_of_cell this) hq)
theorem Bytes.mono (h : Bytes w Q v l) (hq : ∀ g, g < w.heap.size → Q g → Q' g) : Bytes w Q' v l := by
  obtain ⟨A, c, hv, h1, h2, h3, h4⟩ := h
  refine ⟨A, c, hv, h1, h2, h3, fun hl => ?_⟩
  obtain ⟨g, o, hA, hg, hc⟩ := h4 hl
  have h0 : (0 : Nat) < l.length := hl
  have := hc 0 l[0] (by simp [h0])
  exact ⟨g, o, hA, hq g (block_lt_of_cell this) hg, hc⟩
theorem Bytes.alloc (h : Bytes w Q v l) (o : Obj) : Bytes (w.alloc o) Q v l := h.keep fun g hg _ => Below.heap_alloc w o g hg
theorem Bytes.drew (h : Bytes w Q v l) : Bytes w.drew Q v l := h
theorem Bytes.drewN (h : Bytes w Q v l) (n : Nat) : Bytes (w.drewN n) Q v l := h
theorem Bytes.below {B : Nat} (h : Bytes w Q v l) (hb : Below B w w') (hB : w.heap.size ≤ B) : Bytes w' Q v l := h.keep fun g hg _ => hb.block g (by omega)
theorem Bytes.set (h : Bytes w Q v l) {a : Addr} (ha : ∀ g, Q g → g ≠ a.block) (x : Value) : Bytes (w.setCell a x) Q v l := h.keep fun g _ hq => heap_setCell_other w a g x (ha g hq)
theorem Bytes.setRow (h : Bytes w Q v l) {b : Nat} (ha : ∀ g, Q g → g ≠ b) (cs : Array Value) : Bytes (w.setRow b cs) Q v l := h.keep fun g _ hq => setRow_other w b g cs (ha g hq)
theorem Bytes.grown {row : Option Nat} (h : Bytes w Q v l) (hg : w.grownBy w' row) (hr : ∀ g, Q g → some g ≠ row) : Bytes w' Q v l := h.keep fun g hl hq => hg.block g hl (hr g hq)
theorem Bytes.nil (w : World) (Q : Nat → Prop) : Bytes w Q (.slice none 0 0) [] := ⟨none, 0, rfl, by simp, by simp [maxLen], fun _ => rfl, fun h => absurd h (by simp)⟩
end
theorem Bytes.of_own {w : World} {base : Nat} {v : Value} {l : List B8} (h : w.ownsRow base 5 1 v l.length (l.map byt)) : Bytes w (fun g => base ≤ g) v l := by
  obtain ⟨_, h2⟩ := h
  rcases h2 with ⟨rfl, hn⟩ | ⟨g, cap, cur, rfl, hg, hh, hc, hm, hs, ht⟩
  · have : l = [] := List.eq_nil_of_length_eq_zero hn
    subst this
    exact Bytes.nil _ _
  · refine ⟨_, cap, rfl, hc, hm, fun h => (by cases h), fun _ => ⟨g, 0, rfl, hg, fun j x hj => ?_⟩⟩
    rw [cell_of_row w g (0 + j) cur _ _ hh, Nat.zero_add]
    have h1 : (l.map byt)[j]? = some (byt x) := by rw [List.getElem?_map, hj]; rfl
    rw [← ht, List.getElem?_take] at h1
    split at h1
    · simpa using h1
    · cases h1
theorem byteInfo : (Tryd.prog.info? 5).map (fun i => (i.zero, i.size, i.bytes)) = some (some (.int .u8 0), 1, 1) := by kernel_rfl
theorem own_lit (w : World) (base : Nat) (l : List B8) (hb : base ≤ w.heap.size) (hl : l.length ≤ 1000) :
    (w.alloc (.cells (l.map byt).toArray 5)).ownsRow base 5 1 (.slice (some ⟨w.heap.size, 0, none⟩) l.length l.length) l.length (l.map byt) := by
  refine ⟨by simp, .inr ⟨w.heap.size, l.length, (l.map byt).toArray, rfl, hb, heap_alloc_new w _, Nat.le_refl _, by unfold maxLen; omega, by simp, ?_⟩⟩
  simp [List.take_of_length_le]
theorem own_lit_at (w : World) (base g : Nat) (l : List B8) (hg : g = w.heap.size) (hb : base ≤ g) (hl : l.length ≤ 1000) :
    (w.alloc (.cells (l.map byt).toArray 5)).ownsRow base 5 1 (.slice (some ⟨g, 0, none⟩) l.length l.length) l.length (l.map byt) := by
  subst hg; exact own_lit w base l hb hl
theorem byt_one (l : List B8) : ∀ x ∈ l.map byt, x.oneCell' = true := by
  intro x hx
  obtain ⟨y, _, rfl⟩ := List.mem_map.1 hx
  rfl

theorem bytes_one (w : World) (z : Int) (x : B8) (h : z = bv x) : Bytes (w.alloc (.cells #[.int .u8 z] 5)) (fun _ => True) (.slice (some ⟨w.heap.size, 0, none⟩) 1 1) [x] := by
  subst h
  refine ⟨_, 1, rfl, by simp, by simp [maxLen], fun h => (by cases h), fun _ => ⟨_, _, rfl, trivial, fun j y hj => ?_⟩⟩
  rw [cell_of_row _ _ _ _ _ _ (heap_alloc_new w _)]
  match j, hj with
  | 0, hj => simp at hj; subst hj; rfl
  | j + 1, hj => simp at hj
theorem be_byte (n m : Nat) : (n : Int) / 2 ^ (8 * m) % 256 = bv (BitVec.ofNat 8 (n / 256 ^ m)) := by
  have e : 256 ^ m = 2 ^ (8 * m) := by rw [Nat.pow_mul]
  rw [bv_ofNat, e]
  simp
theorem wpList_append_bytes {w : World} {ops : Array Oper} {rest : List Oper} {o : Oper} {a : Act} {R : Exit → Act → World → Prop} (hgd : o.guard = none) (s x : Operand)
    (ho : o.op = .call { callee := .builtin .append, args := #[s, x], argTypes := #[39, 39] })
    (base : Nat) (v : Value) (xs : List B8) (hs : a.eval s = v) (hown : w.ownsRow base 5 1 v xs.length (xs.map byt))
    (Q : Nat → Prop) (v2 : Value) (ys : List B8) (hx : a.eval x = v2) (hr : Bytes w Q v2 ys) (h47 : xs.length + ys.length ≤ 140737488355328) (hbase : base ≤ w.heap.size)
    (h : ∀ v' w', w'.ownsRow base 5 1 v' (xs ++ ys).length ((xs ++ ys).map byt) → Below base w w' → wpList Tryd.prog ops R rest (a.put o.dst v') w') : wpList Tryd.prog ops R (o :: rest) a w := by
  have hbel : ∀ w', w.grownBy w' v.ownBlock → Below base w w' := fun w' hg => (Below.refl _ _).grown hg hbase fun k hk => by
    rcases hown.2 with ⟨rfl, _⟩ | ⟨g, cap, cur, rfl, hge, _⟩
    · simp [Value.ownBlock] at hk
    · simp [Value.ownBlock] at hk; omega
  obtain ⟨i0, hi, hz0, hz1, hz2⟩ := info_parts byteInfo
  obtain ⟨A, c, hv, hc1, hc2, hc3, hc4⟩ := hr
  have hlen : (xs ++ ys).length = xs.length + ys.length := by simp
  have hmap : (xs ++ ys).map byt = xs.map byt ++ ys.map byt := by simp
  rw [hlen, hmap] at h
  cases A with
  | none =>
    have h0 := hc3 rfl
    subst h0
    have hy : ys = [] := List.eq_nil_of_length_eq_zero (by omega)
    subst hy
    refine wpList_append_own_none hgd s x 39 ho base 5 i0 1 Tryd.underlying39 hi v xs.length (xs.map byt) hs hown (by rw [hx, hv]; rfl) ?_
    exact h v w (by simpa using hown) (Below.refl _ _)
  | some ad =>
    refine wpList_append_own w hgd s x 39 ho base 5 i0 (.int .u8 0) 1 1 Tryd.underlying39 hi hz0 hz1 hz2 rfl (by decide) v xs.length (xs.map byt) hs hown ad ys.length c (ys.map byt) (by rw [hx, hv]) (by simp) ?_ (byt_one ys)
      (by unfold maxLen; omega) (by omega) hbase (fun v' w' h1 h2 _ => h v' w' h1 (hbel w' h2))
    intro j b hb
    have hj : j < ys.length := by
      have := (List.getElem?_eq_some_iff.1 hb).1
      simpa using this
    obtain ⟨g, o, hA, _, hcell⟩ := hc4 (by omega)
    obtain rfl := Option.some.inj hA
    rw [Addr.add_mid]
    rw [List.getElem?_map, List.getElem?_eq_getElem hj] at hb
    obtain rfl := Option.some.inj hb
    exact hcell j _ (List.getElem?_eq_getElem hj)
section
variable {P : Program} {ops : Array Oper} {w : World} {rest : List Oper} {o : Oper} {a : Act}
theorem wpList_slice_run {Q : Exit → Act → World → Prop} (hgd : o.guard = none) (t : TypeId) (x : Operand) (lo hi mx : Option Operand) (ho : o.op = .slice t x lo hi mx) (v : Value)
    (hr : (Instr.sliceAt t (a.eval x) (lo.map a.eval) (hi.map a.eval) (mx.map a.eval)).run P w = .ok v w) (h : wpList P ops Q rest (a.put o.dst v) w) : wpList P ops Q (o :: rest) a w :=
  wpList_plain hgd fun K hK => by
    unfold Oper.wp execOp
    simp only [ho, Sem.run_bind, Sem.run_pure, hr, Result.andThen_ok]
    exact hK _ _ h
theorem wpStill_value {Q : Act → Prop} (hw : Region.wanted o (yielded ops a.tmps) = true) (v : Value) (hr : (execOp a.eval o).run P w = .ok (.value v) w) (h : wpStill P ops w Q rest (a.put o.dst v)) : wpStill P ops w Q (o :: rest) a := by
  show if Region.wanted o (yielded ops a.tmps) = true then _ else _
  rw [if_pos hw]
  unfold Oper.still
  rw [hr]
  exact ⟨rfl, h⟩
theorem wpStill_slice_run {Q : Act → Prop} (hw : Region.wanted o (yielded ops a.tmps) = true) (t : TypeId) (x : Operand) (lo hi mx : Option Operand) (ho : o.op = .slice t x lo hi mx) (v : Value)
    (hr : (Instr.sliceAt t (a.eval x) (lo.map a.eval) (hi.map a.eval) (mx.map a.eval)).run P w = .ok v w) (h : wpStill P ops w Q rest (a.put o.dst v)) : wpStill P ops w Q (o :: rest) a :=
  wpStill_value hw v (by unfold execOp; simp only [ho, Sem.run_bind, Sem.run_pure, hr, Result.andThen_ok]) h
theorem wpStill_load_run {Q : Act → Prop} (hw : Region.wanted o (yielded ops a.tmps) = true) (ty : TypeId) (x : Operand) (ho : o.op = .load ty x) (g off : Nat) (hx : a.eval x = .pointer (some ⟨g, off, none⟩))
    (cs : List Value) (d : TypeDesc) (hc : w.rangeAt g off cs) (hu : P.underlying ty = some d) (hd : d.isRow = true) (hi : (P.info? ty).map (·.size) = some cs.length)
    (h : wpStill P ops w Q rest (a.put o.dst (.agg cs.toArray))) : wpStill P ops w Q (o :: rest) a :=
  wpStill_value hw _ (by unfold execOp; simp only [ho, hx, Instr.loadAt, Instr.sureAddr, Sem.run_bind, Sem.run_pure, Result.andThen_ok, run_loadVar_mid w g off ty cs d hc hu hd hi]) h
end

theorem elem_bytes : Tryd.prog.underlying 39 = some (.slice (Tryd.prog.elem 39)) := by kernel_rfl
theorem size_byte (W : World) : (sizeOf (Tryd.prog.elem 39)).run Tryd.prog W = .ok 1 W := run_sizeOf_one (by kernel_rfl) W
theorem run_cut_from (A : Option Addr) (len c k : Nat) (hk : k ≤ len) (W : World) :
    (Instr.sliceAt 39 (.slice A len c) (some (.int .i64 (k : Int))) none none).run Tryd.prog W = .ok (.slice (if c = k then A else A.map (·.add k)) (len - k) (c - k)) W := by
  rw [run_sliceAt_slice W _ _ _ _ _ elem_bytes, run_slice_l W 39 A len c elem_bytes .i64 (k : Int) (by omega) (by omega), size_byte]
  simp [sliced, Result.andThen]
theorem run_cut_to (A : Option Addr) (len c k : Nat) (hk : k ≤ c) (W : World) :
    (Instr.sliceAt 39 (.slice A len c) none (some (.int .i64 (k : Int))) none).run Tryd.prog W = .ok (.slice A k c) W := by
  rw [run_sliceAt_slice W _ _ _ _ _ elem_bytes, run_slice_h W 39 A len c elem_bytes .i64 (k : Int) (by omega) (by omega), size_byte]
  have e : Option.map (fun x : Addr => x.add 0) A = A := by
    cases A with
    | none => rfl
    | some a => simp [Addr.add]
  simp [sliced, Result.andThen, e]
theorem run_cut_mid (A : Option Addr) (len c i j : Nat) (hi : i ≤ j) (hj : j ≤ c) (W : World) :
    (Instr.sliceAt 39 (.slice A len c) (some (.int .i64 (i : Int))) (some (.int .i64 (j : Int))) none).run Tryd.prog W = .ok (.slice (if c = i then A else A.map (·.add i)) (j - i) (c - i)) W := by
  rw [run_sliceAt_slice W _ _ _ _ _ elem_bytes, run_slice_lh W 39 A len c elem_bytes .i64 .i64 (i : Int) (j : Int) (by omega) (by omega) (by omega), size_byte]
  simp [sliced, Result.andThen]

section
variable {w : World} {Q : Nat → Prop} {l : List B8}
theorem Bytes.drop {A : Option Addr} {len c : Nat} (h : Bytes w Q (.slice A len c) l) (k : Nat) (hk : k ≤ l.length) : Bytes w Q (.slice (if c = k then A else A.map (·.add k)) (len - k) (c - k)) (l.drop k) := by
  obtain ⟨A', c', hv, h1, h2, h3, h4⟩ := h
  injection hv with ha hb hc
  subst ha hb hc
  refine ⟨_, _, by rw [List.length_drop], by rw [List.length_drop]; omega, by omega, fun e => ?_, fun hl => ?_⟩
  · by_cases hck : c = k
    · omega
    · rw [if_neg hck] at e
      have : A = none := by cases A <;> simp_all
      have := h3 this
      omega
  · rw [List.length_drop] at hl
    obtain ⟨g, o, rfl, hq, hcell⟩ := h4 (by omega)
    refine ⟨g, o + k, ?_, hq, fun j x hj => ?_⟩
    · rw [if_neg (by omega)]; simp [Addr.add_mid]
    · rw [List.getElem?_drop] at hj
      have := hcell _ x hj
      rwa [← Nat.add_assoc] at this
theorem Bytes.take {A : Option Addr} {len c : Nat} (h : Bytes w Q (.slice A len c) l) (k : Nat) (hk : k ≤ l.length) : Bytes w Q (.slice A k c) (l.take k) := by
  obtain ⟨A', c', hv, h1, h2, h3, h4⟩ := h
  injection hv with ha hb hc
  subst ha hb hc
  have hl : (l.take k).length = k := by simp; omega
  refine ⟨A, c, by rw [hl], by omega, h2, h3, fun h0 => ?_⟩
  obtain ⟨g, o, hA, hq, hcell⟩ := h4 (by omega)
  refine ⟨g, o, hA, hq, fun j x hj => hcell j x ?_⟩
  rw [List.getElem?_take] at hj
  split at hj
  · exact hj
  · cases hj
theorem Bytes.range {A : Option Addr} {len c : Nat} (h : Bytes w Q (.slice A len c) l) (h0 : 0 < l.length) : ∃ g o, A = some ⟨g, o, none⟩ ∧ Q g ∧ w.rangeAt g o (l.map byt) := by
  obtain ⟨A', c', hv, h1, h2, h3, h4⟩ := h
  injection hv with ha hb hc
  subst ha hb hc
  obtain ⟨g, o, hA, hq, hcell⟩ := h4 h0
  refine ⟨g, o, hA, hq, fun j v hj => ?_⟩
  rw [List.getElem?_map] at hj
  cases hx : l[j]? with
  | none => rw [hx] at hj; cases hj
  | some x => rw [hx] at hj; injection hj with hj; subst hj; exact hcell j x hx
end

theorem bytes_mid {w : World} {Q : Nat → Prop} {l : List B8} {A : Option Addr} {len c : Nat} (h : Bytes w Q (.slice A len c) l) (q : Nat) (hq : 64 * q + 64 ≤ l.length) :
    ∃ g o c', (∀ W, (Instr.sliceAt 39 (.slice A len c) (some (.int .i64 (64 * (q : Int)))) (some (.int .i64 (64 * (q : Int) + 64))) none).run Tryd.prog W = .ok (.slice (some ⟨g, o, none⟩) 64 c') W) ∧ Q g ∧
      ∀ j, j < 64 → w.cell? ⟨g, o + j, none⟩ = some (byt (((l.drop (64 * q)).take 64).getD j 0)) := by
  obtain ⟨A', c', hv, h1, h2, h3, h4⟩ := h
  injection hv with ha hb hc
  subst ha hb hc
  obtain ⟨g, o, rfl, hQ, hcell⟩ := h4 (by omega)
  refine ⟨g, o + 64 * q, c - 64 * q, fun W => ?_, hQ, fun j hj => ?_⟩
  · have := run_cut_mid (some ⟨g, o, none⟩) l.length c (64 * q) (64 * q + 64) (by omega) (by omega) W
    rw [if_neg (by omega), show 64 * q + 64 - 64 * q = 64 by omega] at this
    simp only [Option.map_some, Addr.add_mid] at this
    rw [← this]
    congr 4
    all_goals (first | rfl | (congr 3; omega) | skip)
  · have hlt : 64 * q + j < l.length := by omega
    have hx := hcell (64 * q + j) l[64 * q + j] (List.getElem?_eq_getElem hlt)
    rw [← Nat.add_assoc] at hx
    rw [hx]
    congr 2
    rw [List.getD_eq_getElem?_getD, List.getElem?_take, if_pos hj, List.getElem?_drop, List.getElem?_eq_getElem hlt]
    rfl
theorem Whole.bytes {w : World} {g : Nat} {t : TypeId} {l : List B8} (h : Whole w g t (l.map byt).toArray) (hl : l.length ≤ 1000000) : Bytes w (fun b => b = g) (.slice (some ⟨g, 0, none⟩) l.length l.length) l :=
  ⟨some ⟨g, 0, none⟩, l.length, rfl, Nat.le_refl _, by unfold maxLen; omega, fun h => (by cases h), fun _ => ⟨g, 0, rfl, rfl, fun j x hj => by rw [h.cell, Nat.zero_add]; simp [hj]⟩⟩
theorem wpList_copy_bytes {w : World} {ops : Array Oper} {rest : List Oper} {o : Oper} {a : Act} {R : Exit → Act → World → Prop} (hgd : o.guard = none) (d s : Operand)
    (ho : o.op = .call { callee := .builtin .copy, args := #[d, s], argTypes := #[39, 39] })
    (g dLen dCap : Nat) (hd : a.eval d = .slice (some ⟨g, 0, none⟩) dLen dCap) (v2 : Value) (hs : a.eval s = v2) (Q : Nat → Prop) (ys : List B8) (hr : Bytes w Q v2 ys)
    (t : TypeId) (cur : List Value) (hg : Whole w g t cur.toArray) (hfit : ys.length ≤ dLen) (hsz : dLen ≤ cur.length)
    (h : ∀ w', Hid (Whole w' g t (ys.map byt ++ cur.drop ys.length).toArray) → Below g w w' → wpList Tryd.prog ops R rest (a.put o.dst (goInt ys.length)) w') : wpList Tryd.prog ops R (o :: rest) a w := by
  obtain ⟨A, c, rfl, hc1, hc2, hc3, hc4⟩ := hr
  have hcsl : (ys.map byt).length = ys.length := by simp
  refine wpList_copy_splice hgd d s 39 39 ho 5 Tryd.underlying39 (by kernel_rfl) (some ⟨g, 0, none⟩) A dLen dCap ys.length c hd hs g 0 cur t hg (ys.map byt) (by rw [hcsl]; exact (Nat.min_eq_left hfit).symm)
    ?_ (by rw [hcsl]; omega) (byt_one ys) g w (Below.refl _ _) (Nat.le_refl _) ?_
  · intro hp
    rw [hcsl] at hp
    obtain ⟨g', o', rfl, _, hcell⟩ := hc4 hp
    refine ⟨rfl, _, rfl, fun j v hj => ?_⟩
    rw [Addr.add_mid]
    rw [List.getElem?_map] at hj
    cases hx : ys[j]? with
    | none => rw [hx] at hj; cases hj
    | some x => rw [hx] at hj; injection hj with hj; subst hj; exact hcell j x hx
  · intro w' hg' hb'
    rw [hcsl]
    refine h w' (Lib.hid ?_) hb'
    have := hg'.out
    have e : splice cur 0 (ys.map byt) = ys.map byt ++ cur.drop ys.length := by simp [splice]
    rw [e] at this
    exact this
theorem own_whole {w : World} {base g : Nat} {xs : List B8} (h : Whole w g 5 (xs.map byt).toArray) (hb : base ≤ g) (hl : xs.length ≤ 1000000) :
    w.ownsRow base 5 1 (.slice (some ⟨g, 0, none⟩) xs.length xs.length) xs.length (xs.map byt) :=
  ⟨by simp, .inr ⟨g, xs.length, (xs.map byt).toArray, rfl, hb, h, Nat.le_refl _, by unfold maxLen; omega, by simp, by simp [List.take_of_length_le]⟩⟩
theorem Bytes.cut {w : World} {Q : Nat → Prop} {A : Option Addr} {l : List B8} {c : Nat} (h : Bytes w Q (.slice A l.length c) l) (m : Nat) : Bytes w Q (.slice A (l.take m).length c) (l.take m) := by
  have := h.take (min m l.length) (Nat.min_le_right _ _)
  rw [List.length_take]
  rwa [show l.take (min m l.length) = l.take m by rw [List.take_eq_take_iff]; omega] at this
theorem own_open {w : World} {base : Nat} {v : Value} {l : List B8} (h : w.ownsRow base 5 1 v l.length (l.map byt)) (h0 : 0 < l.length) :
    ∃ g cap cur, v = .slice (some ⟨g, 0, none⟩) l.length cap ∧ base ≤ g ∧ Whole w g 5 cur ∧ l.length ≤ cap ∧ cap ≤ maxLen ∧ l.length ≤ cur.size ∧ ∀ (j : Nat) (x : B8), l[j]? = some x → cur[j]? = some (byt x) := by
  rcases h.2 with ⟨_, hn⟩ | ⟨g, cap, cur, rfl, hg, hh, hc, hm, hs, ht⟩
  · omega
  · refine ⟨g, cap, cur, rfl, hg, hh, hc, hm, by omega, fun j x hj => ?_⟩
    have h1 : (l.map byt)[j]? = some (byt x) := by rw [List.getElem?_map, hj]; rfl
    rw [← ht, List.getElem?_take] at h1
    split at h1
    · simpa using h1
    · cases h1
theorem there_below {W0 w' : World} {g' n : Nat} (h' : W0.there g' 0 n) (hg' : g' < W0.heap.size) (hk : Below W0.heap.size W0 w') : w'.there g' 0 n := fun j hj => by
  have := h' j hj
  rw [hk.cell (p := ⟨g', 0 + j, none⟩) hg', hk.frozen (p := ⟨g', 0 + j, none⟩) hg']
  exact this
end Go.Proofs.YteekdhcffiaaaaaDoor
namespace Go.Proofs.YteekdhcffiaaaaaDoor
open Go Go.RowKit Sh Leaf

theorem run_append_bytes {w : World} (ty : TypeId) (base : Nat) (v : Value) (xs : List B8) (hown : w.ownsRow base 5 1 v xs.length (xs.map byt))
    (Q : Nat → Prop) (v2 : Value) (ys : List B8) (hr : Bytes w Q v2 ys) (h47 : xs.length + ys.length ≤ 140737488355328) (hbase : base ≤ w.heap.size) :
    ∃ v' w', (Builtin.append_ #[39, 39] ty #[v, v2]).run Tryd.prog w = .ok v' w' ∧ w'.ownsRow base 5 1 v' (xs ++ ys).length ((xs ++ ys).map byt) ∧ Below base w w' := by
  have hbel : ∀ w', w.grownBy w' v.ownBlock → Below base w w' := fun w' hg => (Below.refl _ _).grown hg hbase fun k hk => by
    rcases hown.2 with ⟨rfl, _⟩ | ⟨g, cap, cur, rfl, hge, _⟩
    · simp [Value.ownBlock] at hk
    · simp [Value.ownBlock] at hk; omega
  obtain ⟨i0, hi, hz0, hz1, hz2⟩ := info_parts byteInfo
  obtain ⟨A, c, hv, hc1, hc2, hc3, hc4⟩ := hr
  have hlen : (xs ++ ys).length = xs.length + ys.length := by simp
  have hmap : (xs ++ ys).map byt = xs.map byt ++ ys.map byt := by simp
  rw [hlen, hmap, hv]
  cases A with
  | none =>
    have h0 := hc3 rfl
    subst h0
    have hy : ys = [] := List.eq_nil_of_length_eq_zero (by omega)
    subst hy
    exact ⟨v, w, run_append_owned_none w base 39 ty 5 i0 1 Tryd.underlying39 hi v xs.length (xs.map byt) hown, by simpa using hown, Below.refl _ _⟩
  | some ad =>
    obtain ⟨v', w', hrun, h1, h2⟩ := run_append_own w base 39 ty 5 i0 (.int .u8 0) 1 1 Tryd.underlying39 hi hz0 hz1 hz2 rfl (by decide) v xs.length (xs.map byt) hown ad ys.length c (ys.map byt) (by simp)
      (by
        intro j b hb
        have hj : j < ys.length := by
          have := (List.getElem?_eq_some_iff.1 hb).1
          simpa using this
        obtain ⟨g, o, hA, _, hcell⟩ := hc4 (by omega)
        obtain rfl := Option.some.inj hA
        rw [Addr.add_mid]
        rw [List.getElem?_map, List.getElem?_eq_getElem hj] at hb
        obtain rfl := Option.some.inj hb
        exact hcell j _ (List.getElem?_eq_getElem hj)) (byt_one ys) (by unfold maxLen; omega) (by omega) hbase
    exact ⟨v', w', hrun, h1, hbel w' h2.1⟩

theorem step_append_bytes {w : World} {ops : Array Oper} {o : Oper} {a : Act} {K : Act → World → Prop} {R : Exit → Act → World → Prop} {E : Prop} (hw : Region.wanted o (yielded ops a.tmps) = true) (s x : Operand)
    (ho : o.op = .call { callee := .builtin .append, args := #[s, x], argTypes := #[39, 39] })
    (base : Nat) (v : Value) (xs : List B8) (hs : a.eval s = v) (hown : w.ownsRow base 5 1 v xs.length (xs.map byt))
    (Q : Nat → Prop) (v2 : Value) (ys : List B8) (hx : a.eval x = v2) (hr : Bytes w Q v2 ys) (h47 : xs.length + ys.length ≤ 140737488355328) (hbase : base ≤ w.heap.size)
    (h : ∀ v' w', w'.ownsRow base 5 1 v' (xs ++ ys).length ((xs ++ ys).map byt) → Below base w w' → K (a.put o.dst v') w') :
    if Region.wanted o (yielded ops a.tmps) = true then Oper.wp Tryd.prog o a w K R else E := by
  rw [if_pos hw]
  obtain ⟨v', w', hrun, h1, h2⟩ := run_append_bytes o.type base v xs hown Q v2 ys hr h47 hbase
  unfold Oper.wp
  simp [execOp, ho, resolve, invoke, builtin, hs, hx, hrun, Result.andThen]
  exact h v' w' h1 h2
theorem zeroCells_byt (k : Nat) : Builtin.zeroCells (Value.int .u8 0).cells k = ((List.replicate k (0 : B8)).map byt).toArray := by
  unfold Builtin.zeroCells
  apply Array.ext_getElem?
  intro i
  simp only [Value.cells, List.map_replicate, byt, bv_zero]
  by_cases h : i < k
  · simp [h, Nat.mod_one]
  · simp [h]
end Go.Proofs.YteekdhcffiaaaaaDoor
namespace Go.Proofs.YteekdhcffiaaaaaDoor
open Go Go.RowKit Sh Leaf

set_option maxRecDepth 20000 in
theorem clone (v : Value) (l : List B8) (Q : Nat → Prop) (w : World) (hr : Bytes w Q v l) (hl : l.length ≤ 1000000000) :
    Calls Tryd.prog 48 #[v] w fun e w' => ∃ v', e = .returned v' ∧ Bytes w' (fun g => w.heap.size ≤ g) v' l ∧ Below w.heap.size w w' := by
  have hr' := hr
  obtain ⟨A, c, rfl, hc1, hc2, hc3, hc4⟩ := hr'
  have he := fun (W : World) => Lib.run_eql_slice_nil (P := Tryd.prog) W 39 5 A l.length c 0 0 Tryd.underlying39
  clear hc4
  cases A with
  | none =>
    have h0 := hc3 rfl
    have hy : l = [] := List.eq_nil_of_length_eq_zero (by omega)
    subst hy
    subst h0
    simp only [List.length_nil] at he ⊢
    clear hc3 hr
    go_enter Tryd.func48, Tryd.ntmps48
    go_wp2
    go_ret
    exact ⟨_, rfl, Bytes.nil _ _, Below.refl _ _⟩
  | some ad =>
    clear hc3
    go_enter Tryd.func48, Tryd.ntmps48
    go_wp2_with (at_builtin; refine wpList_append_bytes rfl _ _ rfl w.heap.size (.slice (some ⟨w.heap.size, 0, none⟩) 0 0) [] rfl (own_lit w w.heap.size [] (Nat.le_refl _) (by simp)) Q _ l rfl (hr.alloc _) (by simp; omega) (by simp) ?_; intro v' w' h1 h2)
    go_ret
    exact ⟨v', rfl, Bytes.of_own (by simpa using h1), ((Below.refl _ _).alloc (Nat.le_refl _) _).trans h2⟩

set_option maxRecDepth 20000 in
set_option maxHeartbeats 1000000 in
theorem appendNumber (v : Value) (xs : List B8) (n size base : Nat) (w : World) (hown : w.ownsRow base 5 1 v xs.length (xs.map byt)) (hbase : base ≤ w.heap.size) (hx : xs.length ≤ 1000000000) (hs : size ≤ 8) :
    Calls Tryd.prog 88 #[v, .int .u64 (n : Int), .int .i64 (size : Int)] w fun e w' => ∃ v', e = .returned v' ∧ w'.ownsRow base 5 1 v' (xs ++ beBytes n size).length ((xs ++ beBytes n size).map byt) ∧ Below base w w' ∧ w.heap.size ≤ w'.heap.size := by
  go_enter Tryd.func88, Tryd.ntmps88
  go_wp2
  go_loopw [0, 9] (fun b i wr => ∃ k : Nat, k ≤ size ∧ i = .int .i64 k ∧ wr.ownsRow base 5 1 b (xs ++ (beBytes n size).take k).length ((xs ++ (beBytes n size).take k).map byt) ∧ Below base w wr) (fun _ i _ => size - (intOf i).toNat)
  case atStart => exact ⟨0, by omega, rfl, by simpa using hown, Below.refl _ _⟩
  case round =>
    obtain ⟨k, hk, rfl, hown', hb⟩ := hrel
    by_cases hlt : k < size
    · have hl : (xs ++ (beBytes n size).take k).length ≤ 1000000008 := by simp [List.length_take, beBytes_length]; omega
      have hbs := hb.size
      have hz := be_byte n (size - 1 - k)
      have HZ := Lib.hid hz
      clear hz
      go_wp2_with (at_builtin; go_must (refine wpList_append_bytes rfl _ _ rfl base _ (xs ++ (beBytes n size).take k) rfl (hown'.alloc _) _ (.slice (some ⟨wr.heap.size, 0, none⟩) 1 1) _ rfl (bytes_one wr _ _ HZ.out) (by simp only [List.length_singleton]; omega) (by simp; omega) ?_; intro v' w' h1 h2))
      go_roundw
      case rel =>
        refine ⟨k + 1, by omega, by go_num, ?_, (hb.alloc (by omega) _).trans h2⟩
        rw [beBytes_take_succ n size k hlt, ← List.append_assoc]; exact h1
      case measure => simp [intOf]; omega
    · have ek : (beBytes n size).take k = beBytes n size := List.take_of_length_le (by rw [beBytes_length]; omega)
      rw [ek] at hown'
      clear ek
      go_wp2
      go_ret
      exact ⟨_, rfl, hown', hb, hb.size⟩
end Go.Proofs.YteekdhcffiaaaaaDoor
namespace Go.Proofs.YteekdhcffiaaaaaDoor
open Go Go.RowKit Sh Leaf

theorem bv_128 : bv 128 = 128 := by unfold bv; rfl
theorem run_pad_zeros (w : World) (ty : TypeId) (k : Nat) (hk : k ≤ 64) :
    ∃ v' w', (Builtin.append_ #[39, 3] ty #[.slice (some ⟨w.heap.size, 0, none⟩) 1 1, .int .i64 (k : Int)]).run Tryd.prog (w.alloc (.cells #[.int .u8 128] 5)) = .ok v' w' ∧
      w'.ownsRow w.heap.size 5 1 v' (128 :: List.replicate k (0 : B8)).length ((128 :: List.replicate k (0 : B8)).map byt) ∧ Below w.heap.size w w' := by
  obtain ⟨i0, hi, hz0, hz1, hz2⟩ := info_parts byteInfo
  have hc : Whole (w.alloc (.cells #[.int .u8 128] 5)) w.heap.size 5 #[.int .u8 128] := Whole.here _ _ _
  by_cases h0 : k = 0
  · subst h0
    refine ⟨.slice (some ⟨w.heap.size, 0, none⟩) 1 1, _, ?_, ⟨by simp, .inr ⟨w.heap.size, 1, _, rfl, Nat.le_refl _, hc, by simp, by simp [maxLen], rfl, by simp [byt]; exact bv_128.symm⟩⟩, (Below.refl _ _).alloc (Nat.le_refl _) _⟩
    simp [Builtin.append_, run_underlying Tryd.underlying39, run_underlying Tryd.underlying3, sizeOf, typeInfo, hi, asInt, asIntOf, IntKind.wrap_i64, storeCells, Result.andThen]
  · have hold : (Builtin.firstCells i0.size 1 (.slice (some ⟨w.heap.size, 0, none⟩) 1 1)).run Tryd.prog (w.alloc (.cells #[.int .u8 128] 5)).drew = .ok [Value.int .u8 128].toArray (w.alloc (.cells #[.int .u8 128] 5)).drew := by
      refine run_firstCells_some _ _ _ _ _ _ _ (by simp [hz1]) (fun j v hv => ?_)
      rw [Addr.add_mid]
      match j, hv with
      | 0, hv => simp at hv; subst hv; exact hc.cell 0
      | j + 1, hv => simp at hv
    have hrun := Lib.run_append_grow_zeros (P := Tryd.prog) (w.alloc (.cells #[.int .u8 128] 5)) 39 3 ty 5 i0 (.int .u8 0) .i64 .i64 Tryd.underlying39 Tryd.underlying3 hi hz0 (some ⟨w.heap.size, 0, none⟩) 1 1 _ hold k (by omega) (by omega) (by omega) (by omega) (by rw [hz2]; omega) (by
      have := nextslicecap_le (need := 1 + k) (old := 1) (by omega)
      rw [hz2]; omega)
    have hge := grownCap_ge (w.alloc (.cells #[.int .u8 128] 5)) (1 + k) 1 5
    have hle := grownCap_le_maxLen (w.alloc (.cells #[.int .u8 128] 5)) (1 + k) 1 5 (by unfold maxLen; omega)
    generalize grownCap (w.alloc (.cells #[.int .u8 128] 5)) (1 + k) 1 5 = C at *
    rw [zeroCells_byt, zeroCells_byt] at hrun
    have hl : (128 :: List.replicate k (0 : B8)).length = 1 + k := by simp; omega
    rw [hl]
    refine ⟨_, _, hrun, ⟨by simp; omega, .inr ⟨_, C, _, rfl, by simp, heap_alloc_new _ _, hge, hle, ?_, ?_⟩⟩, ?_⟩
    · simp; omega
    · simp [byt]
      rw [Nat.add_comm 1 k, List.take_succ_cons, List.take_replicate, Nat.min_eq_left (by omega), show bv 128#8 = 128 from bv_128]
    · exact ((Below.refl _ _).alloc (Nat.le_refl _) _).drew.alloc (by simp) _

set_option maxRecDepth 20000 in
set_option maxHeartbeats 1000000 in
theorem padding (n : Nat) (hn : n ≤ 1000000000) (w : World) :
    Calls Tryd.prog 87 #[.int .i64 (n : Int)] w fun e w' => ∃ v', e = .returned v' ∧ Bytes w' (fun g => w.heap.size ≤ g) v' (pad n) ∧ Below w.heap.size w w' := by
  have hk : (((119 - n % 64) % 64 : Nat) : Int) = (119 - (n : Int) % 64) % 64 := by omega
  have hr := fun ty => run_pad_zeros w ty ((119 - n % 64) % 64) (by omega)
  rw [hk] at hr
  clear hk
  have HR := Lib.hid hr
  clear hr
  go_enter Tryd.func87, Tryd.ntmps87
  go_wp2_with (at_builtin; obtain ⟨v1, w1, hr1, ho1, hb1⟩ := HR.out 39; refine Lib.wpList_append_run _ rfl _ _ _ _ rfl _ _ rfl rfl _ _ hr1 ?_)
  have hc := appendNumber v1 (128 :: List.replicate ((119 - n % 64) % 64) (0 : B8)) (n * 8) 8 w.heap.size w1 ho1 hb1.size (by simp; omega) (by omega)
  rw [show ((n * 8 : Nat) : Int) = (n : Int) * 8 by omega] at hc
  have HC := Lib.hid hc
  clear hc hr1
  refine HC.out.mono ?_
  rintro e w2 ⟨v2, rfl, ho2, hb2, _⟩
  clear HC HR
  go_wp2
  go_ret
  refine ⟨v2, rfl, Bytes.of_own ?_, hb1.trans hb2⟩
  simpa [pad] using ho2
end Go.Proofs.YteekdhcffiaaaaaDoor
namespace Go.Proofs.YteekdhcffiaaaaaDoor
open Go Go.RowKit Sh Leaf

abbrev Own (w : World) (base : Nat) (v : Value) (l : List B8) : Prop := w.ownsRow base 5 1 v l.length (l.map byt)
theorem own_nil (w : World) (base : Nat) : Own w base (.slice none 0 0) [] := ⟨by simp, .inl ⟨rfl, by simp⟩⟩
theorem byt_lit (n : Nat) (h : n < 256) : byt (BitVec.ofNat 8 n) = .int .u8 (n : Int) := by rw [byt, bv_lit n h]
theorem own_mono {w : World} {base base' : Nat} {v : Value} {l : List B8} (h : Own w base v l) (hb : base' ≤ base) : Own w base' v l := by
  refine ⟨h.1, ?_⟩
  rcases h.2 with h2 | ⟨g, cap, cur, hv, hg, r⟩
  · exact .inl h2
  · exact .inr ⟨g, cap, cur, hv, by omega, r⟩
theorem own_cell {w : World} {base : Nat} {v : Value} {l : List B8} (h : Own w base v l) (k : Nat) (hk : k < l.length) :
    ∃ g cap, v = .slice (some ⟨g, 0, none⟩) l.length cap ∧ base ≤ g ∧ w.cell? ⟨g, k, none⟩ = some (byt (l.getD k 0)) ∧ w.frozen? ⟨g, k, none⟩ = false ∧ ∀ x : B8, Own (w.setCell ⟨g, k, none⟩ (byt x)) base v (l.set k x) := by
  obtain ⟨g, cap, cur, rfl, hg, hh, hc, hm, hs, ht⟩ := own_open h (by omega)
  refine ⟨g, cap, rfl, hg, ?_, hh.frozen k, fun x => ?_⟩
  · rw [hh.cell, ht k l[k] (List.getElem?_eq_getElem hk), List.getD_eq_getElem?_getD, List.getElem?_eq_getElem hk]; rfl
  · have hset := hh.set k (byt x)
    refine ⟨by simp, .inr ⟨g, cap, _, by rw [List.length_set], hg, hset, by rw [List.length_set]; exact hc, hm, ?_, ?_⟩⟩
    · have hsz : cur.size = cap := by
        rcases h.2 with ⟨h2, _⟩ | ⟨g', cap', cur', hv, _, hh', _, _, hs', _⟩
        · cases h2
        · cases hv
          have e : Whole w g 5 cur' := hh'
          unfold Whole at e hh
          rw [hh] at e
          cases e
          omega
      rw [Array.size_setIfInBounds]
      omega
    · apply List.ext_getElem?
      intro j
      rw [List.getElem?_take, List.getElem?_map, List.getElem?_set]
      by_cases hj : j < (l.set k x).length * 1
      · rw [if_pos hj]
        rw [List.length_set] at hj
        have hjl : j < l.length := by omega
        rw [Array.getElem?_toList, Array.getElem?_setIfInBounds]
        by_cases e : k = j
        · subst e
          rw [if_pos rfl, if_pos (by omega), if_pos rfl, if_pos hk]
          rfl
        · rw [if_neg e, if_neg e, ht j l[j] (List.getElem?_eq_getElem hjl), List.getElem?_eq_getElem hjl]
          rfl
      · rw [if_neg hj]
        rw [List.length_set] at hj
        rw [if_neg (by omega), List.getElem?_eq_none (by omega)]
        rfl
end Go.Proofs.YteekdhcffiaaaaaDoor
namespace Go.Proofs.YteekdhcffiaaaaaDoor
open Go Go.RowKit Sh Leaf

set_option maxHeartbeats 1000000 in
theorem grow (n : Nat) (h0 : 0 < n) (hn : n ≤ 1000000000) (w : World) :
    Calls Tryd.prog 77 #[.slice none 0 0, .int .i64 (n : Int)] w fun e w' => ∃ v', e = .returned v' ∧ w'.ownsRow w.heap.size 5 1 v' 0 [] ∧ Below w.heap.size w w' := by
  obtain ⟨i0, hi, hz0, hz1, hz2⟩ := info_parts byteInfo
  have hr := fun ty => Lib.run_append_nil_zeros (P := Tryd.prog) w 39 3 ty 5 i0 (.int .u8 0) .i64 .i64 Tryd.underlying39 Tryd.underlying3 hi hz0 n h0 (by omega) (by omega) (by rw [hz2]; omega)
  have hge := grownCap_ge w n 0 5
  have hle := grownCap_le_maxLen w n 0 5 (by unfold maxLen; omega)
  generalize grownCap w n 0 5 = C at *
  rw [zeroCells_byt, zeroCells_byt] at hr
  have ho : (w.drew.alloc (.cells (((List.replicate n (0 : B8)).map byt).toArray ++ ((List.replicate (C - n) (0 : B8)).map byt).toArray) 5)).ownsRow w.heap.size 5 1 (.slice (some ⟨w.heap.size, 0, none⟩) 0 C) 0 [] :=
    ⟨rfl, .inr ⟨_, C, _, rfl, Nat.le_refl _, heap_alloc_new _ _, by omega, hle, by simp; omega, by simp⟩⟩
  have hb : Below w.heap.size w (w.drew.alloc (.cells (((List.replicate n (0 : B8)).map byt).toArray ++ ((List.replicate (C - n) (0 : B8)).map byt).toArray) 5)) := (Below.refl _ _).drew.alloc (by simp) _
  generalize (w.drew.alloc (.cells (((List.replicate n (0 : B8)).map byt).toArray ++ ((List.replicate (C - n) (0 : B8)).map byt).toArray) 5)) = w1 at *
  have HR := Lib.hid hr
  clear hr hi hz0 hz1 hz2
  go_enter Tryd.func77, Tryd.ntmps77
  go_wp2_with (at_builtin; refine Lib.wpList_append_run _ rfl _ _ _ _ rfl _ _ rfl rfl _ _ (HR.out 39) ?_)
  go_ret
  exact ⟨_, rfl, ho, hb⟩
end Go.Proofs.YteekdhcffiaaaaaDoor
namespace Go.Proofs.YteekdhcffiaaaaaDoor
open Go Go.RowKit Sh Leaf

section
variable {α : Type} {f : α → List Value} {n : Nat}
def fl (f : α → List Value) (l : List α) : List Value := l.flatMap f
theorem fl_nil : fl f [] = [] := rfl
theorem fl_cons (p : α) (t : List α) : fl f (p :: t) = f p ++ fl f t := by rw [fl, List.flatMap_cons]; rfl
theorem fl_one (p : α) : fl f [p] = f p := by rw [fl_cons, fl_nil, List.append_nil]
theorem fl_append (a b : List α) : fl f (a ++ b) = fl f a ++ fl f b := by rw [fl, List.flatMap_append]; rfl
theorem fl_length (hn : ∀ x, (f x).length = n) (l : List α) : (fl f l).length = l.length * n := by
  induction l with
  | nil => simp [fl]
  | cons p t ih => rw [fl_cons, List.length_append, hn, ih, List.length_cons, Nat.succ_mul]; omega
theorem fl_at (hn : ∀ x, (f x).length = n) : ∀ (l : List α) (j : Nat) (p : α), l[j]? = some p → ∀ i v, (f p)[i]? = some v → (fl f l)[j * n + i]? = some v
  | [], j, p, h, _, _, _ => by simp at h
  | q :: t, 0, p, h, i, v, hv => by
    simp at h
    subst h
    rw [fl_cons, Nat.zero_mul, Nat.zero_add, List.getElem?_append_left (by have := (List.getElem?_eq_some_iff.1 hv).1; exact this), hv]
  | q :: t, j + 1, p, h, i, v, hv => by
    rw [fl_cons, List.getElem?_append_right (by rw [hn, Nat.succ_mul]; omega), hn, show (j + 1) * n + i - n = j * n + i by rw [Nat.succ_mul]; omega]
    exact fl_at hn t j p (by simpa using h) i v hv
theorem fl_take (hn : ∀ x, (f x).length = n) : ∀ (l : List α) (k : Nat), fl f (l.take k) = (fl f l).take (k * n)
  | [], k => by simp [fl]
  | p :: t, 0 => by simp [fl]
  | p :: t, k + 1 => by
    rw [List.take_succ_cons, fl_cons, fl_cons, fl_take hn t k, List.take_append, hn, show (k + 1) * n - n = k * n by rw [Nat.succ_mul]; omega, List.take_of_length_le (l := f p) (by rw [hn, Nat.succ_mul]; omega)]
theorem fl_drop (hn : ∀ x, (f x).length = n) : ∀ (l : List α) (k : Nat), fl f (l.drop k) = (fl f l).drop (k * n)
  | [], k => by simp [fl]
  | p :: t, 0 => by simp [fl]
  | p :: t, k + 1 => by
    rw [List.drop_succ_cons, fl_cons, fl_drop hn t k, List.drop_append, hn, show (k + 1) * n - n = k * n by rw [Nat.succ_mul]; omega, List.drop_of_length_le (l := f p) (by rw [hn, Nat.succ_mul]; omega)]
    rfl
theorem fl_set (hn : ∀ x, (f x).length = n) (l : List α) (k : Nat) (p : α) (hk : k < l.length) (i : Nat) (v : Value) (q : α) (hp : l[k]? = some p) (hi : i < n) (hq : f q = (f p).set i v) : fl f (l.set k q) = (fl f l).set (k * n + i) v := by
  apply List.ext_getElem?
  intro j
  have hlen : (fl f (l.set k q)).length = l.length * n := by rw [fl_length hn, List.length_set]
  rcases Nat.lt_or_ge j (l.length * n) with hj | hj
  · have hn0 : 0 < n := by omega
    have hjk : j / n < l.length := Nat.div_lt_of_lt_mul (by rw [Nat.mul_comm]; exact hj)
    have hjd : j / n * n + j % n = j := by rw [Nat.mul_comm]; exact Nat.div_add_mod j n
    have hjm : j % n < n := Nat.mod_lt _ hn0
    rw [List.getElem?_set]
    by_cases e : k = j / n
    · subst e
      have hpj : (l.set (j / n) q)[j / n]? = some q := by rw [List.getElem?_set_self hk]
      obtain ⟨u, hu⟩ : ∃ u, (f q)[j % n]? = some u := ⟨_, List.getElem?_eq_getElem (by rw [hn]; exact hjm)⟩
      have h1 := fl_at hn _ (j / n) q hpj (j % n) u hu
      rw [hjd] at h1
      rw [h1]
      rw [hq, List.getElem?_set] at hu
      by_cases e2 : i = j % n
      · subst e2
        rw [if_pos rfl, if_pos (by rw [hn]; exact hjm)] at hu
        rw [if_pos hjd, if_pos (by rw [hjd, fl_length hn]; exact hj), ← hu]
      · rw [if_neg e2] at hu
        rw [if_neg (by omega)]
        have h2 := fl_at hn l (j / n) p hp (j % n) u hu
        rw [hjd] at h2
        exact h2.symm
    · have hne : ¬ k * n + i = j := fun h => e (by
        rw [← h, Nat.mul_comm, Nat.mul_add_div hn0, Nat.div_eq_of_lt hi, Nat.add_zero])
      rw [if_neg hne]
      obtain ⟨r, hr⟩ : ∃ r, l[j / n]? = some r := ⟨_, List.getElem?_eq_getElem hjk⟩
      obtain ⟨u, hu⟩ : ∃ u, (f r)[j % n]? = some u := ⟨_, List.getElem?_eq_getElem (by rw [hn]; exact hjm)⟩
      have h1 := fl_at hn (l.set k q) (j / n) r (by rw [List.getElem?_set, if_neg e]; exact hr) (j % n) u hu
      have h2 := fl_at hn l (j / n) r hr (j % n) u hu
      rw [hjd] at h1 h2
      rw [h1, h2]
  · rw [List.getElem?_eq_none (by rw [hlen]; exact hj), List.getElem?_eq_none (by rw [List.length_set, fl_length hn]; exact hj)]
def Seq (f : α → List Value) (ok : α → Prop) (w : World) (Q : Nat → Prop) (A : Option Addr) (c : Nat) (l : List α) : Prop :=
  l.length ≤ c ∧ c ≤ maxLen ∧ (A = none → c = 0) ∧ (∀ p ∈ l, ok p) ∧ (0 < l.length → ∃ g o, A = some ⟨g, o, none⟩ ∧ Q g ∧ g < w.heap.size ∧ w.rangeAt g o (fl f l))
variable {ok : α → Prop} {w w' : World} {Q Q' : Nat → Prop} {A : Option Addr} {c : Nat} {l : List α}
theorem Seq.keep (h : Seq f ok w Q A c l) (hs : w.heap.size ≤ w'.heap.size) (hk : ∀ g, g < w.heap.size → Q g → w'.heap[g]? = w.heap[g]?) : Seq f ok w' Q A c l := by
  obtain ⟨h1, h2, h3, h4, h5⟩ := h
  refine ⟨h1, h2, h3, h4, fun hl => ?_⟩
  obtain ⟨g, o, hA, hq, hg, hc⟩ := h5 hl
  refine ⟨g, o, hA, hq, by omega, fun j v hj => ?_⟩
  rw [← hc j v hj]
  exact World.cell?_of_block (w := w) (hk g hg hq)
theorem Seq.below {B : Nat} (h : Seq f ok w Q A c l) (hb : Below B w w') (hB : w.heap.size ≤ B) : Seq f ok w' Q A c l := h.keep hb.size fun g hg _ => hb.block g (by omega)
theorem Seq.alloc (h : Seq f ok w Q A c l) (o : Obj) : Seq f ok (w.alloc o) Q A c l := h.below ((Below.refl w.heap.size w).alloc (Nat.le_refl _) o) (Nat.le_refl _)
theorem Seq.drew (h : Seq f ok w Q A c l) : Seq f ok w.drew Q A c l := h
theorem Seq.mono (h : Seq f ok w Q A c l) (hq : ∀ g, g < w.heap.size → Q g → Q' g) : Seq f ok w Q' A c l := by
  obtain ⟨h1, h2, h3, h4, h5⟩ := h
  refine ⟨h1, h2, h3, h4, fun hl => ?_⟩
  obtain ⟨g, o, hA, hg, hlt, hc⟩ := h5 hl
  exact ⟨g, o, hA, hq g hlt hg, hlt, hc⟩
theorem Seq.nil (w : World) (Q : Nat → Prop) : Seq f ok w Q none 0 [] := ⟨by simp, by simp [maxLen], fun _ => rfl, fun p h => by simp at h, fun h => absurd h (by simp)⟩
theorem Seq.get (hn : ∀ x, (f x).length = n) (h : Seq f ok w Q A c l) (j : Nat) (p : α) (hj : l[j]? = some p) : ∃ g o, A = some ⟨g, o, none⟩ ∧ Q g ∧ g < w.heap.size ∧ ∀ i v, (f p)[i]? = some v → w.cell? ⟨g, o + j * n + i, none⟩ = some v := by
  obtain ⟨h1, h2, h3, h4, h5⟩ := h
  have hlt := (List.getElem?_eq_some_iff.1 hj).1
  obtain ⟨g, o, hA, hg, hl, hc⟩ := h5 (by omega)
  exact ⟨g, o, hA, hg, hl, fun i v hv => by rw [Nat.add_assoc]; exact hc (j * n + i) v (fl_at hn l j p hj i v hv)⟩
theorem Seq.cut (hn : ∀ x, (f x).length = n) (h : Seq f ok w Q A c l) (k : Nat) (hk : k ≤ l.length) : (l.take k).length = k ∧ Seq f ok w Q A c (l.take k) := by
  obtain ⟨h1, h2, h3, h4, h5⟩ := h
  have e : (l.take k).length = k := by rw [List.length_take]; omega
  refine ⟨e, by omega, h2, h3, fun p hp => h4 p (List.mem_of_mem_take hp), fun hl => ?_⟩
  obtain ⟨g, o, hA, hq, hg, hc⟩ := h5 (by omega)
  refine ⟨g, o, hA, hq, hg, fun j v hj => hc j v ?_⟩
  rw [fl_take hn, List.getElem?_take] at hj
  split at hj
  · exact hj
  · cases hj
theorem Seq.from (hn : ∀ x, (f x).length = n) (h : Seq f ok w Q A c l) (k : Nat) (hk : k ≤ l.length) : (l.drop k).length = l.length - k ∧ Seq f ok w Q (if c = k then A else A.map (·.add (k * n))) (c - k) (l.drop k) := by
  obtain ⟨h1, h2, h3, h4, h5⟩ := h
  have e : (l.drop k).length = l.length - k := List.length_drop
  refine ⟨e, by omega, by omega, fun hA => ?_, fun p hp => h4 p (List.mem_of_mem_drop hp), fun hl => ?_⟩
  · by_cases hck : c = k
    · omega
    · rw [if_neg hck] at hA
      have : A = none := by cases A with
        | none => rfl
        | some a => simp at hA
      have := h3 this
      omega
  · obtain ⟨g, o, hA, hq, hg, hc⟩ := h5 (by omega)
    subst hA
    refine ⟨g, o + k * n, ?_, hq, hg, fun j v hj => ?_⟩
    · rw [if_neg (by omega)]
      simp [Addr.add_mid]
    · rw [fl_drop hn, List.getElem?_drop] at hj
      have := hc (k * n + j) v hj
      rw [← Nat.add_assoc] at this
      exact this
abbrev OwnS (f : α → List Value) (n : Nat) (e : TypeId) (w : World) (base : Nat) (v : Value) (l : List α) : Prop := w.ownsRow base e n v l.length (fl f l)
variable {e : TypeId} {base : Nat} {v : Value}
theorem owns_nil (w : World) (base : Nat) : OwnS f n e w base (.slice none 0 0) [] := ⟨by simp [fl], .inl ⟨rfl, by simp⟩⟩
theorem owns_empty {g : Nat} (h : w.heap[g]? = some (.cells #[] e (0, 0))) (hb : base ≤ g) : OwnS f n e w base (.slice (some ⟨g, 0, none⟩) 0 0) [] :=
  ⟨by simp [fl], .inr ⟨g, 0, #[], rfl, hb, h, Nat.le_refl _, by unfold maxLen; omega, by simp, by simp [fl]⟩⟩
theorem OwnS.seq (h : OwnS f n e w base v l) (hl : ∀ p ∈ l, ok p) : ∃ A c, v = .slice A l.length c ∧ Seq f ok w (fun g => base ≤ g) A c l := by
  rcases h.2 with ⟨rfl, h0⟩ | ⟨g, cap, cur, rfl, hg, hh, hc, hm, hs, ht⟩
  · have : l = [] := List.eq_nil_of_length_eq_zero h0
    subst this
    exact ⟨none, 0, rfl, Seq.nil _ _⟩
  · have hlt : g < w.heap.size := by
      rcases Nat.lt_or_ge g w.heap.size with h | h
      · exact h
      · rw [Array.getElem?_eq_none h] at hh; cases hh
    refine ⟨_, cap, rfl, hc, hm, fun h => (by cases h), hl, fun _ => ⟨g, 0, rfl, hg, hlt, fun j v hj => ?_⟩⟩
    rw [Nat.zero_add, cell_of_row w g j cur _ _ hh]
    rw [← ht, List.getElem?_take] at hj
    split at hj
    · simpa using hj
    · cases hj
theorem OwnS.cell (hn : ∀ x, (f x).length = n) (h : OwnS f n e w base v l) (k : Nat) (p : α) (hp : l[k]? = some p) :
    ∃ g cap, v = .slice (some ⟨g, 0, none⟩) l.length cap ∧ base ≤ g ∧ g < w.heap.size ∧ l.length ≤ cap ∧ cap ≤ maxLen ∧ (∀ i u, (f p)[i]? = some u → w.cell? ⟨g, k * n + i, none⟩ = some u ∧ w.frozen? ⟨g, k * n + i, none⟩ = false) ∧
      ∀ i u q, i < n → f q = (f p).set i u → OwnS f n e (w.setCell ⟨g, k * n + i, none⟩ u) base v (l.set k q) := by
  have hk := (List.getElem?_eq_some_iff.1 hp).1
  rcases h.2 with ⟨rfl, h0⟩ | ⟨g, cap, cur, rfl, hg, hh, hc, hm, hs, ht⟩
  · omega
  · have hW : Whole w g e cur := hh
    refine ⟨g, cap, rfl, hg, hW.lt, hc, hm, fun i u hi => ⟨?_, hW.frozen _⟩, fun i u q hi hq => ?_⟩
    · have h1 := fl_at hn l k p hp i u hi
      rw [hW.cell]
      rw [← ht, List.getElem?_take] at h1
      split at h1
      · simpa using h1
      · cases h1
    · have hset := hW.set (k * n + i) u
      have e1 := fl_set hn l k p hk i u q hp hi hq
      have hlen := fl_length hn (l.set k q)
      refine ⟨by rw [hlen], .inr ⟨g, cap, _, by rw [List.length_set], hg, hset, by rw [List.length_set]; exact hc, hm, by rw [Array.size_setIfInBounds]; exact hs, ?_⟩⟩
      rw [Array.toList_setIfInBounds, List.take_set, List.length_set, ht, ← e1]
end
section
variable {P : Program} {α : Type} {f : α → List Value} {n : Nat} {ok : α → Prop}
theorem run_append_seq {w : World} (t ty e : TypeId) (z : Value) (bytes : Nat) (ht : P.underlying t = some (.slice e)) (hinfo : (P.info? e).map (fun i => (i.zero, i.size, i.bytes)) = some (some z, n, bytes)) (hz : z.cells.size = n) (hn0 : 0 < n) (hby : bytes ≤ 1000)
    (hn : ∀ x, (f x).length = n) (hone : ∀ x, ∀ v ∈ f x, v.oneCell' = true)
    (base : Nat) (v : Value) (l : List α) (hown : OwnS f n e w base v l) {Q : Nat → Prop} {A : Option Addr} {c : Nat} {ys : List α} (hr : Seq f ok w Q A c ys) (h47 : l.length + ys.length ≤ 100000000) (hbase : base ≤ w.heap.size) :
    ∃ v' w', (Builtin.append_ #[t, t] ty #[v, .slice A ys.length c]).run P w = .ok v' w' ∧ OwnS f n e w' base v' (l ++ ys) ∧ Below base w w' ∧ w.grownBy w' v.ownBlock := by
  obtain ⟨i0, hi, hz0, hz1, hz2⟩ := info_parts hinfo
  obtain ⟨h1, h2, h3, h4, h5⟩ := hr
  cases A with
  | none =>
    have h0 := h3 rfl
    subst h0
    have hy : ys = [] := List.eq_nil_of_length_eq_zero (by omega)
    subst hy
    have hrun := run_append_owned_none (P := P) (w := w) base t ty e i0 n ht hi v l.length (fl f l) hown
    exact ⟨v, w, hrun, by simpa using hown, Below.refl _ _, ⟨rfl, rfl, rfl, Nat.le_refl _, fun _ _ _ => rfl⟩⟩
  | some ad =>
    have hcells : ∀ j u, (fl f ys)[j]? = some u → w.cell? (ad.add j) = some u := fun j u hj => by
      have hlt := (List.getElem?_eq_some_iff.1 hj).1
      rw [fl_length hn] at hlt
      have hpos : 0 < ys.length := Nat.pos_of_ne_zero fun h0 => by rw [h0] at hlt; omega
      obtain ⟨g, o', e', _, _, hcell⟩ := h5 hpos
      injection e' with e'
      subst e'
      rw [Addr.add_mid]
      exact hcell j u hj
    have hbytes : (l.length + ys.length) * bytes ≤ 140737488355328 := Nat.le_trans (Nat.mul_le_mul h47 hby) (by decide)
    obtain ⟨v', w', hrun, k1, k2⟩ := run_append_own w base t ty e i0 z n bytes ht hi hz0 hz1 hz2 hz hn0 v l.length (fl f l) hown ad ys.length c (fl f ys) (fl_length hn ys) hcells (fun u hu => by
      obtain ⟨x, _, hx⟩ := List.mem_flatMap.1 hu
      exact hone x u hx) (by unfold maxLen; omega) hbytes hbase
    refine ⟨v', w', hrun, ?_, (Below.refl _ _).grown k2.1 hbase (fun k hk => (hown.lt k hk).1), k2.1⟩
    show w'.ownsRow base _ n v' (l ++ ys).length (fl f (l ++ ys))
    rw [List.length_append, fl_append]
    exact k1
theorem wpList_append_seq {w : World} {ops : Array Oper} {rest : List Oper} {o : Oper} {a : Act} {R : Exit → Act → World → Prop} (hw : Region.wanted o (yielded ops a.tmps) = true) (s x : Operand) (t e : TypeId) (z : Value) (bytes : Nat)
    (ho : o.op = .call { callee := .builtin .append, args := #[s, x], argTypes := #[t, t] }) (ht : P.underlying t = some (.slice e)) (hinfo : (P.info? e).map (fun i => (i.zero, i.size, i.bytes)) = some (some z, n, bytes)) (hz : z.cells.size = n) (hn0 : 0 < n) (hby : bytes ≤ 1000)
    (hn : ∀ x, (f x).length = n) (hone : ∀ x, ∀ v ∈ f x, v.oneCell' = true)
    (base : Nat) (v : Value) (l : List α) (hs : a.eval s = v) (hown : OwnS f n e w base v l) (Q : Nat → Prop) (A : Option Addr) (m c : Nat) (ys : List α) (hm : ys.length = m) (hx : a.eval x = .slice A m c) (hv : Seq f ok w Q A c ys) (h47 : l.length + ys.length ≤ 100000000) (hbase : base ≤ w.heap.size)
    (h : ∀ v' w', OwnS f n e w' base v' (l ++ ys) → Below base w w' → w.grownBy w' v.ownBlock → wpList P ops R rest (a.put o.dst v') w') : wpList P ops R (o :: rest) a w := by
  subst hm
  obtain ⟨v', w', hrun, h1, h2, h3⟩ := run_append_seq (ty := o.type) t e z bytes ht hinfo hz hn0 hby hn hone base v l hown hv h47 hbase
  show if Region.wanted o (yielded ops a.tmps) then _ else _
  rw [if_pos hw]
  left
  unfold Oper.wp
  simp [execOp, ho, resolve, invoke, builtin, hs, hx, hrun, Result.andThen]
  exact h v' w' h1 h2 h3
theorem step_append_seq {w : World} {ops : Array Oper} {o : Oper} {a : Act} {K : Act → World → Prop} {R : Exit → Act → World → Prop} {E : Prop} (hw : Region.wanted o (yielded ops a.tmps) = true) (s x : Operand) (t e : TypeId) (z : Value) (bytes : Nat)
    (ho : o.op = .call { callee := .builtin .append, args := #[s, x], argTypes := #[t, t] }) (ht : P.underlying t = some (.slice e)) (hinfo : (P.info? e).map (fun i => (i.zero, i.size, i.bytes)) = some (some z, n, bytes)) (hz : z.cells.size = n) (hn0 : 0 < n) (hby : bytes ≤ 1000)
    (hn : ∀ x, (f x).length = n) (hone : ∀ x, ∀ v ∈ f x, v.oneCell' = true)
    (base : Nat) (v : Value) (l : List α) (hs : a.eval s = v) (hown : OwnS f n e w base v l) (Q : Nat → Prop) (A : Option Addr) (m c : Nat) (ys : List α) (hm : ys.length = m) (hx : a.eval x = .slice A m c) (hv : Seq f ok w Q A c ys) (h47 : l.length + ys.length ≤ 100000000) (hbase : base ≤ w.heap.size)
    (h : ∀ v' w', OwnS f n e w' base v' (l ++ ys) → Below base w w' → w.grownBy w' v.ownBlock → K (a.put o.dst v') w') :
    if Region.wanted o (yielded ops a.tmps) = true then Oper.wp P o a w K R else E := by
  subst hm
  rw [if_pos hw]
  obtain ⟨v', w', hrun, h1, h2, h3⟩ := run_append_seq (ty := o.type) t e z bytes ht hinfo hz hn0 hby hn hone base v l hown hv h47 hbase
  unfold Oper.wp
  simp [execOp, ho, resolve, invoke, builtin, hs, hx, hrun, Result.andThen]
  exact h v' w' h1 h2 h3
theorem seq_one {w : World} {g : Nat} {e : TypeId} {cs : Array Value} {p : α} (h : w.heap[g]? = some (.cells cs e (0, 0))) (hcs : cs = (f p).toArray) (hp : ok p) : Seq f ok w (fun b => b = g) (some ⟨g, 0, none⟩) 1 [p] := by
  subst hcs
  refine ⟨by simp, by unfold maxLen; omega, fun h => (by cases h), fun q hq => by rw [List.mem_singleton.1 hq]; exact hp, fun _ => ⟨g, 0, rfl, rfl, (Array.getElem?_eq_some_iff.1 h).1, fun j v hj => ?_⟩⟩
  rw [fl_one] at hj
  have hW : Whole w g e (f p).toArray := h
  rw [Nat.zero_add, hW.cell]
  simpa using hj
theorem run_seq_from {t : TypeId} (ht : P.underlying t = some (.slice (P.elem t))) (hsz : (P.info? (P.elem t)).map (·.size) = some n) (A : Option Addr) (len c k : Nat) (hk : k ≤ len) (W : World) :
    (Instr.sliceAt t (.slice A len c) (some (.int .i64 (k : Int))) none none).run P W = .ok (.slice (if c = k then A else A.map (·.add (k * n))) (len - k) (c - k)) W := by
  have hs : (sizeOf (P.elem t)).run P W = .ok n W := by
    cases hq : P.info? (P.elem t) with
    | none => simp [hq] at hsz
    | some i => simp [hq] at hsz; simp [sizeOf, typeInfo, hq, hsz]
  rw [run_sliceAt_slice W _ _ _ _ _ ht, run_slice_l W t A len c ht .i64 (k : Int) (by omega) (by omega), hs]
  simp [sliced, Result.andThen]
end
end Go.Proofs.YteekdhcffiaaaaaDoor
namespace Go.Proofs.YteekdhcffiaaaaaDoor
open Go Go.RowKit Sh Leaf

theorem clone_own (v : Value) (l : List B8) (Q : Nat → Prop) (w : World) (hr : Bytes w Q v l) (hl : l.length ≤ 1000000000) :
    Calls Tryd.prog 48 #[v] w fun e w' => ∃ v', e = .returned v' ∧ Own w' w.heap.size v' l ∧ Below w.heap.size w w' := by
  have hr' := hr
  obtain ⟨A, c, rfl, hc1, hc2, hc3, hc4⟩ := hr'
  have he := fun (W : World) => Lib.run_eql_slice_nil (P := Tryd.prog) W 39 5 A l.length c 0 0 Tryd.underlying39
  clear hc4
  cases A with
  | none =>
    have h0 := hc3 rfl
    have hy : l = [] := List.eq_nil_of_length_eq_zero (by omega)
    subst hy
    subst h0
    simp only [List.length_nil] at he ⊢
    clear hc3 hr
    go_enter Tryd.func48, Tryd.ntmps48
    go_wp2
    go_ret
    exact ⟨_, rfl, own_nil _ _, Below.refl _ _⟩
  | some ad =>
    clear hc3
    go_enter Tryd.func48, Tryd.ntmps48
    go_wp2_with (at_builtin; refine wpList_append_bytes rfl _ _ rfl w.heap.size (.slice (some ⟨w.heap.size, 0, none⟩) 0 0) [] rfl (own_lit w w.heap.size [] (Nat.le_refl _) (by simp)) Q _ l rfl (hr.alloc _) (by simp; omega) (by simp) ?_; intro v' w' h1 h2)
    go_ret
    exact ⟨v', rfl, by simpa using h1, ((Below.refl _ _).alloc (Nat.le_refl _) _).trans h2⟩

theorem bits_group (m : Nat) : bits .or .u8 ((m : Int) % 256) 128 = bv (BitVec.ofNat 8 (m % 128 + 128)) := by
  have h1 : ((m : Int) % 256) = bv (BitVec.ofNat 8 m) := by rw [bv_ofNat]; omega
  have h2 : (128 : Int) = bv 128 := by unfold bv; rfl
  rw [h1, h2, bits_or_bv]
  congr 1
  apply BitVec.eq_of_toNat_eq
  rw [BitVec.toNat_or, BitVec.toNat_ofNat, BitVec.toNat_ofNat]
  have h3 : m % 2 ^ 8 = 128 * (m % 256 / 128) + m % 128 := by omega
  have h4 : (128 : B8).toNat = 128 := rfl
  have h5 : m % 256 / 128 = 0 ∨ m % 256 / 128 = 1 := by omega
  have h6 := Nat.two_pow_add_eq_or_of_lt (show m % 128 < 2 ^ 7 by omega) 1
  simp only [Nat.mul_one, Nat.reducePow] at h6 ⊢
  rw [h4, Nat.or_comm]
  rcases h5 with h5 | h5
  · rw [show m % 256 = m % 128 by omega, ← h6]; omega
  · rw [show m % 256 = 128 + m % 128 by omega, h6, ← Nat.or_assoc, Nat.or_self, ← h6]; omega

set_option maxHeartbeats 1000000 in
set_option maxRecDepth 100000 in
theorem append_ok (v : Value) (l : List B8) (Q : Nat → Prop) (n : Nat) (w : World) (hr : Bytes w Q v l) (hl : l.length ≤ 1000000) (hn : n ≤ 281474976710656) :
    Calls Tryd.prog 50 #[v, .int .i64 (n : Int)] w fun e w' => ∃ v', e = .returned (.tuple #[v', .int .i64 0]) ∧ Own w' w.heap.size v' (l ++ enc n) ∧ Below w.heap.size w w' := by
  have h7 := enc_len7 hn
  go_enter Tryd.func50, Tryd.ntmps50
  go_wp2_with fail
  refine (clone_own v l Q _ hr (by omega)).mono ?_
  rintro e w1 ⟨v1, rfl, hown, hb⟩
  go_wp2_with fail
  go_loopw [6, 1] (fun vb vn wr => ∃ (m : Nat) (xs : List B8), vn = .int .i64 m ∧ Own wr w.heap.size vb xs ∧ xs ++ enc m = l ++ enc n ∧ m ≤ n ∧ xs.length ≤ 1000007 ∧ Below w.heap.size w wr) (fun _ vn _ => (intOf vn).toNat)
  case atStart => exact ⟨n, l, rfl, hown, rfl, Nat.le_refl _, by omega, hb⟩
  case round =>
    obtain ⟨m, xs, rfl, hown', hx, hm, hxl, hb'⟩ := hrel
    clear hown hb
    have hbs := hb'.size
    have hlen := congrArg List.length hx
    simp only [List.length_append] at hlen
    have hp := enc_pos m
    by_cases hlt : m < 128
    · rw [enc_lt hlt] at hx
      have HX := Lib.hid hx
      have hz : (m : Int) = bv (BitVec.ofNat 8 m) := by rw [bv_ofNat]; omega
      have HZ := Lib.hid hz
      clear hx hz
      have hm256 : (m : Int) < 128 := by omega
      go_wp2_with (at_builtin; go_must (refine wpList_append_bytes rfl _ _ rfl w.heap.size _ xs rfl (hown'.alloc _) _ (.slice (some ⟨wr.heap.size, 0, none⟩) 1 1) _ rfl (bytes_one wr _ _ HZ.out) (by simp only [List.length_singleton]; omega) (by simp; omega) ?_; intro v' w' h1 h2))
      go_ret2
      refine ⟨v', rfl, ?_, (hb'.alloc (by omega) _).trans h2⟩
      rw [← HX.out]; exact h1
    · rw [enc_ge hlt] at hx
      have HX := Lib.hid hx
      have HZ := Lib.hid (bits_group m)
      clear hx
      go_wp2_with (at_builtin; go_must (refine wpList_append_bytes rfl _ _ rfl w.heap.size _ xs rfl (hown'.alloc _) _ (.slice (some ⟨wr.heap.size, 0, none⟩) 1 1) _ rfl (bytes_one wr _ _ HZ.out) (by simp only [List.length_singleton]; omega) (by simp; omega) ?_; intro v' w' h1 h2))
      go_roundw
      case rel =>
        refine ⟨m / 128, xs ++ [BitVec.ofNat 8 (m % 128 + 128)], by go_num, h1, ?_, by omega, by simp; omega, (hb'.alloc (by omega) _).trans h2⟩
        rw [List.append_assoc]; exact HX.out
      case measure => simp [intOf]; omega

end Go.Proofs.YteekdhcffiaaaaaDoor
namespace Go.Proofs.YteekdhcffiaaaaaDoor
open Go Go.RowKit Sh Leaf

set_option maxRecDepth 100000 in
theorem number (n : Nat) (w : World) (hn : n ≤ 281474976710656) :
    Calls Tryd.prog 30 #[.int .i64 (n : Int)] w fun e w' => ∃ v', e = .returned v' ∧ Own w' w.heap.size v' (enc n) ∧ Below w.heap.size w w' := by
  have h7 := enc_len7 hn
  go_enter Tryd.func30, Tryd.ntmps30
  go_wp2_with fail
  go_loopw [3, 0] (fun vb vn wr => ∃ (m : Nat) (xs : List B8), vn = .int .i64 m ∧ Own wr w.heap.size vb xs ∧ xs ++ enc m = enc n ∧ m ≤ n ∧ xs.length ≤ 7 ∧ Below w.heap.size w wr) (fun _ vn _ => (intOf vn).toNat)
  case atStart => exact ⟨n, [], rfl, own_nil _ _, rfl, Nat.le_refl _, by simp, Below.refl _ _⟩
  case round =>
    obtain ⟨m, xs, rfl, hown', hx, hm, hxl, hb'⟩ := hrel
    have hbs := hb'.size
    have hlen := congrArg List.length hx
    simp only [List.length_append] at hlen
    have hp := enc_pos m
    by_cases hlt : m < 128
    · rw [enc_lt hlt] at hx
      have HX := Lib.hid hx
      have hz : (m : Int) = bv (BitVec.ofNat 8 m) := by rw [bv_ofNat]; omega
      have HZ := Lib.hid hz
      clear hx hz
      have hm256 : (m : Int) < 128 := by omega
      go_wp2_with (at_builtin; go_must (refine wpList_append_bytes rfl _ _ rfl w.heap.size _ xs rfl (hown'.alloc _) _ (.slice (some ⟨wr.heap.size, 0, none⟩) 1 1) _ rfl (bytes_one wr _ _ HZ.out) (by simp only [List.length_singleton]; omega) (by simp; omega) ?_; intro v' w' h1 h2))
      go_ret
      refine ⟨v', rfl, ?_, (hb'.alloc (by omega) _).trans h2⟩
      rw [← HX.out]; exact h1
    · rw [enc_ge hlt] at hx
      have HX := Lib.hid hx
      have hz : (m : Int) % 128 + 128 = bv (BitVec.ofNat 8 (m % 128 + 128)) := by rw [bv_ofNat]; omega
      have HZ := Lib.hid hz
      clear hx hz
      go_wp2_with (at_builtin; go_must (refine wpList_append_bytes rfl _ _ rfl w.heap.size _ xs rfl (hown'.alloc _) _ (.slice (some ⟨wr.heap.size, 0, none⟩) 1 1) _ rfl (bytes_one wr _ _ HZ.out) (by simp only [List.length_singleton]; omega) (by simp; omega) ?_; intro v' w' h1 h2))
      go_roundw
      case rel =>
        refine ⟨m / 128, xs ++ [BitVec.ofNat 8 (m % 128 + 128)], by go_num, h1, ?_, by omega, by simp; omega, (hb'.alloc (by omega) _).trans h2⟩
        rw [List.append_assoc]; exact HX.out
      case measure => simp [intOf]; omega

end Go.Proofs.YteekdhcffiaaaaaDoor
