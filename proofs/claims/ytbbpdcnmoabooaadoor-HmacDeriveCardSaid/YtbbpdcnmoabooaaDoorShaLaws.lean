/-
  Laws of single operations, in the forms that the walks of 'Write' and of the reference want: a part of a slice of bytes, a whole array out of the middle of a block.
-/
import Derived.Test.YtbbpdcnmoabooaaDoorShaBytes
import Derived.StillTailTactics
namespace Go.Proofs.YtbbpdcnmoabooaaDoor
open Go Go.RowKit Sh Leaf

section
variable {P : Program} {ops : Array Oper} {w : World} {rest : List Oper} {o : Oper} {a : Act}
theorem wpList_slice_run {Q : Exit → Act → World → Prop} (hgd : o.guard = none) (t : TypeId) (x : Operand) (lo hi mx : Option Operand) (ho : o.op = .slice t x lo hi mx) (v : Value)
    (hr : (Instr.sliceAt t (a.eval x) (lo.map a.eval) (hi.map a.eval) (mx.map a.eval)).run P w = .ok v w) (h : wpList P ops Q rest (a.put o.dst v) w) : wpList P ops Q (o :: rest) a w :=
  wpList_plain hgd fun K hK => by
    unfold Oper.wp execOp
    simp only [ho, Sem.run_bind, Sem.run_pure, hr, Result.andThen_ok]
    exact hK _ _ h
theorem wpStill_value {Q : Act → Prop} (hw : Region.wanted o (yielded ops a.tmps) = true) (v : Value) (hr : (execOp a.eval o).run P w = .ok (.value v) w) (h : wpStill P ops w Q rest (a.put o.dst v)) : wpStill P ops w Q (o :: rest) a := by
  show if Region.wanted o (yielded ops a.tmps) = true then _ else _
  rw [if_pos hw]
  unfold Oper.still
  rw [hr]
  exact ⟨rfl, h⟩
theorem wpStill_slice_run {Q : Act → Prop} (hw : Region.wanted o (yielded ops a.tmps) = true) (t : TypeId) (x : Operand) (lo hi mx : Option Operand) (ho : o.op = .slice t x lo hi mx) (v : Value)
    (hr : (Instr.sliceAt t (a.eval x) (lo.map a.eval) (hi.map a.eval) (mx.map a.eval)).run P w = .ok v w) (h : wpStill P ops w Q rest (a.put o.dst v)) : wpStill P ops w Q (o :: rest) a :=
  wpStill_value hw v (by unfold execOp; simp only [ho, Sem.run_bind, Sem.run_pure, hr, Result.andThen_ok]) h
theorem wpStill_load_run {Q : Act → Prop} (hw : Region.wanted o (yielded ops a.tmps) = true) (ty : TypeId) (x : Operand) (ho : o.op = .load ty x) (g off : Nat) (hx : a.eval x = .pointer (some ⟨g, off, none⟩))
    (cs : List Value) (d : TypeDesc) (hc : w.rangeAt g off cs) (hu : P.underlying ty = some d) (hd : d.isRow = true) (hi : (P.info? ty).map (·.size) = some cs.length)
    (h : wpStill P ops w Q rest (a.put o.dst (.agg cs.toArray))) : wpStill P ops w Q (o :: rest) a :=
  wpStill_value hw _ (by unfold execOp; simp only [ho, hx, Instr.loadAt, Instr.sureAddr, Sem.run_bind, Sem.run_pure, Result.andThen_ok, run_loadVar_mid w g off ty cs d hc hu hd hi]) h
end

theorem elem_bytes : Tryd.prog.underlying 22 = some (.slice (Tryd.prog.elem 22)) := by kernel_rfl
theorem size_byte (W : World) : (sizeOf (Tryd.prog.elem 22)).run Tryd.prog W = .ok 1 W := run_sizeOf_one (by kernel_rfl) W
/-- s[k:] -/
theorem run_cut_from (A : Option Addr) (len c k : Nat) (hk : k ≤ len) (W : World) :
    (Instr.sliceAt 22 (.slice A len c) (some (.int .i64 (k : Int))) none none).run Tryd.prog W = .ok (.slice (if c = k then A else A.map (·.add k)) (len - k) (c - k)) W := by
  rw [run_sliceAt_slice W _ _ _ _ _ elem_bytes, run_slice_l W 22 A len c elem_bytes .i64 (k : Int) (by omega) (by omega), size_byte]
  simp [sliced, Result.andThen]
/-- s[:k] -/
theorem run_cut_to (A : Option Addr) (len c k : Nat) (hk : k ≤ c) (W : World) :
    (Instr.sliceAt 22 (.slice A len c) none (some (.int .i64 (k : Int))) none).run Tryd.prog W = .ok (.slice A k c) W := by
  rw [run_sliceAt_slice W _ _ _ _ _ elem_bytes, run_slice_h W 22 A len c elem_bytes .i64 (k : Int) (by omega) (by omega), size_byte]
  have e : Option.map (fun x : Addr => x.add 0) A = A := by
    cases A with
    | none => rfl
    | some a => simp [Addr.add]
  simp [sliced, Result.andThen, e]
/-- s[i:j] -/
theorem run_cut_mid (A : Option Addr) (len c i j : Nat) (hi : i ≤ j) (hj : j ≤ c) (W : World) :
    (Instr.sliceAt 22 (.slice A len c) (some (.int .i64 (i : Int))) (some (.int .i64 (j : Int))) none).run Tryd.prog W = .ok (.slice (if c = i then A else A.map (·.add i)) (j - i) (c - i)) W := by
  rw [run_sliceAt_slice W _ _ _ _ _ elem_bytes, run_slice_lh W 22 A len c elem_bytes .i64 .i64 (i : Int) (j : Int) (by omega) (by omega) (by omega), size_byte]
  simp [sliced, Result.andThen]

section
variable {w : World} {Q : Nat → Prop} {l : List B8}
theorem Bytes.drop {A : Option Addr} {len c : Nat} (h : Bytes w Q (.slice A len c) l) (k : Nat) (hk : k ≤ l.length) : Bytes w Q (.slice (if c = k then A else A.map (·.add k)) (len - k) (c - k)) (l.drop k) := by
  obtain ⟨A', c', hv, h1, h2, h3, h4⟩ := h
  injection hv with ha hb hc
  subst ha hb hc
  refine ⟨_, _, by rw [List.length_drop], by rw [List.length_drop]; omega, by omega, fun e => ?_, fun hl => ?_⟩
  · by_cases hck : c = k
    · omega
    · rw [if_neg hck] at e
      have : A = none := by cases A <;> simp_all
      have := h3 this
      omega
  · rw [List.length_drop] at hl
    obtain ⟨g, o, rfl, hq, hcell⟩ := h4 (by omega)
    refine ⟨g, o + k, ?_, hq, fun j x hj => ?_⟩
    · rw [if_neg (by omega)]; simp [Addr.add_mid]
    · rw [List.getElem?_drop] at hj
      have := hcell _ x hj
      rwa [← Nat.add_assoc] at this
theorem Bytes.take {A : Option Addr} {len c : Nat} (h : Bytes w Q (.slice A len c) l) (k : Nat) (hk : k ≤ l.length) : Bytes w Q (.slice A k c) (l.take k) := by
  obtain ⟨A', c', hv, h1, h2, h3, h4⟩ := h
  injection hv with ha hb hc
  subst ha hb hc
  have hl : (l.take k).length = k := by simp; omega
  refine ⟨A, c, by rw [hl], by omega, h2, h3, fun h0 => ?_⟩
  obtain ⟨g, o, hA, hq, hcell⟩ := h4 (by omega)
  refine ⟨g, o, hA, hq, fun j x hj => hcell j x ?_⟩
  rw [List.getElem?_take] at hj
  split at hj
  · exact hj
  · cases hj
/-- Its cells, as a range of a block. -/
theorem Bytes.range {A : Option Addr} {len c : Nat} (h : Bytes w Q (.slice A len c) l) (h0 : 0 < l.length) : ∃ g o, A = some ⟨g, o, none⟩ ∧ Q g ∧ w.rangeAt g o (l.map byt) := by
  obtain ⟨A', c', hv, h1, h2, h3, h4⟩ := h
  injection hv with ha hb hc
  subst ha hb hc
  obtain ⟨g, o, hA, hq, hcell⟩ := h4 h0
  refine ⟨g, o, hA, hq, fun j v hj => ?_⟩
  rw [List.getElem?_map] at hj
  cases hx : l[j]? with
  | none => rw [hx] at hj; cases hj
  | some x => rw [hx] at hj; injection hj with hj; subst hj; exact hcell j x hx
end

/-- Sixty-four bytes out of the middle. -/
theorem bytes_mid {w : World} {Q : Nat → Prop} {l : List B8} {A : Option Addr} {len c : Nat} (h : Bytes w Q (.slice A len c) l) (q : Nat) (hq : 64 * q + 64 ≤ l.length) :
    ∃ g o c', (∀ W, (Instr.sliceAt 22 (.slice A len c) (some (.int .i64 (64 * (q : Int)))) (some (.int .i64 (64 * (q : Int) + 64))) none).run Tryd.prog W = .ok (.slice (some ⟨g, o, none⟩) 64 c') W) ∧ Q g ∧
      ∀ j, j < 64 → w.cell? ⟨g, o + j, none⟩ = some (byt (((l.drop (64 * q)).take 64).getD j 0)) := by
  obtain ⟨A', c', hv, h1, h2, h3, h4⟩ := h
  injection hv with ha hb hc
  subst ha hb hc
  obtain ⟨g, o, rfl, hQ, hcell⟩ := h4 (by omega)
  refine ⟨g, o + 64 * q, c - 64 * q, fun W => ?_, hQ, fun j hj => ?_⟩
  · have := run_cut_mid (some ⟨g, o, none⟩) l.length c (64 * q) (64 * q + 64) (by omega) (by omega) W
    rw [if_neg (by omega), show 64 * q + 64 - 64 * q = 64 by omega] at this
    simp only [Option.map_some, Addr.add_mid] at this
    rw [← this]
    congr 4
    all_goals (first | rfl | (congr 3; omega) | skip)
  · have hlt : 64 * q + j < l.length := by omega
    have hx := hcell (64 * q + j) l[64 * q + j] (List.getElem?_eq_getElem hlt)
    rw [← Nat.add_assoc] at hx
    rw [hx]
    congr 2
    rw [List.getD_eq_getElem?_getD, List.getElem?_take, if_pos hj, List.getElem?_drop, List.getElem?_eq_getElem hlt]
    rfl
theorem own_below {w w' : World} {base B n size : Nat} {e : TypeId} {v : Value} {xs : List Value} (h : w.ownsRow base e size v n xs) (hb : Below B w w') (hB : w.heap.size ≤ B) : w'.ownsRow base e size v n xs := by
  refine ⟨h.1, ?_⟩
  rcases h.2 with h2 | ⟨g, cap, cur, hv, hg, hh, r⟩
  · exact .inl h2
  · have hlt : g < w.heap.size := by
      rcases Nat.lt_or_ge g w.heap.size with hl | hl
      · exact hl
      · rw [Array.getElem?_eq_none hl] at hh; cases hh
    exact .inr ⟨g, cap, cur, hv, hg, (hb.block g (by omega)).trans hh, r⟩
end Go.Proofs.YtbbpdcnmoabooaaDoor
