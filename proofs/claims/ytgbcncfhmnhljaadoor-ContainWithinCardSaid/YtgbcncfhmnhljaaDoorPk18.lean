/-
  A block that is a row of elements of n cells, known whole: make, copy, an append with room, stores.
-/
import Derived.Laws.CopyRow
import Derived.Laws.MakeOwn
import Derived.Laws.AppendOwn
import Derived.Test.YtgbcncfhmnhljaaDoorPk1
namespace Go.Proofs.YtgbcncfhmnhljaaDoor
open Go Go.RowKit Sh Leaf

section
variable {P : Program} {α : Type} {f : α → List Value} {n : Nat} {w : World} {g : Nat} {e : TypeId}
/-- The zero row of m elements. -/
@[irreducible] def zrow (z : Value) (n m : Nat) : Array Value := madeCells z.cells (m * n)
theorem zrow_size (z : Value) (n m : Nat) : (zrow z n m).size = m * n := by unfold zrow; simp [madeCells]
theorem make_rows {t : TypeId} {z0 : Value} {by0 : Nat} (ht : P.underlying t = some (.slice e)) (hinfo : (P.info? e).map (fun i => (i.zero, i.size, i.bytes)) = some (some z0, n, by0)) (z : Int) (m : Nat) (hz : z = (m : Int)) (hb : by0 * m ≤ 281474976710656) (hm : m ≤ 9223372036854775807) (W : World) :
    (Instr.makeSlice t (.int .i64 z) (.int .i64 z)).run P W = .ok (.slice (some ⟨W.heap.size, 0, none⟩) m m) (W.alloc (.cells (zrow z0 n m) e)) := by
  subst hz
  obtain ⟨i0, hi, hz0, hz1, hz2⟩ := info_parts hinfo
  have h := run_make (P := P) (w := W) t e i0 z0 ht hi hz0 .i64 .i64 (m : Int) (m : Int) (by omega) (by omega) (by rw [hz2]; omega) (by omega)
  rw [h, hz1]
  unfold zrow
  simp
theorem run_copy_seq (dT sT ty : TypeId) (hu : P.underlying dT = some (.slice e)) (hs : (P.info? e).map (·.size) = some n) (hn : ∀ x, (f x).length = n) (hone : ∀ x, ∀ v ∈ f x, v.oneCell' = true) {t : TypeId} {cur : Array Value} (hg : Whole w g t cur) (l : List α) (hcur : cur.size = l.length * n)
    (ad : Addr) (c1 c2 m : Nat) (hm : m = l.length) (hsrc : ∀ j v, (fl f l)[j]? = some v → w.cell? (ad.add j) = some v) :
    (Builtin.copy_ #[dT, sT] ty #[.slice (some ⟨g, 0, none⟩) m c1, .slice (some ad) m c2]).run P w = .ok (goInt m) (w.setRow g (fl f l).toArray) := by
  subst hm
  have hlen := fl_length hn l
  have hl := run_loadCells_list (P := P) w ad (fl f l) hsrc
  have hst := run_storeCells_at P g 0 t (fl f l) 0 cur w hg (by rw [hlen]; omega) (fun v hv => by
    obtain ⟨x, _, hx⟩ := List.mem_flatMap.1 hv
    exact hone x v hx)
  have e1 : (cur.toList.take (0 + 0) ++ fl f l ++ cur.toList.drop (0 + 0 + (fl f l).length)).toArray = (fl f l).toArray := by
    rw [List.drop_of_length_le (by rw [hlen]; simp [hcur])]
    simp
  rw [e1] at hst
  cases hq : P.info? e with
  | none => simp [hq] at hs
  | some i =>
    have hi : i.size = n := by simpa [hq] using hs
    simp [Builtin.copy_, run_underlying hu, Builtin.lenOf, Builtin.firstCells, sizeOf, typeInfo, hq, hi, ← hlen, hl, hst]
theorem wpList_copy_seq {ops : Array Oper} {rest : List Oper} {o : Oper} {a : Act} {Q : Exit → Act → World → Prop} (hgd : o.guard = none) (d s : Operand) (dT sT : TypeId)
    (ho : o.op = .call { callee := .builtin .copy, args := #[d, s], argTypes := #[dT, sT] }) (hu : P.underlying dT = some (.slice e)) (hs : (P.info? e).map (·.size) = some n) (hn : ∀ x, (f x).length = n) (hone : ∀ x, ∀ v ∈ f x, v.oneCell' = true) {t : TypeId} {cur : Array Value}
    (hg : Whole w g t cur) (l : List α) (hcur : cur.size = l.length * n) (ad : Addr) (c1 c2 m : Nat) (hm : m = l.length) (hsrc : ∀ j v, (fl f l)[j]? = some v → w.cell? (ad.add j) = some v)
    (hd : a.eval d = .slice (some ⟨g, 0, none⟩) m c1) (hx : a.eval s = .slice (some ad) m c2)
    (h : wpList P ops Q rest (a.put o.dst (goInt m)) (w.setRow g (fl f l).toArray)) : wpList P ops Q (o :: rest) a w := by
  refine wpList_plain hgd fun K hK => ?_
  have hrun := run_copy_seq (P := P) dT sT o.type hu hs hn hone hg l hcur ad c1 c2 m hm hsrc
  unfold Oper.wp
  simp [execOp, ho, resolve, invoke, builtin, hd, hx, hrun, Result.andThen]
  exact hK _ _ h
theorem fl_put (hn : ∀ x, (f x).length = n) (R : List α) (j : Nat) (s : α) (hj : j < R.length) : (fl f R).take (j * n) ++ f s ++ (fl f R).drop (j * n + n) = fl f (R.set j s) := by
  have e1 : R.set j s = R.take j ++ s :: R.drop (j + 1) := by rw [List.set_eq_take_append_cons_drop, if_pos hj]
  rw [e1, fl_append, fl_cons, fl_take hn, fl_drop hn, List.append_assoc]
  rw [show (j + 1) * n = j * n + n by rw [Nat.succ_mul]]
/-- An append with room: the element is laid at place j. -/
theorem wpList_append_room {ops : Array Oper} {rest : List Oper} {o : Oper} {a : Act} {Q : Exit → Act → World → Prop} (hgd : o.guard = none) (s x : Operand) (t : TypeId)
    (ho : o.op = .call { callee := .builtin .append, args := #[s, x], argTypes := #[t, t] }) (ht : P.underlying t = some (.slice e)) (hs : (P.info? e).map (·.size) = some n) (hn : ∀ x, (f x).length = n) (hone : ∀ x, ∀ v ∈ f x, v.oneCell' = true)
    (R : List α) (hg : Whole w g e (fl f R).toArray) (j c : Nat) (hj : j < R.length) (hc : j + 1 ≤ c) (p : α) (b : Nat) (hb : Whole w b e (f p).toArray) (c2 : Nat)
    (h1 : a.eval s = .slice (some ⟨g, 0, none⟩) j c) (h2 : a.eval x = .slice (some ⟨b, 0, none⟩) 1 c2)
    (h : Whole (w.setRow g (fl f (R.set j p)).toArray) g e (fl f (R.set j p)).toArray → wpList P ops Q rest (a.put o.dst (.slice (some ⟨g, 0, none⟩) (j + 1) c)) (w.setRow g (fl f (R.set j p)).toArray)) : wpList P ops Q (o :: rest) a w := by
  refine wpList_plain hgd fun K hK => ?_
  obtain ⟨i, hi, hsz⟩ : ∃ i, P.info? e = some i ∧ i.size = n := by
    cases hq : P.info? e with
    | none => simp [hq] at hs
    | some i => exact ⟨i, rfl, by simpa [hq] using hs⟩
  have hlen := fl_length hn R
  have hrun := run_append_room (P := P) w t o.type e i ht hi g j c (fl f R).toArray hg ⟨b, 0, none⟩ 1 c2 (f p) (by rw [hsz, Nat.one_mul, hn]) (fun k u hk => by
    rw [Addr.add_mid, Nat.zero_add, hb.cell]
    simpa using hk) (hone p) (by omega) (by
      rw [hsz, hn, List.size_toArray, hlen]
      have : (j + 1) * n ≤ R.length * n := Nat.mul_le_mul_right n hj
      rw [Nat.succ_mul] at this
      exact this)
  rw [hsz, hn, fl_put hn R j p hj] at hrun
  unfold Oper.wp
  simp [execOp, ho, resolve, invoke, builtin, h1, h2, hrun, Result.andThen]
  exact hK _ _ (h (hg.setRow _))
/-- A store into cell i of element j. -/
theorem Whole.put_fl (hn : ∀ x, (f x).length = n) {R : List α} (hg : Whole w g e (fl f R).toArray) (j i : Nat) (p q : α) (v : Value) (hp : R[j]? = some p) (hi : i < n) (hq : f q = (f p).set i v) : Whole (w.setCell ⟨g, j * n + i, none⟩ v) g e (fl f (R.set j q)).toArray := by
  have := hg.set (j * n + i) v
  rw [List.setIfInBounds_toArray, ← fl_set hn R j p (List.getElem?_eq_some_iff.1 hp).1 i v q hp hi hq] at this
  exact this
theorem Whole.get_fl (hn : ∀ x, (f x).length = n) {R : List α} (hg : Whole w g e (fl f R).toArray) (j i : Nat) (p : α) (v : Value) (hp : R[j]? = some p) (hv : (f p)[i]? = some v) : w.cell? ⟨g, j * n + i, none⟩ = some v := by
  rw [hg.cell, List.getElem?_toArray]
  exact fl_at hn R j p hp i v hv
end
end Go.Proofs.YtgbcncfhmnhljaaDoor
