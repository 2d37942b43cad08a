/-
  The reference's Times in a block: three numbers and 1440 flags.
-/
import Derived.Laws.Rows
import Derived.Laws.Tables
import Derived.Test.YtgbcncfhmnhljaaDoorPk0
import Derived.Test.YtgbcncfhmnhljaaDoorPk1
namespace Go.Proofs.YtgbcncfhmnhljaaDoor
open Go Go.RowKit Sh Leaf

/-- 1440 flags. -/
@[irreducible] def flags (M : Nat → Bool) : Array Value := Array.ofFn (n := 1440) fun i => .bool (M i)
theorem flags_size (M : Nat → Bool) : (flags M).size = 1440 := by unfold flags; simp
theorem flags_at (M : Nat → Bool) (k : Nat) (h : k < 1440) : (flags M)[k]? = some (.bool (M k)) := by unfold flags; simp [h]
theorem flags_congr {M N : Nat → Bool} (h : ∀ k, k < 1440 → M k = N k) : flags M = flags N := by
  apply Array.ext_getElem?
  intro i
  rcases Nat.lt_or_ge i 1440 with hi | hi
  · rw [flags_at M i hi, flags_at N i hi, h i hi]
  · rw [Array.getElem?_eq_none (by rw [flags_size]; exact hi), Array.getElem?_eq_none (by rw [flags_size]; exact hi)]
theorem flags_set (M : Nat → Bool) (k : Nat) (h : k < 1440) (b : Bool) : (flags M).setIfInBounds k (.bool b) = flags fun j => if j = k then b else M j := by
  apply Array.ext_getElem?
  intro i
  rw [Array.getElem?_setIfInBounds, flags_size]
  rcases Nat.lt_or_ge i 1440 with hi | hi
  · rw [flags_at (fun j => if j = k then b else M j) i hi, flags_at M i hi]
    by_cases e : k = i
    · subst e; simp [h]
    · rw [if_neg e, if_neg (fun h => e h.symm)]
  · rw [if_neg (by omega), Array.getElem?_eq_none (by rw [flags_size]; exact hi), Array.getElem?_eq_none (by rw [flags_size]; exact hi)]
/-- The cells of Times. -/
@[irreducible] def trow (f l : Int) (d : Nat) (M : Nat → Bool) : Array Value := #[.int .i64 f, .int .i64 l, .int .u64 (d : Int)] ++ flags M
section
variable {f l : Int} {d : Nat} {M : Nat → Bool}
theorem trow_size : (trow f l d M).size = 1443 := by unfold trow; rw [Array.size_append, flags_size]; rfl
theorem trow_0 : (trow f l d M)[0]? = some (.int .i64 f) := by unfold trow; rw [Array.getElem?_append_left (by simp)]; rfl
theorem trow_1 : (trow f l d M)[1]? = some (.int .i64 l) := by unfold trow; rw [Array.getElem?_append_left (by simp)]; rfl
theorem trow_2 : (trow f l d M)[2]? = some (.int .u64 (d : Int)) := by unfold trow; rw [Array.getElem?_append_left (by simp)]; rfl
theorem trow_m (k : Nat) (h : k < 1440) : (trow f l d M)[3 + k]? = some (.bool (M k)) := by
  unfold trow
  rw [Array.getElem?_append_right (by simp)]
  simp only [List.size_toArray, List.length_cons, List.length_nil, Nat.zero_add, Nat.reduceAdd, Nat.add_sub_cancel_left]
  exact flags_at M k h
theorem trow_congr {N : Nat → Bool} (h : ∀ k, k < 1440 → M k = N k) : trow f l d M = trow f l d N := by unfold trow; rw [flags_congr h]
theorem trow_set (k : Nat) (h : k < 1440) (b : Bool) : (trow f l d M).setIfInBounds (3 + k) (.bool b) = trow f l d fun j => if j = k then b else M j := by
  unfold trow
  rw [← flags_set M k h b]
  apply Array.ext_getElem?
  intro i
  rw [Array.getElem?_setIfInBounds]
  rcases Nat.lt_or_ge i 3 with hi | hi
  · rw [if_neg (by omega), Array.getElem?_append_left (by simpa using hi), Array.getElem?_append_left (by simpa using hi)]
  · obtain ⟨j, rfl⟩ : ∃ j, i = 3 + j := ⟨i - 3, by omega⟩
    rw [Array.getElem?_append_right (by simp), Array.getElem?_append_right (by simp)]
    simp only [List.size_toArray, List.length_cons, List.length_nil, Nat.zero_add, Nat.reduceAdd, Nat.add_sub_cancel_left]
    rw [Array.getElem?_setIfInBounds, flags_size]
    by_cases e : k = j
    · subst e
      rw [if_pos rfl, if_pos rfl, if_pos h, if_pos (by rw [Array.size_append, flags_size]; simp; omega)]
    · rw [if_neg e, if_neg (by omega)]
end
theorem timSize : (Tryd.prog.info? 69).map (·.size) = some 1443 := by kernel_rfl
/-- The block g holds these Times. -/
abbrev TRow (w : World) (g : Nat) (f l : Int) (d : Nat) (M : Nat → Bool) : Prop := Whole w g 69 (trow f l d M)
section
variable {w : World} {g : Nat} {f l : Int} {d : Nat} {M : Nat → Bool}
theorem TRow.c0 (h : TRow w g f l d M) : w.cell? ⟨g, 0, none⟩ = some (.int .i64 f) := (h.cell 0).trans trow_0
theorem TRow.c1 (h : TRow w g f l d M) : w.cell? ⟨g, 1, none⟩ = some (.int .i64 l) := (h.cell 1).trans trow_1
theorem TRow.c2 (h : TRow w g f l d M) : w.cell? ⟨g, 2, none⟩ = some (.int .u64 (d : Int)) := (h.cell 2).trans trow_2
theorem TRow.m (h : TRow w g f l d M) (k : Nat) (hk : k < 1440) : w.cell? ⟨g, 3 + k, none⟩ = some (.bool (M k)) := (h.cell (3 + k)).trans (trow_m k hk)
theorem TRow.set0 (h : TRow w g f l d M) (x : Int) : TRow (w.setCell ⟨g, 0, none⟩ (.int .i64 x)) g x l d M := by
  have := h.set 0 (.int .i64 x)
  have e : (trow f l d M).setIfInBounds 0 (.int .i64 x) = trow x l d M := by unfold trow; simp
  rw [e] at this; exact this
theorem TRow.set1 (h : TRow w g f l d M) (x : Int) : TRow (w.setCell ⟨g, 1, none⟩ (.int .i64 x)) g f x d M := by
  have := h.set 1 (.int .i64 x)
  have e : (trow f l d M).setIfInBounds 1 (.int .i64 x) = trow f x d M := by unfold trow; simp
  rw [e] at this; exact this
theorem TRow.set2 (h : TRow w g f l d M) (x : Nat) : TRow (w.setCell ⟨g, 2, none⟩ (.int .u64 (x : Int))) g f l x M := by
  have := h.set 2 (.int .u64 (x : Int))
  have e : (trow f l d M).setIfInBounds 2 (.int .u64 (x : Int)) = trow f l x M := by unfold trow; simp
  rw [e] at this; exact this
theorem TRow.setm (h : TRow w g f l d M) (k : Nat) (hk : k < 1440) (b : Bool) : TRow (w.setCell ⟨g, 3 + k, none⟩ (.bool b)) g f l d fun j => if j = k then b else M j := by
  have := h.set (3 + k) (.bool b)
  rw [trow_set k hk b] at this
  exact this
theorem TRow.congr (h : TRow w g f l d M) {N : Nat → Bool} (e : ∀ k, k < 1440 → M k = N k) : TRow w g f l d N := by
  have := h
  rw [TRow, trow_congr e] at this
  exact this
end
/-- Nothing but false. -/
def falses : List Value → Bool
  | [] => true
  | .bool false :: t => falses t
  | _ => false
theorem falses_eq : ∀ {l : List Value}, falses l = true → l = List.replicate l.length (.bool false)
  | [], _ => rfl
  | v :: t, h => by
    unfold falses at h
    split at h
    · contradiction
    · rename_i e
      injection e with e1 e2
      subst e1 e2
      rw [List.length_cons, List.replicate_succ, ← falses_eq h]
    · cases h
theorem flags_zero : flags (fun _ => false) = (List.replicate 1440 (.bool false)).toArray := by
  apply Array.ext_getElem?
  intro i
  rcases Nat.lt_or_ge i 1440 with hi | hi
  · rw [flags_at _ i hi, List.getElem?_toArray, List.getElem?_replicate, if_pos hi]
  · rw [Array.getElem?_eq_none (by rw [flags_size]; exact hi), Array.getElem?_eq_none (by rw [List.size_toArray, List.length_replicate]; exact hi)]
/-- The cells of a type's zero. -/
noncomputable def zcl (t : TypeId) : List Value := match (Tryd.prog.info? t).bind (·.zero) with
  | some z => z.cells.toList
  | none => []
theorem zcl_arr : zcl 67 = List.replicate 1440 (.bool false) := by
  have h : (falses (zcl 67) && (zcl 67).length == 1440) = true := by kernel_rfl
  rw [Bool.and_eq_true, beq_iff_eq] at h
  rw [falses_eq h.1, h.2]
def tzero : List Value → Bool
  | .int .i64 (.ofNat 0) :: .int .i64 (.ofNat 0) :: .int .u64 (.ofNat 0) :: t => falses t && t.length == 1440
  | _ => false
theorem tzero_eq {l : List Value} (h : tzero l = true) : l = .int .i64 0 :: .int .i64 0 :: .int .u64 0 :: List.replicate 1440 (.bool false) := by
  unfold tzero at h
  split at h
  · rw [Bool.and_eq_true, beq_iff_eq] at h
    rw [falses_eq h.1, h.2]
    rfl
  · cases h
theorem zcl_tim : zcl 69 = .int .i64 0 :: .int .i64 0 :: .int .u64 0 :: List.replicate 1440 (.bool false) := tzero_eq (by kernel_rfl)
theorem zero_of_zcl {t : TypeId} (h : zcl t ≠ []) : ∃ it z, Tryd.prog.info? t = some it ∧ it.zero = some z ∧ z.cells = (zcl t).toArray := by
  unfold zcl at h ⊢
  cases hi : Tryd.prog.info? t with
  | none => rw [hi] at h; exact absurd rfl h
  | some it =>
    cases hz : it.zero with
    | none => rw [hi] at h; simp [hz] at h
    | some z => exact ⟨it, z, rfl, hz, by simp [hz]⟩
theorem tim_places : (match Tryd.prog.underlying 69 with
  | some (.struct fields) => fields.toList.mapM (fun f => (Tryd.prog.info? f.type).map fun i => (f.offset, i.size))
  | _ => none) = some [(0, 1), (1, 1), (2, 1), (3, 1440)] := by kernel_rfl
theorem fill_three (rest : Array Value) (a b c x y z : Value) (hx : x.cells = #[x]) (hy : y.cells = #[y]) (hz : z.cells = #[z]) :
    Instr.fill ([(0, 1), (1, 1), (2, 1), (3, 1440)].toArray[·]?) (#[a, b, c] ++ rest) [(0, x), (1, y), (2, z)] = some (#[x, y, z] ++ rest) := by
  have e0 : ∀ v : Value, (#[a, b, c] ++ rest).setIfInBounds 0 v = #[v, b, c] ++ rest := fun v => by simp
  have e1 : ∀ u v : Value, (#[u, b, c] ++ rest).setIfInBounds 1 v = #[u, v, c] ++ rest := fun u v => by simp
  have e2 : ∀ u v t : Value, (#[u, v, c] ++ rest).setIfInBounds 2 t = #[u, v, t] ++ rest := fun u v t => by simp
  simp [Instr.fill, hx, hy, hz, Array.zipIdx]
  omega
theorem three_cons (a b c : Value) (R : List Value) : (a :: b :: c :: R).toArray = #[a, b, c] ++ R.toArray := by simp
theorem built_times (f l : Int) (d : Nat) : Tryd.prog.built 69 [(0, .int .i64 f), (1, .int .i64 l), (2, .int .u64 (d : Int))] = some (trow f l d fun _ => false) := by
  obtain ⟨it, z, hi, hz, hc⟩ := zero_of_zcl (t := 69) (by rw [zcl_tim]; exact List.cons_ne_nil _ _)
  have hp := tim_places
  unfold Program.built
  rw [hi]
  cases hu : Tryd.prog.underlying 69 with
  | none => rw [hu] at hp; cases hp
  | some u =>
    rw [hu] at hp
    cases u <;> try (cases hp; done)
    case struct fields =>
      simp only at hp
      simp only [hz, hp, hc]
      rw [zcl_tim]
      have e : (Value.int .i64 0 :: .int .i64 0 :: .int .u64 0 :: List.replicate 1440 (.bool false)).toArray = #[.int .i64 0, .int .i64 0, .int .u64 0] ++ flags fun _ => false := by
        rw [flags_zero]; exact three_cons _ _ _ _
      rw [e]
      have := fill_three (flags fun _ => false) (.int .i64 0) (.int .i64 0) (.int .u64 0) (.int .i64 f) (.int .i64 l) (.int .u64 (d : Int)) rfl rfl rfl
      unfold trow
      exact this
/-- New Times are built. -/
theorem wpList_build_tim {w : World} {ops : Array Oper} {rest : List Oper} {o : Oper} {a : Act} {Q : Exit → Act → World → Prop} (hgd : o.guard = none) (x y z : Operand) (ho : o.op = .build 69 #[(0, x), (1, y), (2, z)])
    {f l : Int} {d : Nat} (hx : a.eval x = .int .i64 f) (hy : a.eval y = .int .i64 l) (hz : a.eval z = .int .u64 (d : Int))
    (h : wpList Tryd.prog ops Q rest (a.put o.dst (.agg (trow f l d fun _ => false))) w) : wpList Tryd.prog ops Q (o :: rest) a w := by
  refine wpList_build_as hgd 69 _ ho _ ?_ h
  have e : (#[(0, x), (1, y), (2, z)].map fun (i, x) => (i, a.eval x)).toList = [(0, .int .i64 f), (1, .int .i64 l), (2, .int .u64 (d : Int))] := by simp [hx, hy, hz]
  rw [e]
  exact built_times f l d
/-- New Times are laid. -/
theorem wpList_box_tim {w : World} {ops : Array Oper} {rest : List Oper} {o : Oper} {a : Act} {Q : Exit → Act → World → Prop} (hgd : o.guard = none) (x : Operand) (ho : o.op = .box 69 x)
    {f l : Int} {d : Nat} {M : Nat → Bool} (hx : a.eval x = .agg (trow f l d M))
    (h : wpList Tryd.prog ops Q rest (a.put o.dst (.pointer (some ⟨w.heap.size, 0, none⟩))) (w.alloc (.cells (trow f l d M) 69))) : wpList Tryd.prog ops Q (o :: rest) a w := by
  refine wpList_plain hgd fun K hK => ?_
  unfold Oper.wp execOp
  simp only [ho, Sem.run_bind, Instr.box, newVar, newRow, run_newObj_alloc, Sem.run_pure, Result.andThen_ok, hx, Value.cells]
  exact hK _ _ h
/-- A new variable of 1440 flags. -/
theorem wpList_alloc_flags {w : World} {ops : Array Oper} {rest : List Oper} {o : Oper} {a : Act} {Q : Exit → Act → World → Prop} (hgd : o.guard = none) (ho : o.op = .alloc 67)
    (h : wpList Tryd.prog ops Q rest (a.put o.dst (.pointer (some ⟨w.heap.size, 0, none⟩))) (w.alloc (.cells (flags fun _ => false) 67))) : wpList Tryd.prog ops Q (o :: rest) a w := by
  refine wpList_plain hgd fun _ hK => ?_
  obtain ⟨it, z, hi, hz, hc⟩ := zero_of_zcl (t := 67) (by rw [zcl_arr]; exact List.cons_ne_nil _ _)
  rw [zcl_arr, ← flags_zero] at hc
  unfold Oper.wp execOp
  simp [ho, Instr.alloc, zeroValue, typeInfo, hi, hz, newVar, newRow, hc]
  exact hK _ _ h
end Go.Proofs.YtgbcncfhmnhljaaDoor
