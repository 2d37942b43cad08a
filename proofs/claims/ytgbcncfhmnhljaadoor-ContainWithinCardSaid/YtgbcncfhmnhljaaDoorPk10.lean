/-
  A predicate in a block: loads, stores, results.
  A ride in a block: what it is as a value; cells, loads, stores, results.
  A slice of predicates: its cells.
  Spans and authorities in memory.
  The authority of all rides; what valid authorities are in memory.
  Layer 8 in plain words: the summary of a list, one predicate after the other.
  Layer 8 in plain words: what the program does with lists of spans: common minutes, minutes of a day, what is gathered day by day.
  Layer 8 in plain words: spans in order are merged; an authority is restricted by a predicate.
  The program's Full, none, bitOf, spansOf.
  Parts of a slice of predicates.
  The reference's SameAuthority.
  Package holds: hasBit, and the methods of a ride, one for each kind.
  Package holds: the table of method values.
  The reference's Full.
  The reference's has, times.
  The reference's lowest.
-/
import Derived.Laws.Rows
import Derived.Laws.Tables
import Derived.Test.YtgbcncfhmnhljaaDoorPk8
import Derived.Test.YtgbcncfhmnhljaaDoorPk0
import Derived.Test.YtgbcncfhmnhljaaDoorPk1
import Derived.Test.YtgbcncfhmnhljaaDoorPk28
namespace Go.Proofs.YtgbcncfhmnhljaaDoor
open Go Go.RowKit Sh Leaf

/-- A predicate's cells. -/
abbrev prow (k m lo hi : Int) (nm : List B8) (nu : Int) : Array Value := #[.int .i64 k, .int .u64 m, .int .i64 lo, .int .i64 hi, .string (sof nm), .int .i64 nu]
theorem prdSize : (Tryd.prog.info? 41).map (·.size) = some 6 := by kernel_rfl
theorem pv_row (p : Prd) : pv p = .agg (prow p.kind p.mask p.lo p.hi p.name p.num) := by unfold pv; rfl
theorem prow_zero : prow 0 0 0 0 [] 0 = #[.int .i64 0, .int .u64 0, .int .i64 0, .int .i64 0, .string { data := #[] }, .int .i64 0] := by rw [← sof_none]
/-- The block g is the predicate's. -/
abbrev PRow (w : World) (g : Nat) (k m lo hi : Int) (nm : List B8) (nu : Int) : Prop := Whole w g 41 (prow k m lo hi nm nu)
section
variable {w : World} {g : Nat} {k m lo hi : Int} {nm : List B8} {nu : Int}
theorem PRow.cells (h : PRow w g k m lo hi nm nu) :
    w.cell? ⟨g, 0, none⟩ = some (.int .i64 k) ∧ w.cell? ⟨g, 1, none⟩ = some (.int .u64 m) ∧ w.cell? ⟨g, 2, none⟩ = some (.int .i64 lo) ∧ w.cell? ⟨g, 3, none⟩ = some (.int .i64 hi) ∧ w.cell? ⟨g, 4, none⟩ = some (.string (sof nm)) ∧ w.cell? ⟨g, 5, none⟩ = some (.int .i64 nu) :=
  ⟨h.cell 0, h.cell 1, h.cell 2, h.cell 3, h.cell 4, h.cell 5⟩
theorem PRow.set0 (h : PRow w g k m lo hi nm nu) (x : Int) : PRow (w.setCell ⟨g, 0, none⟩ (.int .i64 x)) g x m lo hi nm nu := by have := h.set 0 (.int .i64 x); simpa using this
theorem PRow.set1 (h : PRow w g k m lo hi nm nu) (x : Int) : PRow (w.setCell ⟨g, 1, none⟩ (.int .u64 x)) g k x lo hi nm nu := by have := h.set 1 (.int .u64 x); simpa using this
theorem PRow.set2 (h : PRow w g k m lo hi nm nu) (x : Int) : PRow (w.setCell ⟨g, 2, none⟩ (.int .i64 x)) g k m x hi nm nu := by have := h.set 2 (.int .i64 x); simpa using this
theorem PRow.set3 (h : PRow w g k m lo hi nm nu) (x : Int) : PRow (w.setCell ⟨g, 3, none⟩ (.int .i64 x)) g k m lo x nm nu := by have := h.set 3 (.int .i64 x); simpa using this
theorem PRow.set4 (h : PRow w g k m lo hi nm nu) (x : List B8) : PRow (w.setCell ⟨g, 4, none⟩ (.string (sof x))) g k m lo hi x nu := by have := h.set 4 (.string (sof x)); simpa using this
theorem PRow.set5 (h : PRow w g k m lo hi nm nu) (x : Int) : PRow (w.setCell ⟨g, 5, none⟩ (.int .i64 x)) g k m lo hi nm x := by have := h.set 5 (.int .i64 x); simpa using this
theorem PRow.set4z (h : PRow w g k m lo hi nm nu) : PRow (w.setCell ⟨g, 4, none⟩ (.string { data := #[] })) g k m lo hi [] nu := by rw [← sof_none]; exact h.set4 []
theorem PRow.frees (h : PRow w g k m lo hi nm nu) : w.frozen? ⟨g, 0, none⟩ = false ∧ w.frozen? ⟨g, 1, none⟩ = false ∧ w.frozen? ⟨g, 2, none⟩ = false ∧ w.frozen? ⟨g, 3, none⟩ = false ∧ w.frozen? ⟨g, 4, none⟩ = false ∧ w.frozen? ⟨g, 5, none⟩ = false :=
  ⟨h.frozen 0, h.frozen 1, h.frozen 2, h.frozen 3, h.frozen 4, h.frozen 5⟩
/-- All six cells are stored. -/
theorem PRow.sets (h : PRow w g k m lo hi nm nu) (k' m' lo' hi' : Int) (nm' : List B8) (nu' : Int) : PRow ((((((w.setCell ⟨g, 0, none⟩ (.int .i64 k')).setCell ⟨g, 1, none⟩ (.int .u64 m')).setCell ⟨g, 2, none⟩ (.int .i64 lo')).setCell ⟨g, 3, none⟩ (.int .i64 hi')).setCell ⟨g, 4, none⟩ (.string (sof nm'))).setCell ⟨g, 5, none⟩ (.int .i64 nu')) g k' m' lo' hi' nm' nu' :=
  (((((h.set0 k').set1 m').set2 lo').set3 hi').set4 nm').set5 nu'
theorem PRow.setsz (h : PRow w g k m lo hi nm nu) : PRow ((((((w.setCell ⟨g, 0, none⟩ (.int .i64 0)).setCell ⟨g, 1, none⟩ (.int .u64 0)).setCell ⟨g, 2, none⟩ (.int .i64 0)).setCell ⟨g, 3, none⟩ (.int .i64 0)).setCell ⟨g, 4, none⟩ (.string { data := #[] })).setCell ⟨g, 5, none⟩ (.int .i64 0)) g 0 0 0 0 [] 0 :=
  (((((h.set0 0).set1 0).set2 0).set3 0).set4z).set5 0
theorem below_sets {B : Nat} {W : World} (h : Below B W w) (hg : B ≤ g) (a b c d e f : Value) : Below B W ((((((w.setCell ⟨g, 0, none⟩ a).setCell ⟨g, 1, none⟩ b).setCell ⟨g, 2, none⟩ c).setCell ⟨g, 3, none⟩ d).setCell ⟨g, 4, none⟩ e).setCell ⟨g, 5, none⟩ f) :=
  (((((h.setCell (p := ⟨g, 0, none⟩) hg a).setCell (p := ⟨g, 1, none⟩) hg b).setCell (p := ⟨g, 2, none⟩) hg c).setCell (p := ⟨g, 3, none⟩) hg d).setCell (p := ⟨g, 4, none⟩) hg e).setCell (p := ⟨g, 5, none⟩) hg f
theorem PRow.of_zero (h : Whole w g 41 #[.int .i64 k, .int .u64 0, .int .i64 0, .int .i64 0, .string { data := #[] }, .int .i64 0]) : PRow w g k 0 0 0 [] 0 := by
  show Whole w g _ #[.int .i64 k, .int .u64 0, .int .i64 0, .int .i64 0, .string (sof []), .int .i64 0]
  rw [sof_none]; exact h
/-- A load of the whole predicate. -/
theorem wpList_load_prd {ops : Array Oper} {rest : List Oper} {o : Oper} {a : Act} {Q : Exit → Act → World → Prop} (hgd : o.guard = none) (x : Operand) (ho : o.op = .load 41 x)
    (hx : a.eval x = .pointer (some ⟨g, 0, none⟩)) (hg : PRow w g k m lo hi nm nu) (h : wpList Tryd.prog ops Q rest (a.put o.dst (.agg (prow k m lo hi nm nu))) w) : wpList Tryd.prog ops Q (o :: rest) a w :=
  wpList_load_row hgd 41 x ho g hx 41 _ (0, 0) _ hg Tryd.underlying41 rfl prdSize h
/-- A store of a whole predicate. -/
theorem wpList_store_prd {ops : Array Oper} {rest : List Oper} {o : Oper} {a : Act} {Q : Exit → Act → World → Prop} (hgd : o.guard = none) (x y : Operand) (ho : o.op = .store 41 x y)
    (hx : a.eval x = .pointer (some ⟨g, 0, none⟩)) {k' m' lo' hi' nu' : Int} {nm' : List B8} (hy : a.eval y = .agg (prow k' m' lo' hi' nm' nu')) (hg : PRow w g k m lo hi nm nu)
    (h : wpList Tryd.prog ops Q rest (a.put o.dst undef) (w.setRow g (prow k' m' lo' hi' nm' nu'))) : wpList Tryd.prog ops Q (o :: rest) a w :=
  wpList_store_row hgd 41 x y ho g _ hx hy 41 _ hg prdSize rfl (by simp [Value.oneCell']) h
theorem PRow.setRow (h : PRow w g k m lo hi nm nu) (k' m' lo' hi' : Int) (nm' : List B8) (nu' : Int) : PRow (w.setRow g (prow k' m' lo' hi' nm' nu')) g k' m' lo' hi' nm' nu' := Whole.setRow h _
theorem results_prd {fn : Func} {p : Tmp} (h : fn.results = #[.cell p 41]) (tmps : Array Value) (hp : tmps.getD p undef = .pointer (some ⟨g, 0, none⟩)) (hg : PRow w g k m lo hi nm nu) :
    (results fn tmps).run Tryd.prog w = .ok (.agg (prow k m lo hi nm nu)) w :=
  results_cell_row h tmps w g 41 _ (0, 0) _ hp hg Tryd.underlying41 rfl prdSize
theorem results_prd1 {fn : Func} {p q : Tmp} (h : fn.results = #[.cell p 41, .tmp q]) (tmps : Array Value) (hp : tmps.getD p undef = .pointer (some ⟨g, 0, none⟩)) (x : Value) (hq : tmps.getD q undef = x) (hg : PRow w g k m lo hi nm nu) :
    (results fn tmps).run Tryd.prog w = .ok (.tuple #[.agg (prow k m lo hi nm nu), x]) w := by
  have hp' : tmps[p]?.getD undef = .pointer (some ⟨g, 0, none⟩) := by simpa using hp
  have hq' : tmps[q]?.getD undef = x := by simpa using hq
  simp [results, h, hp', hq', asAddr, run_loadVar_row w g 41 41 _ (0, 0) _ hg Tryd.underlying41 rfl prdSize]
theorem results_prd2 {fn : Func} {p q r : Tmp} (h : fn.results = #[.cell p 41, .tmp q, .tmp r]) (tmps : Array Value) (hp : tmps.getD p undef = .pointer (some ⟨g, 0, none⟩)) (x y : Value) (hq : tmps.getD q undef = x) (hr : tmps.getD r undef = y) (hg : PRow w g k m lo hi nm nu) :
    (results fn tmps).run Tryd.prog w = .ok (.tuple #[.agg (prow k m lo hi nm nu), x, y]) w := by
  have hp' : tmps[p]?.getD undef = .pointer (some ⟨g, 0, none⟩) := by simpa using hp
  have hq' : tmps[q]?.getD undef = x := by simpa using hq
  have hr' : tmps[r]?.getD undef = y := by simpa using hr
  simp [results, h, hp', hq', hr', asAddr, run_loadVar_row w g 41 41 _ (0, 0) _ hg Tryd.underlying41 rfl prdSize]
end
end Go.Proofs.YtgbcncfhmnhljaaDoor
namespace Go.Proofs.YtgbcncfhmnhljaaDoor
open Go Go.RowKit Sh Leaf

/-- A ride as a value. -/
@[irreducible] def cv (c : Ctx) : Value := .agg #[.int .i64 c.zone, .int .i64 c.line, .int .i64 c.minute, .string (sof c.holder)]
/-- A ride's cells. -/
abbrev crow (z l m : Int) (h : List B8) : Array Value := #[.int .i64 z, .int .i64 l, .int .i64 m, .string (sof h)]
theorem ctxSize : (Tryd.prog.info? 34).map (·.size) = some 4 := by kernel_rfl
theorem cv_row (c : Ctx) : cv c = .agg (crow c.zone c.line c.minute c.holder) := by unfold cv; rfl
/-- The block g is the ride's. -/
abbrev CRow (w : World) (g : Nat) (z l m : Int) (h : List B8) : Prop := Whole w g 34 (crow z l m h)
section
variable {w : World} {g : Nat} {z l m : Int} {nm : List B8}
theorem CRow.cells (h : CRow w g z l m nm) : w.cell? ⟨g, 0, none⟩ = some (.int .i64 z) ∧ w.cell? ⟨g, 1, none⟩ = some (.int .i64 l) ∧ w.cell? ⟨g, 2, none⟩ = some (.int .i64 m) ∧ w.cell? ⟨g, 3, none⟩ = some (.string (sof nm)) :=
  ⟨h.cell 0, h.cell 1, h.cell 2, h.cell 3⟩
theorem CRow.frees (h : CRow w g z l m nm) : w.frozen? ⟨g, 0, none⟩ = false ∧ w.frozen? ⟨g, 1, none⟩ = false ∧ w.frozen? ⟨g, 2, none⟩ = false ∧ w.frozen? ⟨g, 3, none⟩ = false :=
  ⟨h.frozen 0, h.frozen 1, h.frozen 2, h.frozen 3⟩
theorem CRow.set0 (h : CRow w g z l m nm) (x : Int) : CRow (w.setCell ⟨g, 0, none⟩ (.int .i64 x)) g x l m nm := by have := h.set 0 (.int .i64 x); simpa using this
theorem CRow.set1 (h : CRow w g z l m nm) (x : Int) : CRow (w.setCell ⟨g, 1, none⟩ (.int .i64 x)) g z x m nm := by have := h.set 1 (.int .i64 x); simpa using this
theorem CRow.set2 (h : CRow w g z l m nm) (x : Int) : CRow (w.setCell ⟨g, 2, none⟩ (.int .i64 x)) g z l x nm := by have := h.set 2 (.int .i64 x); simpa using this
theorem CRow.set3 (h : CRow w g z l m nm) (x : List B8) : CRow (w.setCell ⟨g, 3, none⟩ (.string (sof x))) g z l m x := by have := h.set 3 (.string (sof x)); simpa using this
theorem CRow.setRow (h : CRow w g z l m nm) (z' l' m' : Int) (nm' : List B8) : CRow (w.setRow g (crow z' l' m' nm')) g z' l' m' nm' := Whole.setRow h _
/-- A load of the whole ride. -/
theorem wpList_load_ctx {ops : Array Oper} {rest : List Oper} {o : Oper} {a : Act} {Q : Exit → Act → World → Prop} (hgd : o.guard = none) (x : Operand) (ho : o.op = .load 34 x)
    (hx : a.eval x = .pointer (some ⟨g, 0, none⟩)) (hg : CRow w g z l m nm) (h : wpList Tryd.prog ops Q rest (a.put o.dst (.agg (crow z l m nm))) w) : wpList Tryd.prog ops Q (o :: rest) a w :=
  wpList_load_row hgd 34 x ho g hx 34 _ (0, 0) _ hg Tryd.underlying34 rfl ctxSize h
/-- A store of a whole ride. -/
theorem wpList_store_ctx {ops : Array Oper} {rest : List Oper} {o : Oper} {a : Act} {Q : Exit → Act → World → Prop} (hgd : o.guard = none) (x y : Operand) (ho : o.op = .store 34 x y)
    (hx : a.eval x = .pointer (some ⟨g, 0, none⟩)) {z' l' m' : Int} {nm' : List B8} (hy : a.eval y = .agg (crow z' l' m' nm')) (hg : CRow w g z l m nm)
    (h : wpList Tryd.prog ops Q rest (a.put o.dst undef) (w.setRow g (crow z' l' m' nm'))) : wpList Tryd.prog ops Q (o :: rest) a w :=
  wpList_store_row hgd 34 x y ho g _ hx hy 34 _ hg ctxSize rfl (by simp [Value.oneCell']) h
theorem results_ctx {fn : Func} {p : Tmp} (h : fn.results = #[.cell p 34]) (tmps : Array Value) (hp : tmps.getD p undef = .pointer (some ⟨g, 0, none⟩)) (hg : CRow w g z l m nm) :
    (results fn tmps).run Tryd.prog w = .ok (.agg (crow z l m nm)) w :=
  results_cell_row h tmps w g 34 _ (0, 0) _ hp hg Tryd.underlying34 rfl ctxSize
end
/-- A quotient's bit, as the programs ask for it. -/
theorem bit_val (m i : Nat) : (((m : Int) / 2 ^ i).tmod 2 == 1) = decide (m / 2 ^ i % 2 = 1) := by
  have e : ((m : Int) / 2 ^ i) = ((m / 2 ^ i : Nat) : Int) := by push_cast; rfl
  have e2 : ((m / 2 ^ i : Nat) : Int) % 2 = ((m / 2 ^ i % 2 : Nat) : Int) := by push_cast; rfl
  rw [e, Int.tmod_eq_emod_of_nonneg (Int.natCast_nonneg _), e2]
  by_cases h : m / 2 ^ i % 2 = 1
  · rw [h]; rfl
  · rw [show m / 2 ^ i % 2 = 0 by omega]; rfl
theorem bit_and (m i : Nat) (hm : m < 18446744073709551616) : (bits .and .u64 ((m : Int) / 2 ^ i) 1 == 1) = decide (m / 2 ^ i % 2 = 1) := by
  have e : ((m : Int) / 2 ^ i) = ((m / 2 ^ i : Nat) : Int) := by push_cast; rfl
  have hl : m / 2 ^ i < 18446744073709551616 := Nat.lt_of_le_of_lt (Nat.div_le_self _ _) hm
  rw [e, show (1 : Int) = ((1 : Nat) : Int) from rfl, bits_and_u64_nat _ 1 hl (by omega), Nat.and_one_is_mod]
  by_cases h : m / 2 ^ i % 2 = 1
  · rw [h]; rfl
  · rw [show m / 2 ^ i % 2 = 0 by omega]; rfl
end Go.Proofs.YtgbcncfhmnhljaaDoor
namespace Go.Proofs.YtgbcncfhmnhljaaDoor
open Go Go.RowKit Sh Leaf

/-- A predicate's cells. -/
def pcl (p : Prd) : List Value := [.int .i64 p.kind, .int .u64 (p.mask : Int), .int .i64 p.lo, .int .i64 p.hi, .string (sof p.name), .int .i64 p.num]
/-- The cells of a list of predicates. -/
def pcs (l : List Prd) : List Value := l.flatMap pcl
theorem pcl_length (p : Prd) : (pcl p).length = 6 := rfl
theorem pcs_length (l : List Prd) : (pcs l).length = l.length * 6 := by
  induction l with
  | nil => rfl
  | cons p t ih => rw [pcs, List.flatMap_cons, List.length_append, pcl_length]; rw [pcs] at ih; rw [ih, List.length_cons]; omega
theorem pcs_cons (p : Prd) (t : List Prd) : pcs (p :: t) = pcl p ++ pcs t := by rw [pcs, List.flatMap_cons]; rfl
theorem pcs_append (a b : List Prd) : pcs (a ++ b) = pcs a ++ pcs b := by rw [pcs, List.flatMap_append]; rfl
theorem pcs_at : ∀ (l : List Prd) (j : Nat) (p : Prd), l[j]? = some p → ∀ i v, (pcl p)[i]? = some v → (pcs l)[j * 6 + i]? = some v
  | [], j, p, h, _, _, _ => by simp at h
  | q :: t, 0, p, h, i, v, hv => by
    simp at h
    subst h
    rw [pcs_cons, Nat.zero_mul, Nat.zero_add, List.getElem?_append_left (by have := (List.getElem?_eq_some_iff.1 hv).1; exact this), hv]
  | q :: t, j + 1, p, h, i, v, hv => by
    rw [pcs_cons, List.getElem?_append_right (by rw [pcl_length]; omega), pcl_length, show (j + 1) * 6 + i - 6 = j * 6 + i by omega]
    exact pcs_at t j p (by simpa using h) i v hv
theorem pok_name_le {p : Prd} (h : pok p) : p.name.length ≤ 16 := by
  unfold pok at h
  rcases h with h | h | h | h | h | h | h
  · simp [h.2.2.2.2.1]
  · simp [h.2.2.2.2.2.1]
  · simp [h.2.2.2.2.2.1]
  · simp [h.2.2.2.2.2.1]
  · simp [h.2.2.2.2.2.2.1]
  · exact h.2.2.2.2.1.2.1
  · simp [h.2.2.2.2.1]
/-- A predicate of a program: its mask is a word, its name a string. -/
def pbd (p : Prd) : Prop := p.mask < 18446744073709551616 ∧ p.name.length ≤ 9223372036854775807
/-- The slice value .slice A l.length c reads as the predicates l; its cells lie in a block of which Q holds. -/
def Prds (w : World) (Q : Nat → Prop) (A : Option Addr) (c : Nat) (l : List Prd) : Prop :=
  l.length ≤ c ∧ c ≤ maxLen ∧ (A = none → c = 0) ∧ (∀ p ∈ l, pbd p) ∧ (0 < l.length → ∃ g o, A = some ⟨g, o, none⟩ ∧ Q g ∧ g < w.heap.size ∧ w.rangeAt g o (pcs l))
section
variable {w w' : World} {Q Q' : Nat → Prop} {A : Option Addr} {c : Nat} {l : List Prd}
theorem Prds.keep (h : Prds w Q A c l) (hs : w.heap.size ≤ w'.heap.size) (hk : ∀ g, g < w.heap.size → Q g → w'.heap[g]? = w.heap[g]?) : Prds w' Q A c l := by
  obtain ⟨h1, h2, h3, h4, h5⟩ := h
  refine ⟨h1, h2, h3, h4, fun hl => ?_⟩
  obtain ⟨g, o, hA, hq, hg, hc⟩ := h5 hl
  refine ⟨g, o, hA, hq, by omega, fun j v hj => ?_⟩
  rw [← hc j v hj]
  exact World.cell?_of_block (w := w) (hk g hg hq)
theorem Prds.below {B : Nat} (h : Prds w Q A c l) (hb : Below B w w') (hB : w.heap.size ≤ B) : Prds w' Q A c l := h.keep hb.size fun g hg _ => hb.block g (by omega)
theorem Prds.alloc (h : Prds w Q A c l) (o : Obj) : Prds (w.alloc o) Q A c l := h.below ((Below.refl w.heap.size w).alloc (Nat.le_refl _) o) (Nat.le_refl _)
theorem Prds.mono (h : Prds w Q A c l) (hq : ∀ g, g < w.heap.size → Q g → Q' g) : Prds w Q' A c l := by
  obtain ⟨h1, h2, h3, h4, h5⟩ := h
  refine ⟨h1, h2, h3, h4, fun hl => ?_⟩
  obtain ⟨g, o, hA, hg, hlt, hc⟩ := h5 hl
  exact ⟨g, o, hA, hq g hlt hg, hlt, hc⟩
theorem Prds.nil (w : World) (Q : Nat → Prop) : Prds w Q none 0 [] := ⟨by simp, by simp [maxLen], fun _ => rfl, fun p h => by simp at h, fun h => absurd h (by simp)⟩
/-- Element j: its six cells. -/
theorem Prds.get (h : Prds w Q A c l) (j : Nat) (p : Prd) (hj : l[j]? = some p) : ∃ g o, A = some ⟨g, o, none⟩ ∧ Q g ∧ g < w.heap.size ∧ w.cell? ⟨g, o + j * 6, none⟩ = some (.int .i64 p.kind) ∧ w.cell? ⟨g, o + j * 6 + 1, none⟩ = some (.int .u64 (p.mask : Int)) ∧ w.cell? ⟨g, o + j * 6 + 2, none⟩ = some (.int .i64 p.lo) ∧ w.cell? ⟨g, o + j * 6 + 3, none⟩ = some (.int .i64 p.hi) ∧ w.cell? ⟨g, o + j * 6 + 4, none⟩ = some (.string (sof p.name)) ∧ w.cell? ⟨g, o + j * 6 + 5, none⟩ = some (.int .i64 p.num) := by
  obtain ⟨h1, h2, h3, h4, h5⟩ := h
  have hlt := (List.getElem?_eq_some_iff.1 hj).1
  obtain ⟨g, o, hA, hg, hl, hc⟩ := h5 (by omega)
  have e := pcs_at l j p hj
  have f := fun i v hv => hc (j * 6 + i) v (e i v hv)
  refine ⟨g, o, hA, hg, hl, f 0 _ rfl, ?_, ?_, ?_, ?_, ?_⟩
  · rw [Nat.add_assoc]; exact f 1 _ rfl
  · rw [Nat.add_assoc]; exact f 2 _ rfl
  · rw [Nat.add_assoc]; exact f 3 _ rfl
  · rw [Nat.add_assoc]; exact f 4 _ rfl
  · rw [Nat.add_assoc]; exact f 5 _ rfl
end
end Go.Proofs.YtgbcncfhmnhljaaDoor
namespace Go.Proofs.YtgbcncfhmnhljaaDoor
open Go Go.RowKit Sh Leaf

theorem ab_below (w : World) (o1 o2 : Obj) : Below w.heap.size w ((w.alloc o1).alloc o2) := ((Below.refl w.heap.size w).alloc (Nat.le_refl _) o1).alloc (by simp) o2
/-- A span's cells. -/
def scl (s : Int × Int) : List Value := [.int .i64 s.1, .int .i64 s.2]
theorem scl_len (s : Int × Int) : (scl s).length = 2 := rfl
theorem scl_one (s : Int × Int) : ∀ v ∈ scl s, v.oneCell' = true := by
  intro v hv
  simp [scl] at hv
  rcases hv with rfl | rfl <;> rfl
/-- A number of a program. -/
abbrev i64ok (z : Int) : Prop := -9223372036854775808 ≤ z ∧ z ≤ 9223372036854775807
def sbd (s : Int × Int) : Prop := i64ok s.1 ∧ i64ok s.2
/-- The slice value .slice A l.length c reads as the spans l. -/
abbrev Spn (w : World) (Q : Nat → Prop) (A : Option Addr) (c : Nat) (l : List (Int × Int)) : Prop := Seq scl sbd w Q A c l
abbrev OwnSp (w : World) (base : Nat) (v : Value) (l : List (Int × Int)) : Prop := OwnS scl 2 50 w base v l
theorem Spn.get {w : World} {Q : Nat → Prop} {A : Option Addr} {c : Nat} {l : List (Int × Int)} (h : Spn w Q A c l) (j : Nat) (p : Int × Int) (hj : l[j]? = some p) : ∃ g o, A = some ⟨g, o, none⟩ ∧ Q g ∧ g < w.heap.size ∧ w.cell? ⟨g, o + j * 2, none⟩ = some (.int .i64 p.1) ∧ w.cell? ⟨g, o + j * 2 + 1, none⟩ = some (.int .i64 p.2) := by
  obtain ⟨g, o, hA, hq, hl, hc⟩ := Seq.get scl_len h j p hj
  exact ⟨g, o, hA, hq, hl, hc 0 _ rfl, hc 1 _ rfl⟩
theorem spanInfo : (Tryd.prog.info? 50).map (fun i => (i.zero, i.size, i.bytes)) = some (some (.agg #[.int .i64 0, .int .i64 0]), 2, 16) := by kernel_rfl
theorem run_neq_span (a b c d : Int) (w : World) : (binOp .neq 50 (.agg #[.int .i64 a, .int .i64 b]) (.agg #[.int .i64 c, .int .i64 d])).run Tryd.prog w = .ok (.bool (!decide (a = c ∧ b = d))) w := by
  rw [run_neq_struct]
  by_cases h1 : a = c
  · by_cases h2 : b = d
    · simp [go_sem, h1, h2]
    · simp [go_sem, h1, h2]
  · simp [go_sem, h1]
/-- An authority's cells. -/
abbrev arow (no : Bool) (z l d lo hi : Int) (v : Value) (h : List B8) : Array Value := #[.bool no, .int .u64 z, .int .u64 l, .int .u64 d, .int .i64 lo, .int .i64 hi, v, .string (sof h)]
theorem autSize : (Tryd.prog.info? 25).map (·.size) = some 8 := by kernel_rfl
/-- What an authority of a program is. -/
def abd (a : Aut) : Prop := a.zones < 18446744073709551616 ∧ a.lines < 18446744073709551616 ∧ a.days < 18446744073709551616 ∧ i64ok a.lo ∧ i64ok a.hi ∧ a.holder.length ≤ 9223372036854775807
/-- The value of the authority a whose spans lie at A. -/
abbrev avl (a : Aut) (A : Option Addr) (c : Nat) : Array Value := arow a.none a.zones a.lines a.days a.lo a.hi (.slice A a.daily.length c) a.holder
/-- The value x is the authority a; its spans lie in a block of which Q holds. -/
def Av (w : World) (Q : Nat → Prop) (x : Value) (a : Aut) : Prop := ∃ A c, x = .agg (avl a A c) ∧ Spn w Q A c a.daily ∧ abd a
/-- The block g is the authority's. -/
abbrev ARow (w : World) (g : Nat) (no : Bool) (z l d lo hi : Int) (v : Value) (h : List B8) : Prop := Whole w g 25 (arow no z l d lo hi v h)
section
variable {w : World} {g : Nat} {no : Bool} {z l d lo hi : Int} {v : Value} {nm : List B8}
theorem ARow.cells (h : ARow w g no z l d lo hi v nm) : w.cell? ⟨g, 0, none⟩ = some (.bool no) ∧ w.cell? ⟨g, 1, none⟩ = some (.int .u64 z) ∧ w.cell? ⟨g, 2, none⟩ = some (.int .u64 l) ∧ w.cell? ⟨g, 3, none⟩ = some (.int .u64 d) ∧ w.cell? ⟨g, 4, none⟩ = some (.int .i64 lo) ∧ w.cell? ⟨g, 5, none⟩ = some (.int .i64 hi) ∧ w.cell? ⟨g, 6, none⟩ = some v ∧ w.cell? ⟨g, 7, none⟩ = some (.string (sof nm)) :=
  ⟨h.cell 0, h.cell 1, h.cell 2, h.cell 3, h.cell 4, h.cell 5, h.cell 6, h.cell 7⟩
theorem ARow.set0 (h : ARow w g no z l d lo hi v nm) (x : Bool) : ARow (w.setCell ⟨g, 0, none⟩ (.bool x)) g x z l d lo hi v nm := by have := h.set 0 (.bool x); simpa using this
theorem ARow.set1 (h : ARow w g no z l d lo hi v nm) (x : Int) : ARow (w.setCell ⟨g, 1, none⟩ (.int .u64 x)) g no x l d lo hi v nm := by have := h.set 1 (.int .u64 x); simpa using this
theorem ARow.set2 (h : ARow w g no z l d lo hi v nm) (x : Int) : ARow (w.setCell ⟨g, 2, none⟩ (.int .u64 x)) g no z x d lo hi v nm := by have := h.set 2 (.int .u64 x); simpa using this
theorem ARow.set3 (h : ARow w g no z l d lo hi v nm) (x : Int) : ARow (w.setCell ⟨g, 3, none⟩ (.int .u64 x)) g no z l x lo hi v nm := by have := h.set 3 (.int .u64 x); simpa using this
theorem ARow.set4 (h : ARow w g no z l d lo hi v nm) (x : Int) : ARow (w.setCell ⟨g, 4, none⟩ (.int .i64 x)) g no z l d x hi v nm := by have := h.set 4 (.int .i64 x); simpa using this
theorem ARow.set5 (h : ARow w g no z l d lo hi v nm) (x : Int) : ARow (w.setCell ⟨g, 5, none⟩ (.int .i64 x)) g no z l d lo x v nm := by have := h.set 5 (.int .i64 x); simpa using this
theorem ARow.set6 (h : ARow w g no z l d lo hi v nm) (x : Value) : ARow (w.setCell ⟨g, 6, none⟩ x) g no z l d lo hi x nm := by have := h.set 6 x; simpa using this
theorem ARow.set7 (h : ARow w g no z l d lo hi v nm) (x : List B8) : ARow (w.setCell ⟨g, 7, none⟩ (.string (sof x))) g no z l d lo hi v x := by have := h.set 7 (.string (sof x)); simpa using this
theorem wpList_load_aut {ops : Array Oper} {rest : List Oper} {o : Oper} {a : Act} {Q : Exit → Act → World → Prop} (hgd : o.guard = none) (x : Operand) (ho : o.op = .load 25 x)
    (hx : a.eval x = .pointer (some ⟨g, 0, none⟩)) (hg : ARow w g no z l d lo hi v nm) (h : wpList Tryd.prog ops Q rest (a.put o.dst (.agg (arow no z l d lo hi v nm))) w) : wpList Tryd.prog ops Q (o :: rest) a w :=
  wpList_load_row hgd 25 x ho g hx 25 _ (0, 0) _ hg Tryd.underlying25 rfl autSize h
theorem wpList_store_aut {ops : Array Oper} {rest : List Oper} {o : Oper} {a : Act} {Q : Exit → Act → World → Prop} (hgd : o.guard = none) (x y : Operand) (ho : o.op = .store 25 x y)
    (hx : a.eval x = .pointer (some ⟨g, 0, none⟩)) {cs cs' : Array Value} (hy : a.eval y = .agg cs') (hg : Whole w g 25 cs) (h8 : cs.size = 8) (h8' : cs'.size = 8) (hone : cs'.all (·.oneCell') = true)
    (h : wpList Tryd.prog ops Q rest (a.put o.dst undef) (w.setRow g cs')) : wpList Tryd.prog ops Q (o :: rest) a w :=
  wpList_store_row hgd 25 x y ho g _ hx hy 25 _ hg (by rw [autSize, h8']) (by rw [h8, h8']) hone h
theorem results_aut {fn : Func} {p : Tmp} (h : fn.results = #[.cell p 25]) (tmps : Array Value) (hp : tmps.getD p undef = .pointer (some ⟨g, 0, none⟩)) {cs : Array Value} (h8 : cs.size = 8) (hg : Whole w g 25 cs) :
    (results fn tmps).run Tryd.prog w = .ok (.agg cs) w :=
  results_cell_row h tmps w g 25 _ (0, 0) _ hp hg Tryd.underlying25 rfl (by rw [autSize, h8])
end
end Go.Proofs.YtgbcncfhmnhljaaDoor
namespace Go.Proofs.YtgbcncfhmnhljaaDoor
open Go Go.RowKit Sh Leaf
namespace Sh

/-- Full. -/
abbrev fullA : Aut := ⟨false, 18446744073709551615, 4294967295, 127, 0, 67108864, [(0, 1439)], []⟩
theorem full_canon : Canon 18446744073709551615 4294967295 (inT 0 67108864 127 (fun _ => True)) [] fullA where
  none := rfl
  zones := rfl
  lines := rfl
  holder := rfl
  lo := ⟨0, ⟨by omega, by omega, by decide, trivial⟩, rfl, fun y _ => by omega⟩
  hi := ⟨67108864, ⟨by omega, by omega, by decide, trivial⟩, rfl, fun y h => h.2.1⟩
  days := by decide
  day := fun w hw => by
    constructor
    · intro _
      refine ⟨w * 1440, ⟨by omega, by omega, ?_, trivial⟩, by omega⟩
      have e : w * 1440 / 1440 % 7 = w := by omega
      rw [e]
      rcases (by omega : w = 0 ∨ w = 1 ∨ w = 2 ∨ w = 3 ∨ w = 4 ∨ w = 5 ∨ w = 6) with rfl | rfl | rfl | rfl | rfl | rfl | rfl <;> decide
    · intro _
      rcases (by omega : w = 0 ∨ w = 1 ∨ w = 2 ∨ w = 3 ∨ w = 4 ∨ w = 5 ∨ w = 6) with rfl | rfl | rfl | rfl | rfl | rfl | rfl <;> decide
  sep := ⟨by decide, by decide, trivial⟩
  less := fun s hs => by rw [List.mem_singleton.1 hs]; decide
  minute := fun k => by
    constructor
    · rintro ⟨s, hs, h1, h2⟩
      rw [List.mem_singleton.1 hs] at h1 h2
      simp only at h1 h2
      refine ⟨k, ⟨by omega, by omega, ?_, trivial⟩, by omega⟩
      have e : k / 1440 % 7 = 0 := by omega
      rw [e]
    · rintro ⟨x, _, e⟩
      exact ⟨(0, 1439), by simp, by simp only; omega, by simp only; omega⟩
theorem bit127 (w : Nat) (h : w < 7) : 127 / 2 ^ w % 2 = 1 := by
  rcases (by omega : w = 0 ∨ w = 1 ∨ w = 2 ∨ w = 3 ∨ w = 4 ∨ w = 5 ∨ w = 6) with rfl | rfl | rfl | rfl | rfl | rfl | rfl <;> decide
theorem full_set : IsSet (fun _ => True) fullA := by
  refine (canon_set full_canon (by decide) (by decide) (by decide) (by decide) (by decide) (.inl rfl)).congr fun c hc => ?_
  obtain ⟨⟨z0, z1⟩, ⟨l0, l1⟩, ⟨m0, m1⟩, _⟩ := hc
  refine iff_of_true ⟨?_, ?_, ⟨by omega, by omega, ?_, trivial⟩, .inl rfl⟩ trivial
  · exact hbit_full (n := 64) (by omega)
  · exact hbit_full (n := 32) (by omega)
  · exact bit127 _ (by omega)
end Sh
theorem aok_abd {a : Aut} (h : aok a) : abd a := by
  rcases (by cases a.none <;> simp : a.none = false ∨ a.none = true) with hn | hn
  · obtain ⟨h1, h2, h3, h4, h5, h6, h7, h8, h9, h10, h11⟩ := aok_rng h hn
    have := (some_aok h hn).2.1
    refine ⟨this, by omega, by omega, ⟨by omega, by omega⟩, ⟨by omega, by omega⟩, ?_⟩
    rcases h9 with h | h
    · rw [h]; simp
    · have := h.2.1; omega
  · rw [none_aok h hn]
    exact ⟨by decide, by decide, by decide, ⟨by decide, by decide⟩, ⟨by decide, by decide⟩, by decide⟩
theorem aok_sbd {a : Aut} (h : aok a) : ∀ s ∈ a.daily, sbd s := fun s hs => by
  have := (aok_bd h).2 s hs
  exact ⟨⟨by omega, by omega⟩, ⟨by omega, by omega⟩⟩
theorem av_never (w : World) (Q : Nat → Prop) : Av w Q (.agg (arow true 0 0 0 0 0 (.slice none 0 0) [])) .never :=
  ⟨none, 0, rfl, Seq.nil w Q, aok_abd aok_never⟩
theorem Av.keep {w w' : World} {Q : Nat → Prop} {x : Value} {a : Aut} (h : Av w Q x a) (hs : w.heap.size ≤ w'.heap.size) (hk : ∀ g, g < w.heap.size → Q g → w'.heap[g]? = w.heap[g]?) : Av w' Q x a := by
  obtain ⟨A, c, e, hS, hb⟩ := h
  exact ⟨A, c, e, hS.keep hs hk, hb⟩
theorem Av.below {w w' : World} {B : Nat} {Q : Nat → Prop} {x : Value} {a : Aut} (h : Av w Q x a) (hb : Below B w w') (hB : w.heap.size ≤ B) : Av w' Q x a := h.keep hb.size fun g hg _ => hb.block g (by omega)
theorem Av.low {w w' : World} {B : Nat} {x : Value} {a : Aut} (h : Av w (fun g => g < B) x a) (hb : Below B w w') : Av w' (fun g => g < B) x a := h.keep hb.size fun g _ hq => hb.block g hq
theorem Av.mono {w : World} {Q Q' : Nat → Prop} {x : Value} {a : Aut} (h : Av w Q x a) (hq : ∀ g, g < w.heap.size → Q g → Q' g) : Av w Q' x a := by
  obtain ⟨A, c, e, hS, hb⟩ := h
  exact ⟨A, c, e, hS.mono hq, hb⟩
theorem Av.any {w : World} {Q : Nat → Prop} {x : Value} {a : Aut} (h : Av w Q x a) : Av w (fun g => g < w.heap.size) x a := h.mono fun _ hg _ => hg
theorem Av.all {w : World} {Q : Nat → Prop} {x : Value} {a : Aut} (h : Av w Q x a) : Av w (fun _ => True) x a := h.mono fun _ _ _ => trivial
end Go.Proofs.YtgbcncfhmnhljaaDoor
namespace Go.Proofs.YtgbcncfhmnhljaaDoor
open Go Go.RowKit Sh Leaf
namespace Sh

/-- What the first i predicates of l leave. -/
structure OfI (l : List Prd) (i : Nat) (Z Ln F L D : Nat) (M : Nat → Bool) (no : Bool) (h : List B8) : Prop where
  zlt : Z < 18446744073709551616
  llt : Ln < 4294967296
  dlt : D < 128
  hlt : L ≤ 67108864
  flt : F ≤ 67108864
  nk : nok h
  ok : ∀ p ∈ l.take i, pok p
  all : ∀ c, cok c → (holdsAll (l.take i) c ↔ no = false ∧ hbit Z c.zone ∧ hbit Ln c.line ∧ inT F L D (fun k => M k = true) c.minute.toNat ∧ (h = [] ∨ h = c.holder))
theorem OfI.congr {l : List Prd} {i : Nat} {Z Ln F L D : Nat} {M N : Nat → Bool} {no : Bool} {h : List B8} (H : OfI l i Z Ln F L D M no h) (e : ∀ k, k < 1440 → M k = N k) : OfI l i Z Ln F L D N no h :=
  ⟨H.zlt, H.llt, H.dlt, H.hlt, H.flt, H.nk, H.ok, fun c hc => by
    rw [H.all c hc]
    have q : (fun k => M k = true) (c.minute.toNat % 1440) ↔ (fun k => N k = true) (c.minute.toNat % 1440) := by
      show M _ = true ↔ N _ = true
      rw [e _ (by omega)]
    unfold inT
    rw [q]⟩
theorem OfI.start (l : List Prd) : OfI l 0 18446744073709551615 4294967295 0 67108864 127 (fun _ => true) false [] where
  zlt := by omega
  llt := by omega
  dlt := by omega
  hlt := by omega
  flt := by omega
  nk := .inl rfl
  ok := fun p hp => by simp at hp
  all := fun c hc => by
    obtain ⟨⟨z0, z1⟩, ⟨l0, l1⟩, ⟨m0, m1⟩, _⟩ := hc
    refine iff_of_true (fun p hp => by simp at hp) ⟨rfl, ?_, ?_, ⟨by omega, by omega, ?_, rfl⟩, .inl rfl⟩
    · exact hbit_full (n := 64) (by omega)
    · exact hbit_full (n := 32) (by omega)
    · exact bit127 _ (by omega)
theorem take_snoc {α : Type} {l : List α} {i : Nat} {p : α} (h : l[i]? = some p) : l.take (i + 1) = l.take i ++ [p] := by rw [List.take_add_one, h]; rfl
/-- One more predicate. -/
theorem OfI.step {l : List Prd} {i : Nat} {Z Ln F L D : Nat} {M : Nat → Bool} {no : Bool} {h : List B8} (H : OfI l i Z Ln F L D M no h) {p : Prd} (hp : l[i]? = some p) (hk : pok p)
    {Z' Ln' F' L' D' : Nat} {M' : Nat → Bool} {no' : Bool} {h' : List B8} (z : Z' < 18446744073709551616) (ln : Ln' < 4294967296) (d : D' < 128) (hL : L' ≤ 67108864) (hF : F' ≤ 67108864) (nk : nok h')
    (e : ∀ c, cok c → ((no = false ∧ hbit Z c.zone ∧ hbit Ln c.line ∧ inT F L D (fun k => M k = true) c.minute.toNat ∧ (h = [] ∨ h = c.holder)) ∧ asks p c ↔ no' = false ∧ hbit Z' c.zone ∧ hbit Ln' c.line ∧ inT F' L' D' (fun k => M' k = true) c.minute.toNat ∧ (h' = [] ∨ h' = c.holder))) :
    OfI l (i + 1) Z' Ln' F' L' D' M' no' h' where
  zlt := z
  llt := ln
  dlt := d
  hlt := hL
  flt := hF
  nk := nk
  ok := fun q hq => by
    rw [take_snoc hp] at hq
    rcases List.mem_append.1 hq with hq | hq
    · exact H.ok q hq
    · rw [List.mem_singleton.1 hq]; exact hk
  all := fun c hc => by
    rw [← e c hc, ← H.all c hc]
    unfold holdsAll
    rw [take_snoc hp]
    constructor
    · exact fun g => ⟨fun q hq => g q (List.mem_append_left _ hq), g p (by simp)⟩
    · rintro ⟨g1, g2⟩ q hq
      rcases List.mem_append.1 hq with hq | hq
      · exact g1 q hq
      · rw [List.mem_singleton.1 hq]; exact g2
section
variable {l : List Prd} {i : Nat} {Z Ln F L D : Nat} {M : Nat → Bool} {no : Bool} {h : List B8} (H : OfI l i Z Ln F L D M no h)
variable {m : Nat} {lo hi nu : Int} {nm : List B8}
include H
theorem OfI.zone (hp : l[i]? = some ⟨1, m, lo, hi, nm, nu⟩) (hk : pok ⟨1, m, lo, hi, nm, nu⟩) : OfI l (i + 1) (Z &&& m) Ln F L D M no h :=
  H.step hp hk (Nat.lt_of_le_of_lt Nat.and_le_left H.zlt) H.llt H.dlt H.hlt H.flt H.nk fun c _ => by
    rw [hbit_and]
    unfold asks
    rw [if_pos rfl]
    constructor
    · rintro ⟨⟨a, b, c, d, e⟩, f⟩; exact ⟨a, ⟨b, f⟩, c, d, e⟩
    · rintro ⟨a, ⟨b, f⟩, c, d, e⟩; exact ⟨⟨a, b, c, d, e⟩, f⟩
theorem OfI.line (hp : l[i]? = some ⟨2, m, lo, hi, nm, nu⟩) (hk : pok ⟨2, m, lo, hi, nm, nu⟩) : OfI l (i + 1) Z (Ln &&& m) F L D M no h :=
  H.step hp hk H.zlt (Nat.lt_of_le_of_lt Nat.and_le_left H.llt) H.dlt H.hlt H.flt H.nk fun c _ => by
    rw [hbit_and]
    unfold asks
    rw [if_neg (by simp), if_pos rfl]
    constructor
    · rintro ⟨⟨a, b, c, d, e⟩, f⟩; exact ⟨a, b, ⟨c, f⟩, d, e⟩
    · rintro ⟨a, b, ⟨c, f⟩, d, e⟩; exact ⟨⟨a, b, c, d, e⟩, f⟩
theorem OfI.days (hp : l[i]? = some ⟨3, m, lo, hi, nm, nu⟩) (hk : pok ⟨3, m, lo, hi, nm, nu⟩) : OfI l (i + 1) Z Ln F L (D &&& m) M no h :=
  H.step hp hk H.zlt H.llt (Nat.lt_of_le_of_lt Nat.and_le_left H.dlt) H.hlt H.flt H.nk fun c hc => by
    obtain ⟨_, _, ⟨m0, m1⟩, _⟩ := hc
    have hd := hbit_and D m ((c.minute.toNat / 1440 % 7 : Nat) : Int)
    unfold hbit at hd
    rw [Int.toNat_natCast] at hd
    unfold asks hbit inT
    rw [if_neg (by simp), if_neg (by simp), if_pos rfl, hd]
    have e : (c.minute / 1440 % 7).toNat = c.minute.toNat / 1440 % 7 := by omega
    rw [e]
    constructor
    · rintro ⟨⟨a, b, c, ⟨d1, d2, d3, d4⟩, e⟩, f⟩; exact ⟨a, b, c, ⟨d1, d2, ⟨d3, f⟩, d4⟩, e⟩
    · rintro ⟨a, b, c, ⟨d1, d2, ⟨d3, f⟩, d4⟩, e⟩; exact ⟨⟨a, b, c, ⟨d1, d2, d3, d4⟩, e⟩, f⟩
theorem OfI.time (hp : l[i]? = some ⟨4, m, lo, hi, nm, nu⟩) (hk : pok ⟨4, m, lo, hi, nm, nu⟩) : OfI l (i + 1) Z Ln (max F lo.toNat) (min L hi.toNat) D M no h := by
  have hb : 0 ≤ lo ∧ lo ≤ hi ∧ hi ≤ 67108864 := by unfold pok at hk; simp at hk; omega
  refine H.step hp hk H.zlt H.llt H.dlt (by have := H.hlt; omega) (by have := H.flt; omega) H.nk fun c hc => ?_
  obtain ⟨_, _, ⟨m0, m1⟩, _⟩ := hc
  unfold asks inT
  rw [if_neg (by simp), if_neg (by simp), if_neg (by simp), if_pos rfl]
  simp only
  constructor
  · rintro ⟨⟨a, b, c, ⟨d1, d2, d3, d4⟩, e⟩, f1, f2⟩; exact ⟨a, b, c, ⟨by omega, by omega, d3, d4⟩, e⟩
  · rintro ⟨a, b, c, ⟨d1, d2, d3, d4⟩, e⟩; exact ⟨⟨a, b, c, ⟨by omega, by omega, d3, d4⟩, e⟩, by omega, by omega⟩
/-- A minute of the day in a daily span. -/
def dly (lo hi : Int) (k : Nat) : Bool := if lo ≤ hi then decide (lo ≤ (k : Int) ∧ (k : Int) ≤ hi) else decide (lo ≤ (k : Int) ∨ (k : Int) ≤ hi)
theorem OfI.daily (hp : l[i]? = some ⟨5, m, lo, hi, nm, nu⟩) (hk : pok ⟨5, m, lo, hi, nm, nu⟩) : OfI l (i + 1) Z Ln F L D (fun k => M k && dly lo hi k) no h :=
  H.step hp hk H.zlt H.llt H.dlt H.hlt H.flt H.nk fun c hc => by
    obtain ⟨_, _, ⟨m0, m1⟩, _⟩ := hc
    unfold asks inT dly
    rw [if_neg (by simp), if_neg (by simp), if_neg (by simp), if_neg (by simp), if_pos rfl]
    simp only
    have e : ((c.minute.toNat % 1440 : Nat) : Int) = c.minute % 1440 := by omega
    rw [e, Bool.and_eq_true]
    by_cases hlh : lo ≤ hi
    · rw [if_pos hlh, if_pos hlh, decide_eq_true_iff]
      constructor
      · rintro ⟨⟨a, b, c, ⟨d1, d2, d3, d4⟩, e⟩, f⟩; exact ⟨a, b, c, ⟨d1, d2, d3, d4, f⟩, e⟩
      · rintro ⟨a, b, c, ⟨d1, d2, d3, d4, f⟩, e⟩; exact ⟨⟨a, b, c, ⟨d1, d2, d3, d4⟩, e⟩, f⟩
    · rw [if_neg hlh, if_neg hlh, decide_eq_true_iff]
      constructor
      · rintro ⟨⟨a, b, c, ⟨d1, d2, d3, d4⟩, e⟩, f⟩; exact ⟨a, b, c, ⟨d1, d2, d3, d4, f⟩, e⟩
      · rintro ⟨a, b, c, ⟨d1, d2, d3, d4, f⟩, e⟩; exact ⟨⟨a, b, c, ⟨d1, d2, d3, d4⟩, e⟩, f⟩
theorem OfI.holder (hp : l[i]? = some ⟨6, m, lo, hi, nm, nu⟩) (hk : pok ⟨6, m, lo, hi, nm, nu⟩) : OfI l (i + 1) Z Ln F L D M (no || (!decide (h = []) && !decide (h = nm))) nm := by
  have hn : nmok nm := by unfold pok at hk; simp at hk; exact hk.2.2.2.1
  refine H.step hp hk H.zlt H.llt H.dlt H.hlt H.flt (.inr hn) fun c hc => ?_
  have hne : ¬ nm = [] := fun e => by rw [e] at hn; have := hn.1; simp at this
  unfold asks
  rw [if_neg (by simp), if_neg (by simp), if_neg (by simp), if_neg (by simp), if_neg (by simp), if_pos rfl]
  simp only
  constructor
  · rintro ⟨⟨a, b, c, d, e⟩, f⟩
    refine ⟨?_, b, c, d, .inr f.symm⟩
    rcases e with e | e
    · rw [a, decide_eq_true e]; rfl
    · rw [a, decide_eq_true (p := h = nm) (e.trans f)]; simp
  · rintro ⟨a, b, c, d, e⟩
    have e' : nm = _ := e.elim (fun k => absurd k hne) id
    rw [Bool.or_eq_false_iff] at a
    refine ⟨⟨a.1, b, c, d, ?_⟩, e'.symm⟩
    by_cases h1 : h = []
    · exact .inl h1
    · by_cases h2 : h = nm
      · exact .inr (h2.trans e')
      · have := a.2
        rw [decide_eq_false h1, decide_eq_false h2] at this
        cases this
theorem OfI.rides (hp : l[i]? = some ⟨7, m, lo, hi, nm, nu⟩) (hk : pok ⟨7, m, lo, hi, nm, nu⟩) : OfI l (i + 1) Z Ln F L D M no h :=
  H.step hp hk H.zlt H.llt H.dlt H.hlt H.flt H.nk fun c _ => by
    unfold asks
    rw [if_neg (by simp), if_neg (by simp), if_neg (by simp), if_neg (by simp), if_neg (by simp), if_neg (by simp)]
    simp
/-- All: the summary. -/
theorem OfI.done (hi : i = l.length) {a : Aut} (ha : ((no = true ∨ Z = 0 ∨ Ln = 0 ∨ L < F) ∧ a = .never) ∨ (no = false ∧ ¬ Z = 0 ∧ ¬ Ln = 0 ∧ F ≤ L ∧ (((∀ y, ¬ inT F L D (fun k => M k = true) y) ∧ a = .never) ∨ Canon Z Ln (inT F L D (fun k => M k = true)) h a))) : IsSet (holdsAll l) a := by
  have hall := H.all
  rw [hi, List.take_length] at hall
  rcases ha with ⟨hz, rfl⟩ | ⟨h0, h1, h2, h3, ha⟩
  · refine IsSet.never fun c hc k => ?_
    obtain ⟨a, b, c, d, e⟩ := (hall c hc).1 k
    rcases hz with hz | hz | hz | hz
    · rw [hz] at a; cases a
    · rw [hz] at b; exact hbit_zero _ b
    · rw [hz] at c; exact hbit_zero _ c
    · have := d.1; have := d.2.1; omega
  · refine (clo_set ha h1 H.zlt h2 H.llt H.hlt H.nk).congr fun c hc => ?_
    rw [hall c hc, h0]
    simp
end
/-- The authority whose fields are all zero. -/
abbrev zeroA : Aut := ⟨false, 0, 0, 0, 0, 0, [], []⟩
theorem zero_not : ¬ aok zeroA := fun h => (some_aok h rfl).1 rfl
end Sh
theorem av_zero (w : World) (Q : Nat → Prop) : Av w Q (.agg (arow false 0 0 0 0 0 (.slice none 0 0) [])) zeroA :=
  ⟨none, 0, rfl, Seq.nil w Q, by decide, by decide, by decide, ⟨by decide, by decide⟩, ⟨by decide, by decide⟩, by decide⟩
end Go.Proofs.YtgbcncfhmnhljaaDoor
namespace Go.Proofs.YtgbcncfhmnhljaaDoor
open Go Go.RowKit Sh Leaf
namespace Sh

/-! ### Ascending spans -/
/-- Ascending spans from lo on (they may touch). -/
def asc : Int → List (Int × Int) → Prop
  | _, [] => True
  | lo, s :: t => lo ≤ s.1 ∧ s.1 ≤ s.2 ∧ asc (s.2 + 1) t
theorem asc_le : ∀ {l : List (Int × Int)} {lo lo' : Int}, lo' ≤ lo → asc lo l → asc lo' l
  | [], _, _, _, _ => trivial
  | _ :: _, _, _, h, hl => ⟨by have := hl.1; omega, hl.2⟩
theorem sepA_asc : ∀ {l : List (Int × Int)} {lo : Int}, sepA lo l → asc lo l
  | [], _, _ => trivial
  | _ :: _, _, h => ⟨h.1, h.2.1, asc_le (by omega) (sepA_asc h.2.2)⟩
theorem asc_ge : ∀ {l : List (Int × Int)} {lo k : Int}, asc lo l → spm l k → lo ≤ k
  | [], _, _, _, h => absurd h (spm_nil _)
  | s :: t, lo, k, h, hk => by
    obtain ⟨h1, h2, h3⟩ := h
    rcases (spm_cons s t k).1 hk with h | h
    · omega
    · have := asc_ge h3 h; omega
theorem asc_mem : ∀ {l : List (Int × Int)} {lo : Int}, asc lo l → ∀ s ∈ l, lo ≤ s.1 ∧ s.1 ≤ s.2
  | [], _, _, s, hs => by simp at hs
  | q :: t, lo, h, s, hs => by
    rcases List.mem_cons.1 hs with rfl | hs
    · exact ⟨h.1, h.2.1⟩
    · have := asc_mem h.2.2 s hs
      have := h.1
      have := h.2.1
      omega
theorem asc_len : ∀ {l : List (Int × Int)} {lo : Int}, asc lo l → lo ≤ 1440 → (∀ s ∈ l, s.2 < 1440) → (l.length : Int) ≤ 1440 - lo
  | [], lo, _, h, _ => by simp; omega
  | s :: t, lo, h, _, hs => by
    have h1 := h.1
    have h2 := h.2.1
    have h3 := hs s (by simp)
    have := asc_len h.2.2 (by omega) fun x hx => hs x (List.mem_cons_of_mem _ hx)
    rw [List.length_cons]
    omega

/-! ### Common minutes -/
def cmn1 (s t : Int × Int) : List (Int × Int) := if max s.1 t.1 ≤ min s.2 t.2 then [(max s.1 t.1, min s.2 t.2)] else []
/-- The common minutes of two lists. -/
def cmn : List (Int × Int) → List (Int × Int) → List (Int × Int)
  | [], _ => []
  | _ :: _, [] => []
  | s :: a, t :: b => cmn1 s t ++ (if s.2 < t.2 then cmn a (t :: b) else cmn (s :: a) b)
termination_by a b => a.length + b.length
theorem cmn_nil (b : List (Int × Int)) : cmn [] b = [] := by unfold cmn; rfl
theorem cmn_nil2 (a : List (Int × Int)) : cmn a [] = [] := by cases a <;> (unfold cmn; rfl)
theorem cmn_cons (s t : Int × Int) (a b : List (Int × Int)) : cmn (s :: a) (t :: b) = cmn1 s t ++ (if s.2 < t.2 then cmn a (t :: b) else cmn (s :: a) b) := by rw [cmn]
theorem cmn1_spm (s t : Int × Int) (k : Int) : spm (cmn1 s t) k ↔ (s.1 ≤ k ∧ k ≤ s.2) ∧ (t.1 ≤ k ∧ k ≤ t.2) := by
  unfold cmn1
  split
  · rw [spm_cons]
    simp only [spm_nil, or_false]
    omega
  · constructor
    · exact fun h => absurd h (spm_nil _)
    · omega
theorem cmn_spm : ∀ (a b : List (Int × Int)) (lo lo' : Int), asc lo a → asc lo' b → ∀ k, spm (cmn a b) k ↔ spm a k ∧ spm b k
  | [], b, _, _, _, _, k => by rw [cmn_nil]; exact ⟨fun h => absurd h (spm_nil _), fun h => absurd h.1 (spm_nil _)⟩
  | s :: a, [], _, _, _, _, k => by rw [cmn_nil2]; exact ⟨fun h => absurd h (spm_nil _), fun h => absurd h.2 (spm_nil _)⟩
  | s :: a, t :: b, lo, lo', ha, hb, k => by
    rw [cmn_cons, spm_append, cmn1_spm]
    obtain ⟨a1, a2, a3⟩ := ha
    obtain ⟨b1, b2, b3⟩ := hb
    split
    case isTrue hlt =>
      rw [cmn_spm a (t :: b) (s.2 + 1) lo' a3 ⟨b1, b2, b3⟩ k, spm_cons, spm_cons]
      constructor
      · rintro (⟨h1, h2⟩ | ⟨h1, h2⟩)
        · exact ⟨.inl h1, .inl h2⟩
        · exact ⟨.inr h1, h2⟩
      · rintro ⟨h1 | h1, h2⟩
        · rcases h2 with h2 | h2
          · exact .inl ⟨h1, h2⟩
          · have := asc_ge b3 h2; omega
        · exact .inr ⟨h1, h2⟩
    case isFalse hlt =>
      rw [cmn_spm (s :: a) b lo (t.2 + 1) ⟨a1, a2, a3⟩ b3 k, spm_cons, spm_cons]
      constructor
      · rintro (⟨h1, h2⟩ | ⟨h1, h2⟩)
        · exact ⟨.inl h1, .inl h2⟩
        · exact ⟨h1, .inr h2⟩
      · rintro ⟨h1, h2 | h2⟩
        · rcases h1 with h1 | h1
          · exact .inl ⟨h1, h2⟩
          · have := asc_ge a3 h1; omega
        · exact .inr ⟨h1, h2⟩
termination_by a b => a.length + b.length
theorem cmn1_asc {s t : Int × Int} {lo : Int} {r : List (Int × Int)} (h : lo ≤ max s.1 t.1) (hr : asc (max lo (min s.2 t.2 + 1)) r) : asc lo (cmn1 s t ++ r) := by
  unfold cmn1
  split
  · exact ⟨h, by assumption, asc_le (by omega) hr⟩
  · exact asc_le (by omega) hr
theorem cmn_asc : ∀ (a b : List (Int × Int)) (lo lo' : Int), asc lo a → asc lo' b → asc (max lo lo') (cmn a b)
  | [], b, _, _, _, _ => by rw [cmn_nil]; trivial
  | s :: a, [], _, _, _, _ => by rw [cmn_nil2]; trivial
  | s :: a, t :: b, lo, lo', ha, hb => by
    rw [cmn_cons]
    obtain ⟨a1, a2, a3⟩ := ha
    obtain ⟨b1, b2, b3⟩ := hb
    refine cmn1_asc (by omega) ?_
    split
    case isTrue hlt =>
      have := cmn_asc a (t :: b) (max (s.2 + 1) lo) lo' (by cases a with | nil => trivial | cons x r => exact ⟨by have := a3.1; omega, a3.2⟩) ⟨b1, b2, b3⟩
      exact asc_le (by omega) this
    case isFalse hlt =>
      have := cmn_asc (s :: a) b lo (max (t.2 + 1) lo') ⟨a1, a2, a3⟩ (by cases b with | nil => trivial | cons x r => exact ⟨by have := b3.1; omega, b3.2⟩)
      exact asc_le (by omega) this
termination_by a b => a.length + b.length
theorem cmn1_less {s t : Int × Int} {r : List (Int × Int)} {m : Int} (h : s.2 < m ∨ t.2 < m) (hr : ∀ x ∈ r, x.2 < m) : ∀ x ∈ cmn1 s t ++ r, x.2 < m := by
  intro x hx
  rcases List.mem_append.1 hx with hx | hx
  · unfold cmn1 at hx
    split at hx
    · rw [List.mem_singleton.1 hx]; simp only; omega
    · simp at hx
  · exact hr x hx
theorem cmn_less : ∀ (a b : List (Int × Int)) (m : Int), (∀ s ∈ a, s.2 < m) → ∀ x ∈ cmn a b, x.2 < m
  | [], b, _, _ => by rw [cmn_nil]; intro x hx; simp at hx
  | s :: a, [], _, _ => by rw [cmn_nil2]; intro x hx; simp at hx
  | s :: a, t :: b, m, h => by
    rw [cmn_cons]
    refine cmn1_less (.inl (h s (by simp))) ?_
    split
    · exact cmn_less a (t :: b) m fun x hx => h x (List.mem_cons_of_mem _ hx)
    · exact cmn_less (s :: a) b m h
termination_by a b => a.length + b.length
theorem cmn1_len (s t : Int × Int) : (cmn1 s t).length ≤ 1 := by unfold cmn1; split <;> simp
theorem cmn_len : ∀ (a b : List (Int × Int)), (cmn a b).length ≤ a.length + b.length
  | [], b => by rw [cmn_nil]; simp
  | s :: a, [] => by rw [cmn_nil2]; simp
  | s :: a, t :: b => by
    rw [cmn_cons, List.length_append]
    have := cmn1_len s t
    split
    · have := cmn_len a (t :: b); simp only [List.length_cons] at this ⊢; omega
    · have := cmn_len (s :: a) b; simp only [List.length_cons] at this ⊢; omega
termination_by a b => a.length + b.length
theorem cmn_void : ∀ (a : List (Int × Int)) (p q : Int), q < p → cmn a [(p, q)] = []
  | [], p, q, _ => cmn_nil _
  | s :: a, p, q, h => by
    rw [cmn_cons]
    have e : cmn1 s (p, q) = [] := by unfold cmn1; rw [if_neg (by simp only; omega)]
    rw [e, cmn_void a p q h, cmn_nil2]
    simp
theorem cmn_one {a : List (Int × Int)} {lo : Int} (ha : asc lo a) (p q : Int) : (∀ k, spm (cmn a [(p, q)]) k ↔ spm a k ∧ p ≤ k ∧ k ≤ q) ∧ asc lo (cmn a [(p, q)]) := by
  rcases (by omega : p ≤ q ∨ q < p) with h | h
  · have hb : asc p [(p, q)] := ⟨Int.le_refl _, h, trivial⟩
    refine ⟨fun k => ?_, asc_le (by omega) (cmn_asc a _ lo p ha hb)⟩
    rw [cmn_spm a _ lo p ha hb, spm_cons]
    simp [spm_nil]
  · rw [cmn_void a p q h]
    refine ⟨fun k => ⟨fun h => absurd h (spm_nil _), fun ⟨_, h1, h2⟩ => by omega⟩, trivial⟩

/-! ### Authorities, valid or not -/
/-- The fields are in their limits. -/
structure Wk (a : Aut) : Prop where
  z : a.zones < 18446744073709551616
  l : a.lines < 4294967296
  d : a.days < 128
  lo : 0 ≤ a.lo ∧ a.lo ≤ 67108864
  hi : 0 ≤ a.hi ∧ a.hi ≤ 67108864
  h : nok a.holder
  sp : asc 0 a.daily
  less : ∀ s ∈ a.daily, s.2 < 1440
theorem Wk.len {a : Aut} (h : Wk a) : a.daily.length ≤ 1440 := by have := asc_len h.sp (by omega) h.less; omega
theorem rng_wk {a : Aut} (hz : a.zones < 18446744073709551616) (h : rng a) : Wk a := by
  obtain ⟨h1, h2, h3, h4, h5, h6, h7, h8, h9, h10, h11⟩ := h
  exact ⟨hz, h3, h5, ⟨h6, by omega⟩, ⟨by omega, h8⟩, h9, sepA_asc h10, h11⟩
theorem never_wk : Wk .never := ⟨by decide, by decide, by decide, by decide, by decide, .inl rfl, trivial, fun s hs => by simp at hs⟩
theorem aok_wk {a : Aut} (h : aok a) : Wk a := by
  rcases (by cases a.none <;> simp : a.none = false ∨ a.none = true) with hn | hn
  · exact rng_wk (some_aok h hn).2.1 (aok_rng h hn)
  · rw [none_aok h hn]; exact never_wk
theorem Wk.mins {a : Aut} (h : Wk a) (x : Nat) : mins a x ↔ inT a.lo.toNat a.hi.toNat a.days (fun k => spm a.daily (k : Int)) x := by
  rw [mins_inT h.lo.1]
  constructor
  · exact fun k => k.1
  · intro k
    have := k.2.1
    have := h.hi.1
    exact ⟨k, by omega⟩
theorem Wk.bd {a : Aut} (h : Wk a) : ∀ s ∈ a.daily, 0 ≤ s.1 ∧ s.1 ≤ s.2 ∧ s.2 < 1440 := fun s hs => ⟨(asc_mem h.sp s hs).1, (asc_mem h.sp s hs).2, h.less s hs⟩

/-! ### A day -/
/-- The minutes of day d. -/
def ond (a : Aut) (d : Nat) : List (Int × Int) := if a.days / 2 ^ (d % 7) % 2 = 1 then cmn a.daily [(a.lo - d * 1440, a.hi - d * 1440)] else []
theorem ond_asc {a : Aut} (h : Wk a) (d : Nat) : asc 0 (ond a d) := by
  unfold ond
  split
  · exact (cmn_one h.sp _ _).2
  · trivial
theorem ond_less {a : Aut} (h : Wk a) (d : Nat) : ∀ s ∈ ond a d, s.2 < 1440 := by
  unfold ond
  split
  · exact cmn_less _ _ _ h.less
  · intro s hs; simp at hs
theorem ond_len {a : Aut} (h : Wk a) (d : Nat) : (ond a d).length ≤ 1440 := by have := asc_len (ond_asc h d) (by omega) (ond_less h d); omega
theorem ond_spm {a : Aut} (h : Wk a) (d : Nat) (k : Int) : spm (ond a d) k ↔ ∃ x : Nat, mins a x ∧ x / 1440 = d ∧ ((x % 1440 : Nat) : Int) = k := by
  constructor
  · intro hk
    have h0 := asc_ge (ond_asc h d) hk
    obtain ⟨s, hs, h1, h2⟩ := id hk
    have h3 := ond_less h d s hs
    unfold ond at hk
    split at hk
    case isTrue hb =>
      rw [(cmn_one h.sp _ _).1] at hk
      obtain ⟨n, rfl⟩ := Int.eq_ofNat_of_zero_le h0
      refine ⟨d * 1440 + n, ⟨by omega, by omega, ?_, ?_⟩, by omega, by omega⟩
      · have e : (d * 1440 + n) / 1440 = d := by omega
        rw [e]; exact hb
      · have e : (d * 1440 + n) % 1440 = n := by omega
        rw [e]; exact hk.1
    case isFalse hb => exact absurd hk (spm_nil _)
  · rintro ⟨x, ⟨h1, h2, h3, h4⟩, rfl, rfl⟩
    unfold ond
    rw [if_pos h3, (cmn_one h.sp _ _).1]
    exact ⟨h4, by omega, by omega⟩

/-! ### What is gathered day by day -/
structure Gat (T : Nat → Prop) (fo : List (Int × Int)) (dy : Nat) (lo hi : Int) : Prop where
  mem : ∀ k : Int, spm fo k ↔ ∃ x : Nat, T x ∧ ((x % 1440 : Nat) : Int) = k
  bd : ∀ s ∈ fo, 0 ≤ s.1 ∧ s.1 ≤ s.2 ∧ s.2 < 1440
  dlt : dy < 128
  day : ∀ w, w < 7 → (dy / 2 ^ w % 2 = 1 ↔ ∃ x, T x ∧ x / 1440 % 7 = w)
  least : ∀ x, T x → ∃ y : Nat, T y ∧ lo = y ∧ ∀ z, T z → y ≤ z
  last : ∀ x, T x → ∃ y : Nat, T y ∧ hi = y ∧ ∀ z, T z → z ≤ y
theorem Gat.empty {T : Nat → Prop} (h : ∀ x, ¬ T x) (lo hi : Int) : Gat T [] 0 lo hi where
  mem := fun k => ⟨fun h => absurd h (spm_nil _), fun ⟨x, hx, _⟩ => absurd hx (h x)⟩
  bd := fun s hs => by simp at hs
  dlt := by omega
  day := fun w _ => ⟨fun h => (by simp at h), fun ⟨x, hx, _⟩ => absurd hx (h x)⟩
  least := fun x hx => absurd hx (h x)
  last := fun x hx => absurd hx (h x)
theorem Gat.congr {T U : Nat → Prop} {fo : List (Int × Int)} {dy : Nat} {lo hi : Int} (h : Gat T fo dy lo hi) (e : ∀ x, T x ↔ U x) : Gat U fo dy lo hi := by
  have : T = U := funext fun x => propext (e x)
  rw [← this]; exact h
theorem Gat.nil_iff {T : Nat → Prop} {fo : List (Int × Int)} {dy : Nat} {lo hi : Int} (h : Gat T fo dy lo hi) : fo = [] ↔ ∀ x, ¬ T x := by
  constructor
  · rintro rfl x hx
    exact spm_nil _ ((h.mem _).2 ⟨x, hx, rfl⟩)
  · intro hn
    cases fo with
    | nil => rfl
    | cons s t =>
      obtain ⟨x, hx, _⟩ := (h.mem s.1).1 ((spm_cons s t _).2 (.inl ⟨Int.le_refl _, (h.bd s (by simp)).2.1⟩))
      exact absurd hx (hn x)
theorem last_ex : ∀ {l : List (Int × Int)}, l ≠ [] → ∃ m p q, l = m ++ [(p, q)]
  | l, h => ⟨l.dropLast, (l.getLast h).1, (l.getLast h).2, (List.dropLast_concat_getLast h).symm⟩
theorem asc_last : ∀ {l : List (Int × Int)} {lo p q : Int}, asc lo (l ++ [(p, q)]) → p ≤ q ∧ ∀ k, spm (l ++ [(p, q)]) k → k ≤ q
  | [], lo, p, q, h => ⟨h.2.1, fun k hk => by
    rcases (spm_cons _ _ _).1 hk with h | h
    · exact h.2
    · exact absurd h (spm_nil _)⟩
  | s :: t, lo, p, q, h => by
    obtain ⟨i1, i2⟩ := asc_last (l := t) h.2.2
    refine ⟨i1, fun k hk => ?_⟩
    rcases (spm_cons s (t ++ [(p, q)]) k).1 hk with g | g
    · have := asc_ge h.2.2 ((spm_append t [(p, q)] q).2 (.inr ⟨(p, q), by simp, i1, Int.le_refl _⟩))
      omega
    · exact i2 k g
/-- One more day, with minutes. -/
theorem Gat.add {a : Aut} (hw : Wk a) {T : Nat → Prop} {fo : List (Int × Int)} {dy : Nat} {lo hi : Int} (h : Gat T fo dy lo hi) (d : Nat) (hd : ∀ x, T x → x / 1440 < d) {s0 : Int × Int} {r m : List (Int × Int)} {p q : Int} (h1 : ond a d = s0 :: r) (h2 : ond a d = m ++ [(p, q)]) :
    Gat (fun x => T x ∨ (mins a x ∧ x / 1440 = d)) (fo ++ ond a d) (dy ||| 2 ^ (d % 7)) (if fo = [] then d * 1440 + s0.1 else lo) (d * 1440 + q) := by
  have ha := ond_asc hw d
  have hm := ond_spm hw d
  have hl := ond_less hw d
  have ha1 : asc 0 (s0 :: r) := h1 ▸ ha
  have ha2 : asc 0 (m ++ [(p, q)]) := h2 ▸ ha
  obtain ⟨hpq, hlast⟩ := asc_last ha2
  obtain ⟨u, hu, hud, hue⟩ := (hm s0.1).1 (by rw [h1]; exact (spm_cons _ _ _).2 (.inl ⟨Int.le_refl _, ha1.2.1⟩))
  obtain ⟨v, hv, hvd, hve⟩ := (hm q).1 (by rw [h2]; exact (spm_append _ _ _).2 (.inr ⟨(p, q), by simp, hpq, Int.le_refl _⟩))
  have hlow : ∀ x, mins a x ∧ x / 1440 = d → u ≤ x := fun x hx => by
    have k := (hm ((x % 1440 : Nat) : Int)).2 ⟨x, hx.1, hx.2, rfl⟩
    rw [h1] at k
    have : s0.1 ≤ ((x % 1440 : Nat) : Int) := by
      rcases (spm_cons _ _ _).1 k with k | k
      · exact k.1
      · have := asc_ge ha1.2.2 k
        have := ha1.2.1
        omega
    omega
  have hhigh : ∀ x, mins a x ∧ x / 1440 = d → x ≤ v := fun x hx => by
    have k := (hm ((x % 1440 : Nat) : Int)).2 ⟨x, hx.1, hx.2, rfl⟩
    rw [h2] at k
    have := hlast _ k
    omega
  refine ⟨fun k => ?_, fun s hs => ?_, or_lt _ _ h.dlt (by omega), fun w hw' => ?_, fun x hx => ?_, fun x hx => ?_⟩
  · rw [spm_append, h.mem, hm]
    constructor
    · rintro (⟨x, h1, h2⟩ | ⟨x, h1, h2, h3⟩)
      · exact ⟨x, .inl h1, h2⟩
      · exact ⟨x, .inr ⟨h1, h2⟩, h3⟩
    · rintro ⟨x, h1 | h1, h2⟩
      · exact .inl ⟨x, h1, h2⟩
      · exact .inr ⟨x, h1.1, h1.2, h2⟩
  · rcases List.mem_append.1 hs with hs | hs
    · exact h.bd s hs
    · exact ⟨(asc_mem ha s hs).1, (asc_mem ha s hs).2, hl s hs⟩
  · rw [or_bit, h.day w hw']
    constructor
    · rintro (⟨y, hy, e⟩ | e)
      · exact ⟨y, .inl hy, e⟩
      · exact ⟨u, .inr ⟨hu, hud⟩, by rw [hud, e]⟩
    · rintro ⟨y, hy | hy, e⟩
      · exact .inl ⟨y, hy, e⟩
      · exact .inr (by rw [hy.2] at e; exact e.symm)
  · by_cases hf : fo = []
    · have hn := h.nil_iff.1 hf
      rw [if_pos hf]
      exact ⟨u, .inr ⟨hu, hud⟩, by omega, fun z hz => hz.elim (fun k => absurd k (hn z)) (hlow z)⟩
    · rw [if_neg hf]
      obtain ⟨y, hy⟩ : ∃ y, T y := Classical.byContradiction fun k => hf (h.nil_iff.2 fun x hx => k ⟨x, hx⟩)
      obtain ⟨z, hz, e, hmin⟩ := h.least y hy
      exact ⟨z, .inl hz, e, fun t ht => ht.elim (hmin t) fun k => by have := hd z hz; have := k.2; omega⟩
  · exact ⟨v, .inr ⟨hv, hvd⟩, by omega, fun z hz => hz.elim (fun k => by have := hd z k; omega) (hhigh z)⟩
/-- The days that the program looks at. -/
def seen7 (F L x : Nat) : Prop := x / 1440 ≤ F / 1440 + 7 ∨ L / 1440 ≤ x / 1440 + 7
theorem near_low7 {F L D : Nat} {M : Nat → Prop} {x : Nat} (h : inT F L D M x) : ∃ y, inT F L D M y ∧ y ≤ x ∧ y % 1440 = x % 1440 ∧ y / 1440 % 7 = x / 1440 % 7 ∧ y / 1440 ≤ F / 1440 + 7 := by
  obtain ⟨h1, h2, h3, h4⟩ := h
  by_cases hd : x / 1440 ≤ F / 1440 + 7
  · exact ⟨x, ⟨h1, h2, h3, h4⟩, Nat.le_refl _, rfl, rfl, hd⟩
  · obtain ⟨d, hd0⟩ : ∃ d, d = F / 1440 + 1 + (x / 1440 - F / 1440 - 1) % 7 := ⟨_, rfl⟩
    have e1 : (d * 1440 + x % 1440) / 1440 = d := by omega
    have e2 : (d * 1440 + x % 1440) % 1440 = x % 1440 := by omega
    have e3 : d % 7 = x / 1440 % 7 := by omega
    refine ⟨d * 1440 + x % 1440, ⟨by omega, by omega, ?_, ?_⟩, by omega, e2, by rw [e1, e3], by omega⟩
    · rw [e1, e3]; exact h3
    · rw [e2]; exact h4
theorem near_high7 {F L D : Nat} {M : Nat → Prop} {x : Nat} (h : inT F L D M x) : ∃ y, inT F L D M y ∧ x ≤ y ∧ L / 1440 ≤ y / 1440 + 7 := by
  obtain ⟨h1, h2, h3, h4⟩ := h
  by_cases hd : L / 1440 ≤ x / 1440 + 7
  · exact ⟨x, ⟨h1, h2, h3, h4⟩, Nat.le_refl _, hd⟩
  · obtain ⟨d, hd0⟩ : ∃ d, d = L / 1440 - 1 - (L / 1440 - 1 - x / 1440) % 7 := ⟨_, rfl⟩
    have e1 : (d * 1440 + x % 1440) / 1440 = d := by omega
    have e2 : (d * 1440 + x % 1440) % 1440 = x % 1440 := by omega
    have e3 : d % 7 = x / 1440 % 7 := by omega
    refine ⟨d * 1440 + x % 1440, ⟨by omega, by omega, ?_, ?_⟩, by omega, by omega⟩
    · rw [e1, e3]; exact h3
    · rw [e2]; exact h4
theorem canon_seen7 {Z Ln F L D : Nat} {M : Nat → Prop} {h : List B8} {a : Aut} (ha : Canon Z Ln (fun x => inT F L D M x ∧ seen7 F L x) h a) : Canon Z Ln (inT F L D M) h a :=
  canon_near ha (fun _ hx => hx.1)
    (fun x hx => by
      obtain ⟨y, hy, h1, h2, h3, h5⟩ := near_low7 hx
      exact ⟨y, ⟨hy, .inl h5⟩, h1, h2, h3⟩)
    (fun x hx => by
      obtain ⟨y, hy, h1, h5⟩ := near_high7 hx
      exact ⟨y, ⟨hy, .inr h5⟩, h1⟩)
/-- The minutes gathered ahead of day d. -/
def ahd (a : Aut) (d : Nat) (x : Nat) : Prop := mins a x ∧ seen7 a.lo.toNat a.hi.toNat x ∧ x / 1440 < d
theorem ahd_first {a : Aut} (x : Nat) : ¬ ahd a (a.lo.toNat / 1440) x := fun k => by
  have := k.1.1
  have := k.2.2
  omega
/-- The jump. -/
theorem ahd_jump {a : Aut} {d d' : Nat} (h1 : d = a.lo.toNat / 1440 + 8) (h2 : d ≤ d') (h3 : d' + 7 ≤ max (d + 7) (a.hi.toNat / 1440)) (x : Nat) : ahd a d x ↔ ahd a d' x := by
  unfold ahd seen7
  constructor
  · rintro ⟨k1, k2, k3⟩; exact ⟨k1, k2, by omega⟩
  · rintro ⟨k1, k2, k3⟩; exact ⟨k1, k2, by omega⟩
/-- One day on. -/
theorem ahd_next {a : Aut} {d : Nat} (hs : d ≤ a.lo.toNat / 1440 + 7 ∨ a.hi.toNat / 1440 ≤ d + 7) (x : Nat) : (ahd a d x ∨ (mins a x ∧ x / 1440 = d)) ↔ ahd a (d + 1) x := by
  unfold ahd seen7
  constructor
  · rintro (⟨k1, k2, k3⟩ | ⟨k1, rfl⟩)
    · exact ⟨k1, k2, by omega⟩
    · exact ⟨k1, hs, by omega⟩
  · rintro ⟨k1, k2, k3⟩
    rcases (by omega : x / 1440 < d ∨ x / 1440 = d) with h | h
    · exact .inl ⟨k1, k2, h⟩
    · exact .inr ⟨k1, h⟩
theorem ahd_none {a : Aut} (h : Wk a) {d : Nat} (h0 : ond a d = []) (hs : d ≤ a.lo.toNat / 1440 + 7 ∨ a.hi.toNat / 1440 ≤ d + 7) (x : Nat) : ahd a d x ↔ ahd a (d + 1) x := by
  rw [← ahd_next hs]
  refine ⟨.inl, fun k => k.elim id fun k => ?_⟩
  have := (ond_spm h d _).2 ⟨x, k.1, k.2, rfl⟩
  rw [h0] at this
  exact absurd this (spm_nil _)
theorem ahd_last {a : Aut} (h : Wk a) {d : Nat} (hd : a.hi.toNat / 1440 < d) (x : Nat) : ahd a d x ↔ inT a.lo.toNat a.hi.toNat a.days (fun k => spm a.daily (k : Int)) x ∧ seen7 a.lo.toNat a.hi.toNat x := by
  rw [← h.mins]
  unfold ahd
  refine ⟨fun k => ⟨k.1, k.2.1⟩, fun k => ⟨k.1, k.2, ?_⟩⟩
  have := k.1.2.1
  omega
theorem ina_void {a : Aut} (h : a.none = true ∨ a.zones = 0 ∨ a.lines = 0) (c : Ctx) : ¬ ina a c := fun k => by
  rcases h with h | h | h
  · rw [k.1] at h; cases h
  · have := k.2.1; rw [h] at this; exact hbit_zero _ this
  · have := k.2.2.1; rw [h] at this; exact hbit_zero _ this
/-- Nothing found. -/
theorem gat_void {a : Aut} (h : Wk a) {d : Nat} (hd : a.hi.toNat / 1440 < d) {dy : Nat} {lo hi : Int} (hg : Gat (ahd a d) [] dy lo hi) : IsSet (ina a) .never := by
  refine IsSet.never fun c _ k => ?_
  have hn := hg.nil_iff.1 rfl
  obtain ⟨y, hy, _, _, _, h5⟩ := near_low7 ((h.mins _).1 k.2.2.2.1)
  exact hn y ((ahd_last h hd y).2 ⟨hy, .inl h5⟩)
/-- All found: the summary. -/
theorem gat_set {a : Aut} (h : Wk a) (hn : a.none = false) (hz : a.zones ≠ 0) (hl : a.lines ≠ 0) {d : Nat} (hd : a.hi.toNat / 1440 < d) {fo mg : List (Int × Int)} {dy : Nat} {lo hi : Int} (hg : Gat (ahd a d) fo dy lo hi) (hne : fo ≠ []) (h1 : sepA 0 mg) (h2 : ∀ s ∈ mg, s.2 < 1440) (h3 : ∀ k, spm mg k ↔ spm fo k) :
    IsSet (ina a) ⟨false, a.zones, a.lines, dy, lo, hi, mg, a.holder⟩ := by
  obtain ⟨x0, hx0⟩ : ∃ y, ahd a d y := Classical.byContradiction fun k => hne (hg.nil_iff.2 fun x hx => k ⟨x, hx⟩)
  have hc : Canon a.zones a.lines (ahd a d) a.holder ⟨false, a.zones, a.lines, dy, lo, hi, mg, a.holder⟩ :=
    { none := rfl, zones := rfl, lines := rfl, holder := rfl, lo := hg.least x0 hx0, hi := hg.last x0 hx0, days := hg.dlt, day := hg.day, sep := h1, less := h2
      minute := fun k => by
        show spm mg k ↔ _
        rw [h3, hg.mem]
        constructor
        · rintro ⟨x, hx, e⟩; exact ⟨x, hx, by omega⟩
        · rintro ⟨x, hx, e⟩; exact ⟨x, hx, by omega⟩ }
  refine (canon_set (canon_seen7 (canon_congr hc (ahd_last h hd))) hz h.z hl h.l (by have := h.hi.2; omega) h.h).congr fun c _ => ?_
  unfold ina
  rw [h.mins, hn]
  simp
end Sh
end Go.Proofs.YtgbcncfhmnhljaaDoor
namespace Go.Proofs.YtgbcncfhmnhljaaDoor
open Go Go.RowKit Sh Leaf
namespace Sh

/-- The first i spans of so, merged. -/
structure Mg (so : List (Int × Int)) (i : Nat) (mg : List (Int × Int)) : Prop where
  sep : sepA 0 mg
  len : mg.length ≤ i
  mem : ∀ k, spm mg k ↔ spm (so.take i) k
  le : ∀ s ∈ mg, ∀ t ∈ so.drop i, s.1 ≤ t.1
  less : ∀ s ∈ mg, s.2 < 1440
theorem Mg.start (so : List (Int × Int)) : Mg so 0 [] :=
  ⟨trivial, Nat.le_refl _, fun k => Iff.rfl, fun s hs => by simp at hs, fun s hs => by simp at hs⟩
theorem drop_sub {α : Type} {so : List α} {i : Nat} {t : α} (h : t ∈ so.drop (i + 1)) : t ∈ so.drop i := by
  rw [← List.drop_drop] at h
  exact List.mem_of_mem_drop h
theorem sorted_le {so : List (Int × Int)} (hs : so.Pairwise fun a b => a.1 ≤ b.1) {i : Nat} {s : Int × Int} (hi : so[i]? = some s) : ∀ t ∈ so.drop (i + 1), s.1 ≤ t.1 := by
  intro t ht
  obtain ⟨hl, rfl⟩ := List.getElem?_eq_some_iff.1 hi
  obtain ⟨j, hj, rfl⟩ := List.getElem_of_mem ht
  rw [List.getElem_drop]
  exact List.pairwise_iff_getElem.1 hs i (i + 1 + j) hl (by simp at hj; omega) (by omega)
theorem mem_drop_get {α : Type} {so : List α} {i : Nat} {s : α} (hi : so[i]? = some s) : s ∈ so.drop i := by
  refine List.mem_of_getElem? (i := 0) ?_
  rw [List.getElem?_drop]
  simpa using hi
section
variable {so : List (Int × Int)} (hs : so.Pairwise fun a b => a.1 ≤ b.1) (hb : ∀ s ∈ so, 0 ≤ s.1 ∧ s.1 ≤ s.2 ∧ s.2 < 1440)
include hs hb
theorem Mg.new {i : Nat} {mg : List (Int × Int)} (h : Mg so i mg) {s : Int × Int} (hi : so[i]? = some s) (hn : mg = [] ∨ ∃ m p q, mg = m ++ [(p, q)] ∧ q + 1 < s.1) : Mg so (i + 1) (mg ++ [s]) := by
  have hsb := hb s (List.mem_of_getElem? hi)
  refine ⟨?_, by have := h.len; simp; omega, fun k => ?_, fun x hx t ht => ?_, fun x hx => ?_⟩
  · obtain ⟨s1, s2⟩ := s
    refine sepA_snoc mg 0 s1 s2 h.sep ?_ hsb.1 hsb.2.1
    rcases hn with rfl | ⟨m, p, q, rfl, hq⟩
    · intro x hx; simp at hx
    · intro x hx
      have h1 := sepA_before h.sep
      have h2 := sepA_le m 0 p q h.sep
      simp only at hq
      rcases List.mem_append.1 hx with hx | hx
      · have := h1 x hx; omega
      · rw [List.mem_singleton.1 hx]; simp only; omega
  · rw [take_snoc hi, spm_append, spm_append, h.mem]
  · rcases List.mem_append.1 hx with hx | hx
    · exact h.le x hx t (drop_sub ht)
    · rw [List.mem_singleton.1 hx]; exact sorted_le hs hi t ht
  · rcases List.mem_append.1 hx with hx | hx
    · exact h.less x hx
    · rw [List.mem_singleton.1 hx]; exact hsb.2.2
end
theorem Mg.join {so : List (Int × Int)} (hb : ∀ s ∈ so, 0 ≤ s.1 ∧ s.1 ≤ s.2 ∧ s.2 < 1440) {i : Nat} {m : List (Int × Int)} {p q : Int} (h : Mg so i (m ++ [(p, q)])) {s : Int × Int} (hi : so[i]? = some s) (hq : s.1 ≤ q + 1) : Mg so (i + 1) (m ++ [(p, max q s.2)]) := by
  have hsb := hb s (List.mem_of_getElem? hi)
  have hpq := sepA_le m 0 p q h.sep
  have hps : p ≤ s.1 := h.le (p, q) (by simp) s (mem_drop_get hi)
  refine ⟨sepA_last m 0 p q _ h.sep (by omega), by have := h.len; simp at this ⊢; omega, fun k => ?_, fun x hx t ht => ?_, fun x hx => ?_⟩
  · have e := h.mem k
    rw [spm_append] at e
    rw [take_snoc hi, spm_append, spm_append, ← e]
    have e1 : ∀ a b : Int, spm [(a, b)] k ↔ a ≤ k ∧ k ≤ b := fun a b => by
      rw [spm_cons]; exact ⟨fun h => h.elim id (fun h => absurd h (spm_nil _)), fun h => .inl h⟩
    obtain ⟨s1, s2⟩ := s
    rw [e1, e1, e1, or_assoc]
    simp only at hps hq hsb ⊢
    constructor
    · rintro (h | h)
      · exact .inl h
      · refine .inr ?_; omega
    · rintro (h | h)
      · exact .inl h
      · refine .inr ?_; omega
  · rcases List.mem_append.1 hx with hx | hx
    · exact h.le x (List.mem_append_left _ hx) t (drop_sub ht)
    · rw [List.mem_singleton.1 hx]; exact h.le (p, q) (by simp) t (drop_sub ht)
  · rcases List.mem_append.1 hx with hx | hx
    · exact h.less x (List.mem_append_left _ hx)
    · have := h.less (p, q) (by simp)
      rw [List.mem_singleton.1 hx]; simp only at this ⊢; omega

/-! ### Restriction -/
/-- The spans of a daily predicate. -/
def spo (lo hi : Int) : List (Int × Int) := if lo ≤ hi then [(lo, hi)] else [(0, hi), (lo, 1439)]
theorem spo_asc {lo hi : Int} (h0 : 0 ≤ lo) (h1 : lo < 1440) (h2 : 0 ≤ hi) : asc 0 (spo lo hi) := by
  unfold spo
  split
  · exact ⟨h0, by assumption, trivial⟩
  · refine ⟨by simp, by simp only; omega, by simp only; omega, by simp only; omega, trivial⟩
theorem spo_spm (lo hi k : Int) (h0 : 0 ≤ k) (h1 : k < 1440) : spm (spo lo hi) k ↔ (if lo ≤ hi then lo ≤ k ∧ k ≤ hi else lo ≤ k ∨ k ≤ hi) := by
  unfold spo
  split
  · rw [spm_cons]; simp [spm_nil]
  · rw [spm_cons, spm_cons]
    simp only [spm_nil, or_false]
    omega
/-- A restricted by p. -/
def rst (a : Aut) (p : Prd) : Aut :=
  if p.kind = 1 then { a with zones := a.zones &&& p.mask } else if p.kind = 2 then { a with lines := a.lines &&& p.mask } else if p.kind = 3 then { a with days := a.days &&& p.mask }
  else if p.kind = 4 then { a with lo := max a.lo p.lo, hi := min a.hi p.hi } else if p.kind = 5 then { a with daily := cmn a.daily (spo p.lo p.hi) }
  else if p.kind = 6 then { a with none := a.none || (!decide (a.holder = []) && !decide (a.holder = p.name)), holder := p.name } else a
theorem rst_wk {a : Aut} (h : Wk a) {p : Prd} (hp : pok p) : Wk (rst a p) := by
  unfold rst
  obtain ⟨h1, h2, h3, h4, h5, h6, h7, h8⟩ := h
  rcases hp with ⟨k, q⟩ | ⟨k, q⟩ | ⟨k, q⟩ | ⟨k, q⟩ | ⟨k, q⟩ | ⟨k, q⟩ | ⟨k, q⟩ <;> rw [k]
  · rw [if_pos rfl]
    exact ⟨Nat.lt_of_le_of_lt Nat.and_le_left h1, h2, h3, h4, h5, h6, h7, h8⟩
  · rw [if_neg (by decide), if_pos rfl]
    exact ⟨h1, Nat.lt_of_le_of_lt Nat.and_le_left h2, h3, h4, h5, h6, h7, h8⟩
  · rw [if_neg (by decide), if_neg (by decide), if_pos rfl]
    exact ⟨h1, h2, Nat.lt_of_le_of_lt Nat.and_le_left h3, h4, h5, h6, h7, h8⟩
  · rw [if_neg (by decide), if_neg (by decide), if_neg (by decide), if_pos rfl]
    exact ⟨h1, h2, h3, ⟨by simp only; omega, by simp only; omega⟩, ⟨by simp only; omega, by simp only; omega⟩, h6, h7, h8⟩
  · rw [if_neg (by decide), if_neg (by decide), if_neg (by decide), if_neg (by decide), if_pos rfl]
    have := cmn_asc _ _ 0 0 h7 (spo_asc (by omega) (by omega) (by omega) : asc 0 (spo p.lo p.hi))
    exact ⟨h1, h2, h3, h4, h5, h6, asc_le (by omega) this, cmn_less _ _ _ h8⟩
  · rw [if_neg (by decide), if_neg (by decide), if_neg (by decide), if_neg (by decide), if_neg (by decide), if_pos rfl]
    exact ⟨h1, h2, h3, h4, h5, .inr q.2.2.2.1, h7, h8⟩
  · rw [if_neg (by decide), if_neg (by decide), if_neg (by decide), if_neg (by decide), if_neg (by decide), if_neg (by decide)]
    exact ⟨h1, h2, h3, h4, h5, h6, h7, h8⟩
theorem rst_ina {a : Aut} (h : Wk a) {p : Prd} (hp : pok p) {c : Ctx} (hc : cok c) : ina (rst a p) c ↔ ina a c ∧ asks p c := by
  obtain ⟨_, _, ⟨m0, m1⟩, _⟩ := hc
  unfold rst asks
  rcases hp with ⟨k, q⟩ | ⟨k, q⟩ | ⟨k, q⟩ | ⟨k, q⟩ | ⟨k, q⟩ | ⟨k, q⟩ | ⟨k, q⟩ <;> rw [k]
  · rw [if_pos rfl, if_pos rfl]
    unfold ina mins
    simp only
    rw [hbit_and]
    constructor
    · rintro ⟨a, ⟨b, f⟩, c, d, e⟩; exact ⟨⟨a, b, c, d, e⟩, f⟩
    · rintro ⟨⟨a, b, c, d, e⟩, f⟩; exact ⟨a, ⟨b, f⟩, c, d, e⟩
  · rw [if_neg (by decide), if_pos rfl, if_neg (by decide), if_pos rfl]
    unfold ina mins
    simp only
    rw [hbit_and]
    constructor
    · rintro ⟨a, b, ⟨c, f⟩, d, e⟩; exact ⟨⟨a, b, c, d, e⟩, f⟩
    · rintro ⟨⟨a, b, c, d, e⟩, f⟩; exact ⟨a, b, ⟨c, f⟩, d, e⟩
  · rw [if_neg (by decide), if_neg (by decide), if_pos rfl, if_neg (by decide), if_neg (by decide), if_pos rfl]
    have hd := hbit_and a.days p.mask ((c.minute.toNat / 1440 % 7 : Nat) : Int)
    have e : (c.minute / 1440 % 7).toNat = c.minute.toNat / 1440 % 7 := by omega
    unfold hbit at hd
    rw [Int.toNat_natCast] at hd
    unfold ina mins hbit
    simp only
    rw [hd, e]
    constructor
    · rintro ⟨a, b, c, ⟨d1, d2, ⟨d3, f⟩, d4⟩, e⟩; exact ⟨⟨a, b, c, ⟨d1, d2, d3, d4⟩, e⟩, f⟩
    · rintro ⟨⟨a, b, c, ⟨d1, d2, d3, d4⟩, e⟩, f⟩; exact ⟨a, b, c, ⟨d1, d2, ⟨d3, f⟩, d4⟩, e⟩
  · rw [if_neg (by decide), if_neg (by decide), if_neg (by decide), if_pos rfl, if_neg (by decide), if_neg (by decide), if_neg (by decide), if_pos rfl]
    unfold ina mins
    simp only
    constructor
    · rintro ⟨a, b, c, ⟨d1, d2, d3, d4⟩, e⟩; exact ⟨⟨a, b, c, ⟨by omega, by omega, d3, d4⟩, e⟩, by omega, by omega⟩
    · rintro ⟨⟨a, b, c, ⟨d1, d2, d3, d4⟩, e⟩, f1, f2⟩; exact ⟨a, b, c, ⟨by omega, by omega, d3, d4⟩, e⟩
  · rw [if_neg (by decide), if_neg (by decide), if_neg (by decide), if_neg (by decide), if_pos rfl, if_neg (by decide), if_neg (by decide), if_neg (by decide), if_neg (by decide), if_pos rfl]
    have hs := cmn_spm _ _ 0 0 h.sp (spo_asc (by omega) (by omega) (by omega) : asc 0 (spo p.lo p.hi)) ((c.minute.toNat % 1440 : Nat) : Int)
    have e : ((c.minute.toNat % 1440 : Nat) : Int) = c.minute % 1440 := by omega
    rw [spo_spm _ _ _ (by omega) (by omega)] at hs
    unfold ina mins
    simp only
    rw [hs, e]
    constructor
    · rintro ⟨a, b, c, ⟨d1, d2, d3, d4, f⟩, e⟩; exact ⟨⟨a, b, c, ⟨d1, d2, d3, d4⟩, e⟩, f⟩
    · rintro ⟨⟨a, b, c, ⟨d1, d2, d3, d4⟩, e⟩, f⟩; exact ⟨a, b, c, ⟨d1, d2, d3, d4, f⟩, e⟩
  · rw [if_neg (by decide), if_neg (by decide), if_neg (by decide), if_neg (by decide), if_neg (by decide), if_pos rfl, if_neg (by decide), if_neg (by decide), if_neg (by decide), if_neg (by decide), if_neg (by decide), if_pos rfl]
    have hne : ¬ p.name = [] := fun e => by have := q.2.2.2.1; rw [e] at this; have := this.1; simp at this
    unfold ina
    simp only
    constructor
    · rintro ⟨a, b, c, d, e⟩
      have e' := e.elim (fun k => absurd k hne) id
      rw [Bool.or_eq_false_iff] at a
      refine ⟨⟨a.1, b, c, d, ?_⟩, e'.symm⟩
      by_cases h1 : (‹Aut›).holder = []
      · exact .inl h1
      · by_cases h2 : (‹Aut›).holder = p.name
        · exact .inr (h2.trans e')
        · have := a.2
          rw [decide_eq_false h1, decide_eq_false h2] at this
          cases this
    · rintro ⟨⟨a, b, c, d, e⟩, f⟩
      refine ⟨?_, b, c, d, .inr f.symm⟩
      rcases e with e | e
      · rw [a, decide_eq_true e]; rfl
      · rw [a, decide_eq_true (p := _ = p.name) (e.trans f)]; simp
  · rw [if_neg (by decide), if_neg (by decide), if_neg (by decide), if_neg (by decide), if_neg (by decide), if_neg (by decide), if_neg (by decide), if_neg (by decide), if_neg (by decide), if_neg (by decide), if_neg (by decide), if_neg (by decide)]
    simp
/-- The predicates of an authority's fields. -/
def bnds (a : Aut) : List Prd := [⟨1, a.zones, 0, 0, [], 0⟩, ⟨2, a.lines, 0, 0, [], 0⟩, ⟨3, a.days, 0, 0, [], 0⟩, ⟨4, 0, a.lo, a.hi, [], 0⟩] ++ (if a.holder = [] then [] else [⟨6, 0, 0, 0, a.holder, 0⟩])
/-- In their limits: what the program calls so. -/
def lim (a : Aut) : Prop := (∀ p ∈ bnds a, pok p) ∧ sepA 0 a.daily ∧ ∀ s ∈ a.daily, s.2 < 1440
theorem lim_rng (a : Aut) : lim a ↔ rng a := by
  unfold lim rng bnds nok
  by_cases hh : a.holder = []
  · rw [if_pos hh]
    simp only [List.append_nil, List.mem_cons, List.not_mem_nil, or_false, forall_eq_or_imp, forall_eq, pok, hh]
    simp
    constructor
    · rintro ⟨⟨h1, ⟨h2, h3⟩, ⟨h4, h5⟩, ⟨h6, h7, h8⟩⟩, h10, h11⟩
      exact ⟨h1, h2, h3, h4, h5, h6, h7, h8, h10, h11⟩
    · rintro ⟨h1, h2, h3, h4, h5, h6, h7, h8, h10, h11⟩
      exact ⟨⟨h1, ⟨h2, h3⟩, ⟨h4, h5⟩, ⟨h6, h7, h8⟩⟩, h10, h11⟩
  · rw [if_neg hh]
    simp only [List.cons_append, List.nil_append, List.mem_cons, List.not_mem_nil, or_false, forall_eq_or_imp, forall_eq, pok, hh]
    simp
    constructor
    · rintro ⟨⟨h1, ⟨h2, h3⟩, ⟨h4, h5⟩, ⟨h6, h7, h8⟩, h9⟩, h10, h11⟩
      exact ⟨h1, h2, h3, h4, h5, h6, h7, h8, h9, h10, h11⟩
    · rintro ⟨h1, h2, h3, h4, h5, h6, h7, h8, h9, h10, h11⟩
      exact ⟨⟨h1, ⟨h2, h3⟩, ⟨h4, h5⟩, ⟨h6, h7, h8⟩, h9⟩, h10, h11⟩
/-- All restrictions of a list. -/
def rstl (a : Aut) (l : List Prd) : Aut := l.foldl rst a
theorem rstl_wk : ∀ {l : List Prd} {a : Aut}, Wk a → (∀ p ∈ l, pok p) → Wk (rstl a l)
  | [], _, h, _ => h
  | p :: t, a, h, hp => rstl_wk (l := t) (rst_wk h (hp p (by simp))) fun q hq => hp q (List.mem_cons_of_mem _ hq)
theorem rstl_ina : ∀ {l : List Prd} {a : Aut}, Wk a → (∀ p ∈ l, pok p) → ∀ c, cok c → (ina (rstl a l) c ↔ ina a c ∧ ∀ p ∈ l, asks p c)
  | [], a, _, _, c, _ => by
    show ina a c ↔ _
    simp
  | p :: t, a, h, hp, c, hc => by
    show ina (rstl (rst a p) t) c ↔ _
    rw [rstl_ina (l := t) (rst_wk h (hp p (by simp))) (fun q hq => hp q (List.mem_cons_of_mem _ hq)) c hc, rst_ina h (hp p (by simp)) hc]
    simp [and_assoc]
theorem rstl_snoc {a : Aut} {l : List Prd} {i : Nat} {p : Prd} (h : l[i]? = some p) : rstl a (l.take (i + 1)) = rst (rstl a (l.take i)) p := by
  unfold rstl
  rw [take_snoc h, List.foldl_append]
  rfl
/-- What the fields' predicates ask, and the minutes of the day. -/
theorem bnds_ina {b : Aut} (hb : b.none = false) {c : Ctx} (hc : cok c) : ((∀ p ∈ bnds b, asks p c) ∧ spm b.daily (c.minute % 1440)) ↔ ina b c := by
  obtain ⟨_, _, ⟨m0, m1⟩, _⟩ := hc
  have e : ((c.minute.toNat % 1440 : Nat) : Int) = c.minute % 1440 := by omega
  have e2 : (c.minute / 1440 % 7).toNat = c.minute.toNat / 1440 % 7 := by omega
  have e3 : (c.minute.toNat : Int) = c.minute := by omega
  unfold ina mins
  rw [e, e3]
  have hd : hbit b.days (c.minute / 1440 % 7) ↔ b.days / 2 ^ (c.minute.toNat / 1440 % 7) % 2 = 1 := by unfold hbit; rw [e2]
  rw [← hd]
  unfold bnds
  by_cases hh : b.holder = []
  · rw [if_pos hh]
    simp [asks, hb, hh, and_assoc]
    intro _ _
    constructor
    · rintro ⟨h3, h4, h5, h7⟩; exact ⟨h4, h5, h3, h7⟩
    · rintro ⟨h4, h5, h3, h7⟩; exact ⟨h3, h4, h5, h7⟩
  · rw [if_neg hh]
    simp [asks, hb, hh, and_assoc]
    intro _ _
    constructor
    · rintro ⟨h3, h4, h5, h6, h7⟩; exact ⟨h4, h5, h3, h7, h6.symm⟩
    · rintro ⟨h4, h5, h3, h7, h6⟩; exact ⟨h3, h4, h5, h6.symm, h7⟩
end Sh
end Go.Proofs.YtgbcncfhmnhljaaDoor
namespace Go.Proofs.YtgbcncfhmnhljaaDoor
open Go Go.RowKit Sh Leaf

set_option maxRecDepth 100000 in
set_option maxHeartbeats 1000000 in
theorem afull (w : World) : Calls Tryd.prog 14 #[] w fun e w' => (∃ x, e = .returned x ∧ Av w' (fun b => w.heap.size ≤ b) x fullA) ∧ Below w.heap.size w w' := by
  go_enter Tryd.func14, Tryd.ntmps14
  go_wp2_with fail
  have esn : sof [] = { data := #[] } := by unfold sof; rfl
  have hr : Whole (((w.alloc (.cells #[.bool false, .int .u64 18446744073709551615, .int .u64 4294967295, .int .u64 127, .int .i64 0, .int .i64 67108864, .slice (some ⟨w.heap.size + 1, 0, none⟩) 1 1, .string { data := #[] }] 25)).alloc (.cells #[.int .i64 0, .int .i64 1439] 50))) w.heap.size 25 (arow false 18446744073709551615 4294967295 127 0 67108864 (.slice (some ⟨w.heap.size + 1, 0, none⟩) 1 1) []) := by
    unfold arow
    rw [esn]
    exact (Whole.here _ _ _).alloc _
  refine bodyPost_ret (results_aut (g := w.heap.size) Tryd.results14 _ rfl rfl hr) rfl ?_
  refine ⟨⟨_, rfl, _, _, rfl, ?_, aok_abd full_set.1⟩, ab_below w _ _⟩
  have hs : Spn ((w.alloc (.cells #[.bool false, .int .u64 18446744073709551615, .int .u64 4294967295, .int .u64 127, .int .i64 0, .int .i64 67108864, .slice (some ⟨w.heap.size + 1, 0, none⟩) 1 1, .string { data := #[] }] 25)).alloc (.cells #[.int .i64 0, .int .i64 1439] 50)) (fun b => b = w.heap.size + 1) (some ⟨w.heap.size + 1, 0, none⟩) 1 [((0 : Int), (1439 : Int))] :=
    seq_one (Whole.at_ _ _ _ _ (by simp)) rfl (by unfold sbd i64ok; omega)
  exact hs.mono fun g _ hg => by
    show w.heap.size ≤ g
    omega

theorem anone (w : World) : Calls Tryd.prog 50 #[] w fun e w' => e = .returned (.agg (arow true 0 0 0 0 0 (.slice none 0 0) [])) ∧ Below w.heap.size w w' := by
  go_enter Tryd.func50, Tryd.ntmps50
  go_wp2_with fail
  have esn : sof [] = { data := #[] } := by unfold sof; rfl
  have hr : Whole (w.alloc (.cells #[.bool true, .int .u64 0, .int .u64 0, .int .u64 0, .int .i64 0, .int .i64 0, .slice none 0 0, .string { data := #[] }] 25)) w.heap.size 25 (arow true 0 0 0 0 0 (.slice none 0 0) []) := by
    unfold arow
    rw [esn]
    exact Whole.here _ _ _
  refine bodyPost_ret (results_aut (g := w.heap.size) Tryd.results50 _ rfl rfl hr) rfl ?_
  exact ⟨rfl, (Below.refl w.heap.size w).alloc (Nat.le_refl _) _⟩
theorem pow_wrap7 (i : Nat) (h : i < 7) : IntKind.u64.wrap ((2 : Int) ^ i) = ((2 ^ i : Nat) : Int) := by
  rcases (by omega : i = 0 ∨ i = 1 ∨ i = 2 ∨ i = 3 ∨ i = 4 ∨ i = 5 ∨ i = 6) with rfl | rfl | rfl | rfl | rfl | rfl | rfl <;> rfl
theorem abit (d : Nat) (hd : d ≤ 1000000) (w : World) : Calls Tryd.prog 52 #[.int .i64 (d : Int)] w fun e w' => e = .returned (.int .u64 ((2 ^ (d % 7) : Nat) : Int)) ∧ w' = w := by
  obtain ⟨i, hi⟩ : ∃ i, i = d % 7 := ⟨_, rfl⟩
  rw [← hi]
  have e3 : (d : Int).tmod 7 = (i : Int) := by rw [Int.tmod_eq_emod_of_nonneg (by omega), hi]; omega
  have w1 : IntKind.i64.wrap (i : Int) = (i : Int) := by rw [IntKind.wrap_i64]; omega
  have hmi : min i 64 = i := by omega
  have hi7 : i < 7 := by omega
  have hpw := pow_wrap7 i hi7
  have i0 : (0 : Int) ≤ (i : Int) := by omega
  clear hi hd hi7
  generalize 2 ^ i = pw at hpw ⊢
  go_enter Tryd.func52, Tryd.ntmps52
  go_wp2_with fail
  go_ret
  exact ⟨rfl, rfl⟩
set_option maxRecDepth 100000 in
set_option maxHeartbeats 1000000 in
theorem aspans (k : Int) (m : Nat) (lo hi : Int) (nm : List B8) (nu : Int) (hp : i64ok lo ∧ i64ok hi) (w : World) : Calls Tryd.prog 49 #[.agg (prow k m lo hi nm nu)] w fun e w' =>
    (∃ A c n, e = .returned (.slice A n c) ∧ n = (spo lo hi).length ∧ Spn w' (fun g => w.heap.size ≤ g) A c (spo lo hi)) ∧ Below w.heap.size w w' := by
  have hB := ab_below w
  by_cases h : lo ≤ hi
  · have HS := Lib.hid fun W (hW : Whole W (w.heap.size + 1) 50 #[.int .i64 lo, .int .i64 hi]) =>
      OwnS.seq (ok := sbd) (owns_lit (f := scl) (n := 2) (base := w.heap.size) (l := [(lo, hi)]) hW (by omega) scl_len rfl rfl (by simp)) (fun p hp' => by rw [List.mem_singleton.1 hp']; exact hp)
    have HE : Hid (spo lo hi = [(lo, hi)]) := Lib.hid (by unfold spo; rw [if_pos h])
    go_enter Tryd.func49, Tryd.ntmps49
    go_wp2_with fail
    obtain ⟨A, c, e, hS⟩ := HS.out _ (Whole.at_ (w.alloc (.cells (prow k m lo hi nm nu) 41)) _ _ _ (by simp))
    go_ret
    rw [HE.out]
    exact ⟨⟨A, c, _, congrArg Ending.returned e, rfl, hS⟩, hB _ _⟩
  · have HS := Lib.hid fun W (hW : Whole W (w.heap.size + 1) 50 #[.int .i64 0, .int .i64 hi, .int .i64 lo, .int .i64 1439]) =>
      OwnS.seq (ok := sbd) (owns_lit (f := scl) (n := 2) (base := w.heap.size) (l := [(0, hi), (lo, 1439)]) hW (by omega) scl_len rfl rfl (by simp)) (fun p hp' => by
        simp at hp'
        rcases hp' with rfl | rfl
        · exact ⟨⟨by simp only; omega, by simp only; omega⟩, hp.2⟩
        · exact ⟨hp.1, ⟨by simp only; omega, by simp only; omega⟩⟩)
    have HE : Hid (spo lo hi = [(0, hi), (lo, 1439)]) := Lib.hid (by unfold spo; rw [if_neg h])
    go_enter Tryd.func49, Tryd.ntmps49
    go_wp2_with fail
    obtain ⟨A, c, e, hS⟩ := HS.out _ (Whole.at_ (w.alloc (.cells (prow k m lo hi nm nu) 41)) _ _ _ (by simp))
    go_ret
    rw [HE.out]
    exact ⟨⟨A, c, _, congrArg Ending.returned e, rfl, hS⟩, hB _ _⟩
end Go.Proofs.YtgbcncfhmnhljaaDoor
namespace Go.Proofs.YtgbcncfhmnhljaaDoor
open Go Go.RowKit Sh Leaf

theorem elem_prds : Tryd.prog.underlying 42 = some (.slice (Tryd.prog.elem 42)) := by kernel_rfl
theorem run_sizeOf_six {P : Program} {e : TypeId} (hc : (P.info? e).map (·.size) = some 6) (W : World) : (sizeOf e).run P W = .ok 6 W := by
  cases hq : P.info? e with
  | none => simp [hq] at hc
  | some i => simp [hq] at hc; simp [sizeOf, typeInfo, hq, hc]
theorem size_prd (W : World) : (sizeOf (Tryd.prog.elem 42)).run Tryd.prog W = .ok 6 W := run_sizeOf_six (by kernel_rfl) W
/-- l[k:] -/
theorem run_pcut_from (A : Option Addr) (len c k : Nat) (hk : k ≤ len) (W : World) :
    (Instr.sliceAt 42 (.slice A len c) (some (.int .i64 (k : Int))) none none).run Tryd.prog W = .ok (.slice (if c = k then A else A.map (·.add (k * 6))) (len - k) (c - k)) W := by
  rw [run_sliceAt_slice W _ _ _ _ _ elem_prds, run_slice_l W 42 A len c elem_prds .i64 (k : Int) (by omega) (by omega), size_prd]
  simp [sliced, Result.andThen]
/-- l[:k] -/
theorem run_pcut_to (A : Option Addr) (len c k : Nat) (hk : k ≤ c) (W : World) :
    (Instr.sliceAt 42 (.slice A len c) none (some (.int .i64 (k : Int))) none).run Tryd.prog W = .ok (.slice A k c) W := by
  rw [run_sliceAt_slice W _ _ _ _ _ elem_prds, run_slice_h W 42 A len c elem_prds .i64 (k : Int) (by omega) (by omega), size_prd]
  have e : Option.map (fun x : Addr => x.add 0) A = A := by
    cases A with
    | none => rfl
    | some a => simp [Addr.add]
  simp [sliced, Result.andThen, e]
theorem pcs_take : ∀ (l : List Prd) (k : Nat), pcs (l.take k) = (pcs l).take (k * 6)
  | [], k => by simp [pcs]
  | p :: t, 0 => by simp [pcs]
  | p :: t, k + 1 => by
    rw [List.take_succ_cons, pcs_cons, pcs_cons, pcs_take t k, List.take_append, pcl_length, show (k + 1) * 6 - 6 = k * 6 by omega, List.take_of_length_le (l := pcl p) (by rw [pcl_length]; omega)]
theorem pcs_drop : ∀ (l : List Prd) (k : Nat), pcs (l.drop k) = (pcs l).drop (k * 6)
  | [], k => by simp [pcs]
  | p :: t, 0 => by simp [pcs]
  | p :: t, k + 1 => by
    rw [List.drop_succ_cons, pcs_cons, pcs_drop t k, List.drop_append, pcl_length, show (k + 1) * 6 - 6 = k * 6 by omega, List.drop_of_length_le (l := pcl p) (by rw [pcl_length]; omega)]
    rfl
section
variable {w w' : World} {Q : Nat → Prop} {A : Option Addr} {c : Nat} {l : List Prd}
/-- What l[:k] reads as. -/
theorem Prds.cut (h : Prds w Q A c l) (k : Nat) (hk : k ≤ l.length) : (l.take k).length = k ∧ Prds w Q A c (l.take k) := by
  obtain ⟨h1, h2, h3, h4, h5⟩ := h
  have e : (l.take k).length = k := by rw [List.length_take]; omega
  refine ⟨e, by omega, h2, h3, fun p hp => h4 p (List.mem_of_mem_take hp), fun hl => ?_⟩
  obtain ⟨g, o, hA, hq, hg, hc⟩ := h5 (by omega)
  refine ⟨g, o, hA, hq, hg, fun j v hj => hc j v ?_⟩
  rw [pcs_take, List.getElem?_take] at hj
  split at hj
  · exact hj
  · cases hj
/-- What l[k:] reads as. -/
theorem Prds.from (h : Prds w Q A c l) (k : Nat) (hk : k ≤ l.length) : (l.drop k).length = l.length - k ∧ Prds w Q (if c = k then A else A.map (·.add (k * 6))) (c - k) (l.drop k) := by
  obtain ⟨h1, h2, h3, h4, h5⟩ := h
  have e : (l.drop k).length = l.length - k := List.length_drop
  refine ⟨e, by omega, by omega, fun hA => ?_, fun p hp => h4 p (List.mem_of_mem_drop hp), fun hl => ?_⟩
  · by_cases hck : c = k
    · omega
    · rw [if_neg hck] at hA
      have : A = none := by cases A with
        | none => rfl
        | some a => simp at hA
      have := h3 this
      omega
  · obtain ⟨g, o, hA, hq, hg, hc⟩ := h5 (by omega)
    subst hA
    refine ⟨g, o + k * 6, ?_, hq, hg, fun j v hj => ?_⟩
    · rw [if_neg (by omega)]
      simp [Addr.add_mid]
    · rw [pcs_drop, List.getElem?_drop] at hj
      have := hc (k * 6 + j) v hj
      rw [← Nat.add_assoc] at this
      exact this
/-- Cells below B stay. -/
theorem Prds.low {B : Nat} (h : Prds w (fun g => g < B) A c l) (hb : Below B w w') : Prds w' (fun g => g < B) A c l := h.keep hb.size fun g _ hq => hb.block g hq
end
end Go.Proofs.YtgbcncfhmnhljaaDoor
namespace Go.Proofs.YtgbcncfhmnhljaaDoor
open Go Go.RowKit Sh Leaf

/-- A difference at one place. -/
theorem ne_at {α : Type} [DecidableEq α] {l m : List α} {j : Nat} {p q : α} (hp : l[j]? = some p) (hq : m[j]? = some q) (h : ¬ p = q) : ¬ l = m := fun e => by
  subst e
  rw [hp] at hq
  exact h (Option.some.inj hq)
theorem all_eq {α : Type} {l m : List α} {n : Nat} (h1 : l.length = n) (h2 : m.length = n) (h : ∀ j (p q : α), j < n → l[j]? = some p → m[j]? = some q → p = q) : l = m := by
  apply List.ext_getElem?
  intro j
  rcases Nat.lt_or_ge j n with hj | hj
  · obtain ⟨p, hp⟩ : ∃ p, l[j]? = some p := ⟨_, List.getElem?_eq_getElem (by omega)⟩
    obtain ⟨q, hq⟩ : ∃ q, m[j]? = some q := ⟨_, List.getElem?_eq_getElem (by omega)⟩
    rw [hp, hq, h j p q hj hp hq]
  · rw [List.getElem?_eq_none (by omega), List.getElem?_eq_none (by omega)]
set_option maxRecDepth 100000 in
set_option maxHeartbeats 2000000 in
theorem same_in (n1 n2 : Bool) (z1 z2 l1 l2 d1 d2 a1 a2 b1 b2 : Int) (A1 A2 : Option Addr) (c1 c2 : Nat) (s1 s2 : List (Int × Int)) (h1 h2 : List B8) (Q1 Q2 : Nat → Prop) (D : Bool) (w : World)
    (hD : D = decide (n1 = n2 ∧ z1 = z2 ∧ l1 = l2 ∧ d1 = d2 ∧ a1 = a2 ∧ b1 = b2 ∧ h1 = h2 ∧ s1 = s2)) (hS1 : Spn w Q1 A1 c1 s1) (hS2 : Spn w Q2 A2 c2 s2) :
    Calls Tryd.prog 10 #[.agg (arow n1 z1 l1 d1 a1 b1 (.slice A1 s1.length c1) h1), .agg (arow n2 z2 l2 d2 a2 b2 (.slice A2 s2.length c2) h2)] w fun e w' => e = .returned (.bool D) ∧ Below w.heap.size w w' := by
  have hb := ab_below w
  have hs := sof_beq h1 h2
  have hl1 : s1.length ≤ 9223372036854775807 := by have := hS1.1; have := hS1.2.1; unfold maxLen at this; omega
  have hl2 : s2.length ≤ 9223372036854775807 := by have := hS2.1; have := hS2.2.1; unfold maxLen at this; omega
  by_cases kn : n1 = n2
  case neg =>
    obtain rfl := hD.trans (decide_eq_false fun h => kn h.1)
    obtain rfl : n2 = !n1 := by revert kn; cases n1 <;> cases n2 <;> decide
    clear hD kn hS1 hS2 hs
    cases n1
    · skip
      go_enter Tryd.func10, Tryd.ntmps10
      go_wp2
      go_ret
      exact ⟨rfl, hb _ _⟩
    · skip
      go_enter Tryd.func10, Tryd.ntmps10
      go_wp2
      go_ret
      exact ⟨rfl, hb _ _⟩
  subst kn
  by_cases kz : z1 = z2
  case neg =>
    obtain rfl := hD.trans (decide_eq_false fun h => kz h.2.1)
    clear hD hS1 hS2 hs
    go_enter Tryd.func10, Tryd.ntmps10
    go_wp2
    go_ret
    exact ⟨rfl, hb _ _⟩
  subst kz
  by_cases kl : l1 = l2
  case neg =>
    obtain rfl := hD.trans (decide_eq_false fun h => kl h.2.2.1)
    clear hD hS1 hS2 hs
    go_enter Tryd.func10, Tryd.ntmps10
    go_wp2
    go_ret
    exact ⟨rfl, hb _ _⟩
  subst kl
  by_cases kd : d1 = d2
  case neg =>
    obtain rfl := hD.trans (decide_eq_false fun h => kd h.2.2.2.1)
    clear hD hS1 hS2 hs
    go_enter Tryd.func10, Tryd.ntmps10
    go_wp2
    go_ret
    exact ⟨rfl, hb _ _⟩
  subst kd
  by_cases ka : a1 = a2
  case neg =>
    obtain rfl := hD.trans (decide_eq_false fun h => ka h.2.2.2.2.1)
    clear hD hS1 hS2 hs
    go_enter Tryd.func10, Tryd.ntmps10
    go_wp2
    go_ret
    exact ⟨rfl, hb _ _⟩
  subst ka
  by_cases kb : b1 = b2
  case neg =>
    obtain rfl := hD.trans (decide_eq_false fun h => kb h.2.2.2.2.2.1)
    clear hD hS1 hS2 hs
    go_enter Tryd.func10, Tryd.ntmps10
    go_wp2
    go_ret
    exact ⟨rfl, hb _ _⟩
  subst kb
  by_cases kh : h1 = h2
  case neg =>
    obtain rfl := hD.trans (decide_eq_false fun h => kh h.2.2.2.2.2.2.1)
    rw [decide_eq_false kh] at hs
    clear hD hS1 hS2 kh
    go_enter Tryd.func10, Tryd.ntmps10
    go_wp2
    go_ret
    exact ⟨rfl, hb _ _⟩
  subst kh
  rw [decide_eq_true rfl] at hs
  by_cases kl : s1.length = s2.length
  case neg =>
    obtain rfl := hD.trans (decide_eq_false fun h => kl (by rw [h.2.2.2.2.2.2.2]))
    have kl' : ¬ (s1.length : Int) = (s2.length : Int) := by omega
    clear hD hS1 hS2
    go_enter Tryd.func10, Tryd.ntmps10
    go_wp2
    go_ret
    exact ⟨rfl, hb _ _⟩
  obtain ⟨n, hn⟩ : ∃ n, n = s1.length := ⟨_, rfl⟩
  rw [← kl, ← hn]
  have HL := Lib.hid (And.intro hn.symm (hn.trans kl).symm)
  have hD' : D = decide (s1 = s2) := hD.trans (decide_eq_decide.2 ⟨fun h => h.2.2.2.2.2.2.2, fun h => ⟨rfl, rfl, rfl, rfl, rfl, rfl, rfl, h⟩⟩)
  have hln : n ≤ 9223372036854775807 := by omega
  clear hD kl hl1 hl2
  have hq1 : ∀ o1 o2, Spn ((w.alloc o1).alloc o2) Q1 A1 c1 s1 := fun o1 o2 => (hS1.alloc o1).alloc o2
  have hq2 : ∀ o1 o2, Spn ((w.alloc o1).alloc o2) Q2 A2 c2 s2 := fun o1 o2 => (hS2.alloc o1).alloc o2
  have HR1 : Hid (ARow ((w.alloc (.cells (arow n1 z1 l1 d1 a1 b1 (.slice A1 n c1) h1) 25)).alloc (.cells (arow n1 z1 l1 d1 a1 b1 (.slice A2 n c2) h1) 25)) w.heap.size n1 z1 l1 d1 a1 b1 (.slice A1 n c1) h1) := Lib.hid ((Whole.here _ _ _).alloc _)
  have HR2 : Hid (ARow ((w.alloc (.cells (arow n1 z1 l1 d1 a1 b1 (.slice A1 n c1) h1) 25)).alloc (.cells (arow n1 z1 l1 d1 a1 b1 (.slice A2 n c2) h1) 25)) (w.heap.size + 1) n1 z1 l1 d1 a1 b1 (.slice A2 n c2) h1) := Lib.hid (Whole.at_ _ _ _ _ (by simp))
  have HQ1 := Lib.hid hq1
  have HQ2 := Lib.hid hq2
  have HD := Lib.hid hD'
  clear hS1 hS2 hq1 hq2 hD' hn
  go_enter Tryd.func10, Tryd.ntmps10
  go_wp2
  go_loopw [5] (fun i wr => ∃ j : Nat, i = .int .i64 j ∧ j ≤ n ∧ (∀ i p q, i < j → s1[i]? = some p → s2[i]? = some q → p = q) ∧ ARow wr w.heap.size n1 z1 l1 d1 a1 b1 (.slice A1 n c1) h1 ∧ ARow wr (w.heap.size + 1) n1 z1 l1 d1 a1 b1 (.slice A2 n c2) h1 ∧ Spn wr Q1 A1 c1 s1 ∧ Spn wr Q2 A2 c2 s2 ∧ Below w.heap.size w wr) (fun i _ => n - (intOf i).toNat)
  case atStart => exact ⟨0, rfl, by omega, fun i p q h => by omega, HR1.out, HR2.out, HQ1.out _ _, HQ2.out _ _, hb _ _⟩
  case round =>
    obtain ⟨j, rfl, hj, hall, hr1, hr2, hq1, hq2, hbw⟩ := hrel
    obtain ⟨x0, x1, x2, x3, x4, x5, x6, x7⟩ := hr1.cells
    obtain ⟨y0, y1, y2, y3, y4, y5, y6, y7⟩ := hr2.cells
    clear x0 x1 x2 x3 x4 x5 x7 y0 y1 y2 y3 y4 y5 y7 hb hs
    have HA := Lib.hid hall
    have HX := Lib.hid hr1
    have HY := Lib.hid hr2
    have HS1 := Lib.hid hq1
    have HS2 := Lib.hid hq2
    have HB := Lib.hid hbw
    clear hall hr1 hr2 hbw HR1 HR2 HQ1 HQ2
    by_cases hlt : j < n
    · obtain ⟨⟨p1, p2⟩, hp⟩ : ∃ p, s1[j]? = some p := ⟨_, List.getElem?_eq_getElem (by have := HL.out.1; omega)⟩
      obtain ⟨⟨q1, q2⟩, hq⟩ : ∃ p, s2[j]? = some p := ⟨_, List.getElem?_eq_getElem (by have := HL.out.2; omega)⟩
      obtain ⟨g, o, rfl, -, hg, e1, e2⟩ := Spn.get hq1 j _ hp
      obtain ⟨g', o', rfl, -, hg', e3, e4⟩ := Spn.get hq2 j _ hq
      have hne := fun W => run_neq_span p1 p2 q1 q2 W
      have HP := Lib.hid (And.intro hp hq)
      simp only at e1 e2 e3 e4
      have j0 : (0 : Int) ≤ (j : Int) := by omega
      have jn : (j : Int) < (n : Int) := by omega
      clear hq1 hq2 hp hq
      by_cases hpq : p1 = q1 ∧ p2 = q2
      · rw [decide_eq_true hpq] at hne
        have HE := Lib.hid hpq
        clear hpq
        go_wp2_with fail
        go_region
        go_wp2_with fail
        go_roundw
        case rel =>
          refine ⟨j + 1, by go_num, by omega, fun i p q hi h1 h2 => ?_, HX.out, HY.out, HS1.out, HS2.out, HB.out.drew⟩
          by_cases e : i = j
          · subst e
            have k1 := HP.out.1
            have k2 := HP.out.2
            rw [h1] at k1
            rw [h2] at k2
            injection k1 with k1
            injection k2 with k2
            rw [k1, k2]
            exact Prod.ext HE.out.1 HE.out.2
          · exact HA.out i p q (by omega) h1 h2
        case measure => simp [intOf]; omega
      · rw [decide_eq_false hpq] at hne
        obtain rfl := HD.out.trans (decide_eq_false (ne_at HP.out.1 HP.out.2 (fun e => hpq (Prod.mk.inj e))))
        clear hpq
        go_wp2_with fail
        go_region
        go_wp2
        go_ret
        exact ⟨rfl, HB.out.drew⟩
    · obtain rfl := HD.out.trans (decide_eq_true (all_eq HL.out.1 HL.out.2 fun i p q hi h1 h2 => HA.out i p q (by omega) h1 h2))
      go_wp2
      go_ret
      exact ⟨rfl, HB.out⟩
/-- The reference's SameAuthority. -/
theorem rsame_aut {w : World} {Q1 Q2 : Nat → Prop} {x y : Value} {a b : Aut} (hx : Av w Q1 x a) (hy : Av w Q2 y b) :
    Calls Tryd.prog 10 #[x, y] w fun e w' => e = .returned (.bool (decide (a = b))) ∧ Below w.heap.size w w' := by
  obtain ⟨A1, c1, rfl, hS1, -⟩ := hx
  obtain ⟨A2, c2, rfl, hS2, -⟩ := hy
  refine same_in _ _ _ _ _ _ _ _ _ _ _ _ A1 A2 c1 c2 _ _ _ _ Q1 Q2 _ w (decide_eq_decide.2 ?_) hS1 hS2
  obtain ⟨n1, z1, l1, d1, o1, i1, y1, h1⟩ := a
  obtain ⟨n2, z2, l2, d2, o2, i2, y2, h2⟩ := b
  simp only [Aut.mk.injEq, Int.natCast_inj]
  constructor
  · rintro ⟨e1, e2, e3, e4, e5, e6, e7, e8⟩; exact ⟨e1, e2, e3, e4, e5, e6, e8, e7⟩
  · rintro ⟨e1, e2, e3, e4, e5, e6, e7, e8⟩; exact ⟨e1, e2, e3, e4, e5, e6, e8, e7⟩
end Go.Proofs.YtgbcncfhmnhljaaDoor
namespace Go.Proofs.YtgbcncfhmnhljaaDoor
open Go Go.RowKit Sh Leaf

theorem has_bit (m : Nat) (z : Int) (hm : m < 18446744073709551616) (h0 : 0 ≤ z) (h1 : z < 64) (w : World) :
    Calls Tryd.prog 100 #[.int .u64 (m : Int), .int .i64 z] w fun e w' => e = .returned (.bool (decide (hbit m z))) ∧ w = w' := by
  obtain ⟨i, rfl⟩ := Int.eq_ofNat_of_zero_le h0
  have hb := bit_and m i hm
  have HD : Hid (decide (m / 2 ^ i % 2 = 1) = decide (hbit m (i : Int))) := Lib.hid (decide_eq_decide.2 (by unfold hbit; rw [Int.toNat_natCast]))
  generalize decide (m / 2 ^ i % 2 = 1) = D at *
  clear hm
  go_enter Tryd.func100, Tryd.ntmps100
  go_wp2
  go_ret
  exact ⟨by rw [← HD.out]; rfl, rfl⟩
theorem two_below (w : World) (o1 o2 : Obj) : Below w.heap.size w ((w.alloc o1).alloc o2) := ((Below.refl w.heap.size w).alloc (Nat.le_refl _) o1).alloc (by simp) o2
theorem in_zone (z l mi : Int) (nm : List B8) (k lo hi nu : Int) (m : Nat) (pn : List B8) (hm : m < 18446744073709551616) (h0 : 0 ≤ z) (h1 : z < 64) (w : World) :
    Calls Tryd.prog 88 #[.agg (crow z l mi nm), .agg (prow k m lo hi pn nu)] w fun e w' => e = .returned (.bool (decide (hbit m z))) ∧ Below w.heap.size w w' := by
  have hb := fun W => has_bit m z hm h0 h1 W
  clear hm h0 h1
  go_enter Tryd.func88, Tryd.ntmps88
  go_wp2_with fail
  refine (hb _).mono ?_
  rintro e w' ⟨rfl, rfl⟩
  go_wp2
  go_ret
  exact ⟨rfl, two_below _ _ _⟩
theorem on_line (z l mi : Int) (nm : List B8) (k lo hi nu : Int) (m : Nat) (pn : List B8) (hm : m < 18446744073709551616) (h0 : 0 ≤ l) (h1 : l < 64) (w : World) :
    Calls Tryd.prog 89 #[.agg (crow z l mi nm), .agg (prow k m lo hi pn nu)] w fun e w' => e = .returned (.bool (decide (hbit m l))) ∧ Below w.heap.size w w' := by
  have hb := fun W => has_bit m l hm h0 h1 W
  clear hm h0 h1
  go_enter Tryd.func89, Tryd.ntmps89
  go_wp2_with fail
  refine (hb _).mono ?_
  rintro e w' ⟨rfl, rfl⟩
  go_wp2
  go_ret
  exact ⟨rfl, two_below _ _ _⟩
theorem on_days (z l mi : Int) (nm : List B8) (k lo hi nu : Int) (m : Nat) (pn : List B8) (hm : m < 18446744073709551616) (h0 : 0 ≤ mi) (h1 : mi ≤ 67108864) (D : Bool) (hD : D = decide (hbit m (mi / 1440 % 7))) (w : World) :
    Calls Tryd.prog 90 #[.agg (crow z l mi nm), .agg (prow k m lo hi pn nu)] w fun e w' => e = .returned (.bool D) ∧ Below w.heap.size w w' := by
  have e1 : mi.tdiv 1440 = mi / 1440 := Int.tdiv_eq_ediv_of_nonneg h0
  have e2 : (mi / 1440).tmod 7 = mi / 1440 % 7 := Int.tmod_eq_emod_of_nonneg (by omega)
  have hw : IntKind.i64.wrap (mi / 1440) = mi / 1440 := by rw [IntKind.wrap_i64]; omega
  have hd0 : 0 ≤ mi / 1440 % 7 := by omega
  have hd1 : mi / 1440 % 7 < 64 := by omega
  generalize mi / 1440 % 7 = d at *
  have hb := fun W => has_bit m d hm hd0 hd1 W
  rw [← hD] at hb
  clear hD hd0 hd1
  clear hm
  generalize mi / 1440 = q at *
  clear h0 h1
  go_enter Tryd.func90, Tryd.ntmps90
  go_wp2_with fail
  refine (hb _).mono ?_
  rintro e w' ⟨rfl, rfl⟩
  go_wp2
  go_ret
  exact ⟨rfl, two_below _ _ _⟩
theorem in_time (z l mi : Int) (nm : List B8) (k lo hi nu : Int) (m : Nat) (pn : List B8) (D : Bool) (hD : D = decide (lo ≤ mi ∧ mi ≤ hi)) (w : World) :
    Calls Tryd.prog 91 #[.agg (crow z l mi nm), .agg (prow k m lo hi pn nu)] w fun e w' => e = .returned (.bool D) ∧ Below w.heap.size w w' := by
  by_cases h1 : lo ≤ mi
  · by_cases h2 : mi ≤ hi
    · skip
      have hd := hD.trans (decide_eq_true (And.intro h1 h2))
      subst hd
      clear hD
      go_enter Tryd.func91, Tryd.ntmps91
      go_wp2
      go_ret
      exact ⟨rfl, two_below _ _ _⟩
    · skip
      have hd := hD.trans (decide_eq_false (fun h : lo ≤ mi ∧ mi ≤ hi => h2 h.2))
      subst hd
      clear hD
      go_enter Tryd.func91, Tryd.ntmps91
      go_wp2
      go_ret
      exact ⟨rfl, two_below _ _ _⟩
  · skip
    have hd := hD.trans (decide_eq_false (fun h : lo ≤ mi ∧ mi ≤ hi => h1 h.1))
    subst hd
    clear hD
    go_enter Tryd.func91, Tryd.ntmps91
    go_wp2
    go_ret
    exact ⟨rfl, two_below _ _ _⟩
theorem by_holder (z l mi : Int) (nm : List B8) (k lo hi nu : Int) (m : Nat) (pn : List B8) (D : Bool) (hD : D = decide (nm = pn)) (w : World) :
    Calls Tryd.prog 93 #[.agg (crow z l mi nm), .agg (prow k m lo hi pn nu)] w fun e w' => e = .returned (.bool D) ∧ Below w.heap.size w w' := by
  have hs := sof_beq nm pn
  rw [← hD] at hs
  clear hD
  go_enter Tryd.func93, Tryd.ntmps93
  go_wp2
  go_ret
  exact ⟨rfl, two_below _ _ _⟩
theorem always_ (z l mi : Int) (nm : List B8) (k lo hi nu : Int) (m : Nat) (pn : List B8) (w : World) :
    Calls Tryd.prog 94 #[.agg (crow z l mi nm), .agg (prow k m lo hi pn nu)] w fun e w' => e = .returned (.bool true) ∧ Below w.heap.size w w' := by
  go_enter Tryd.func94, Tryd.ntmps94
  go_wp2
  go_ret
  exact ⟨rfl, two_below _ _ _⟩
theorem in_daily (z l mi : Int) (nm : List B8) (k lo hi nu : Int) (m : Nat) (pn : List B8) (h0 : 0 ≤ mi) (D : Bool) (hD : D = decide (if lo ≤ hi then lo ≤ mi % 1440 ∧ mi % 1440 ≤ hi else lo ≤ mi % 1440 ∨ mi % 1440 ≤ hi)) (w : World) :
    Calls Tryd.prog 92 #[.agg (crow z l mi nm), .agg (prow k m lo hi pn nu)] w fun e w' => e = .returned (.bool D) ∧ Below w.heap.size w w' := by
  have e1 : mi.tmod 1440 = mi % 1440 := Int.tmod_eq_emod_of_nonneg h0
  clear h0
  generalize mi % 1440 = r at *
  by_cases hle : lo ≤ hi
  · by_cases h1 : lo ≤ r
    · by_cases h2 : r ≤ hi
      · skip
        have hd := hD.trans (decide_eq_true ((if_pos hle).symm ▸ And.intro h1 h2))
        subst hd
        clear hD
        go_enter Tryd.func92, Tryd.ntmps92
        go_wp2
        go_ret
        exact ⟨rfl, two_below _ _ _⟩
      · skip
        have hd := hD.trans (decide_eq_false (fun h => h2 (((iff_of_eq (if_pos hle)).1 h : lo ≤ r ∧ r ≤ hi)).2))
        subst hd
        clear hD
        go_enter Tryd.func92, Tryd.ntmps92
        go_wp2
        go_ret
        exact ⟨rfl, two_below _ _ _⟩
    · skip
      have hd := hD.trans (decide_eq_false (fun h => h1 (((iff_of_eq (if_pos hle)).1 h : lo ≤ r ∧ r ≤ hi)).1))
      subst hd
      clear hD
      go_enter Tryd.func92, Tryd.ntmps92
      go_wp2
      go_ret
      exact ⟨rfl, two_below _ _ _⟩
  · by_cases h1 : lo ≤ r
    · skip
      have hd := hD.trans (decide_eq_true ((if_neg hle).symm ▸ Or.inl h1))
      subst hd
      clear hD
      go_enter Tryd.func92, Tryd.ntmps92
      go_wp2
      go_ret
      exact ⟨rfl, two_below _ _ _⟩
    · by_cases h2 : r ≤ hi
      · skip
        have hd := hD.trans (decide_eq_true ((if_neg hle).symm ▸ Or.inr h2))
        subst hd
        clear hD
        go_enter Tryd.func92, Tryd.ntmps92
        go_wp2
        go_ret
        exact ⟨rfl, two_below _ _ _⟩
      · skip
        have hd := hD.trans (decide_eq_false (fun h => (((iff_of_eq (if_neg hle)).1 h : lo ≤ r ∨ r ≤ hi)).elim h1 h2))
        subst hd
        clear hD
        go_enter Tryd.func92, Tryd.ntmps92
        go_wp2
        go_ret
        exact ⟨rfl, two_below _ _ _⟩
end Go.Proofs.YtgbcncfhmnhljaaDoor
namespace Go.Proofs.YtgbcncfhmnhljaaDoor
open Go Go.RowKit Sh Leaf

/-- A method value of a ride. -/
abbrev mv (z l m : Int) (nm : List B8) (k : Nat) : Value := .func (.func k) #[.agg (crow z l m nm)] #[]
/-- The function of a kind. -/
def kf (k : Nat) : Nat := if k = 1 then 88 else if k = 2 then 89 else if k = 3 then 90 else if k = 4 then 91 else if k = 5 then 92 else if k = 6 then 93 else 94
/-- The table's cells. -/
def Table (w : World) (g : Nat) (z l m : Int) (nm : List B8) : Prop := ∀ k, 1 ≤ k → k ≤ 7 → w.cell? ⟨g, k, none⟩ = some (mv z l m nm (kf k))
theorem Table.mk {w : World} {g : Nat} {z l m : Int} {nm : List B8} {v : Value} (h : Whole w g 61 #[v, mv z l m nm 88, mv z l m nm 89, mv z l m nm 90, mv z l m nm 91, mv z l m nm 92, mv z l m nm 93, mv z l m nm 94]) : Table w g z l m nm := by
  intro k h1 h2
  rcases (by omega : k = 1 ∨ k = 2 ∨ k = 3 ∨ k = 4 ∨ k = 5 ∨ k = 6 ∨ k = 7) with rfl | rfl | rfl | rfl | rfl | rfl | rfl
  · exact h.cell 1
  · exact h.cell 2
  · exact h.cell 3
  · exact h.cell 4
  · exact h.cell 5
  · exact h.cell 6
  · exact h.cell 7
theorem evals (z l m : Int) (nm : List B8) (w : World) :
    Calls Tryd.prog 76 #[.agg (crow z l m nm)] w fun e w' => e = .returned (.slice (some ⟨w.heap.size + 1, 0, none⟩) 8 8) ∧ Table w' (w.heap.size + 1) z l m nm ∧ Below w.heap.size w w' := by
  have hmf : ∀ (fn : Fn) (first cap : Array Value) (w : World), (Instr.makeFunc fn first cap).run Tryd.prog w = .ok (.func fn first cap) w := fun _ _ _ _ => rfl
  go_enter Tryd.func76, Tryd.ntmps76
  go_wp2
  go_ret
  exact ⟨rfl, Table.mk (Whole.at_ _ _ _ _ (by simp)), two_below _ _ _⟩
end Go.Proofs.YtgbcncfhmnhljaaDoor
namespace Go.Proofs.YtgbcncfhmnhljaaDoor
open Go Go.RowKit Sh Leaf

set_option maxRecDepth 100000 in
set_option maxHeartbeats 1000000 in
theorem rfull (w : World) : Calls Tryd.prog 33 #[] w fun e w' => (∃ x, e = .returned x ∧ Av w' (fun b => w.heap.size ≤ b) x fullA) ∧ Below w.heap.size w w' := by
  go_enter Tryd.func33, Tryd.ntmps33
  go_wp2_with fail
  have esn : sof [] = { data := #[] } := by unfold sof; rfl
  have hr : Whole (((w.alloc (.cells #[.bool false, .int .u64 18446744073709551615, .int .u64 4294967295, .int .u64 127, .int .i64 0, .int .i64 67108864, .slice (some ⟨w.heap.size + 1, 0, none⟩) 1 1, .string { data := #[] }] 25)).alloc (.cells #[.int .i64 0, .int .i64 1439] 50))) w.heap.size 25 (arow false 18446744073709551615 4294967295 127 0 67108864 (.slice (some ⟨w.heap.size + 1, 0, none⟩) 1 1) []) := by
    unfold arow
    rw [esn]
    exact (Whole.here _ _ _).alloc _
  refine bodyPost_ret (results_aut (g := w.heap.size) Tryd.results33 _ rfl rfl hr) rfl ?_
  refine ⟨⟨_, rfl, _, _, rfl, ?_, aok_abd full_set.1⟩, ab_below w _ _⟩
  have hs : Spn ((w.alloc (.cells #[.bool false, .int .u64 18446744073709551615, .int .u64 4294967295, .int .u64 127, .int .i64 0, .int .i64 67108864, .slice (some ⟨w.heap.size + 1, 0, none⟩) 1 1, .string { data := #[] }] 25)).alloc (.cells #[.int .i64 0, .int .i64 1439] 50)) (fun b => b = w.heap.size + 1) (some ⟨w.heap.size + 1, 0, none⟩) 1 [((0 : Int), (1439 : Int))] :=
    seq_one (Whole.at_ _ _ _ _ (by simp)) rfl (by unfold sbd i64ok; omega)
  exact hs.mono fun g _ hg => by
    show w.heap.size ≤ g
    omega
end Go.Proofs.YtgbcncfhmnhljaaDoor
namespace Go.Proofs.YtgbcncfhmnhljaaDoor
open Go Go.RowKit Sh Leaf

/-- has -/
@[irreducible] def hasB (f l : Int) (d : Nat) (M : Nat → Bool) (x : Nat) : Bool := decide (f ≤ (x : Int)) && (decide ((x : Int) ≤ l) && (decide (d / 2 ^ (x / 1440 % 7) % 2 = 1) && M (x % 1440)))
set_option maxRecDepth 100000 in
set_option maxHeartbeats 1000000 in
theorem thas (g : Nat) (f l : Int) (d : Nat) (M : Nat → Bool) (x : Nat) (hx : x ≤ 1000000000000) (w : World) (h : TRow w g f l d M) :
    Calls Tryd.prog 25 #[.pointer (some ⟨g, 0, none⟩), .int .i64 (x : Int)] w fun e w' => e = .returned (.bool (hasB f l d M x)) ∧ w = w' := by
  have c0 := h.c0
  have c1 := h.c1
  have c2 := h.c2
  obtain ⟨m, hm⟩ : ∃ m, m = x % 1440 := ⟨_, rfl⟩
  have hm1 : m < 1440 := by omega
  have cm := h.m m hm1
  obtain ⟨D, hD⟩ : ∃ D, D = hasB f l d M x := ⟨_, rfl⟩
  rw [← hD]
  unfold hasB at hD
  rw [← hm] at hD
  have e1 : (x : Int).tmod 1440 = (m : Int) := by rw [Int.tmod_eq_emod_of_nonneg (by omega), hm]; omega
  obtain ⟨q, hq⟩ : ∃ q, q = x / 1440 := ⟨_, rfl⟩
  rw [← hq] at hD
  have e2 : (x : Int).tdiv 1440 = (q : Int) := by rw [Int.tdiv_eq_ediv_of_nonneg (by omega), hq]; omega
  obtain ⟨i, hi⟩ : ∃ i, i = q % 7 := ⟨_, rfl⟩
  rw [← hi] at hD
  have e3 : (q : Int).tmod 7 = (i : Int) := by rw [Int.tmod_eq_emod_of_nonneg (by omega), hi]; omega
  have hw1 : IntKind.i64.wrap (q : Int) = (q : Int) := by rw [IntKind.wrap_i64]; omega
  have hw2 : IntKind.u64.wrap (i : Int) = (i : Int) := by rw [IntKind.wrap_u64]; omega
  have hmi : min i 64 = i := by omega
  have m0 : (0 : Int) ≤ (m : Int) := by omega
  have m1 : (m : Int) < 1440 := by omega
  have hb := bit_val d i
  clear hm hq hi h hx
  by_cases k1 : f ≤ (x : Int)
  case neg =>
    rw [decide_eq_false k1, Bool.false_and] at hD
    subst hD
    clear hb
    go_enter Tryd.func25, Tryd.ntmps25
    go_wp2
    go_ret
    exact ⟨rfl, rfl⟩
  rw [decide_eq_true k1, Bool.true_and] at hD
  by_cases k2 : (x : Int) ≤ l
  case neg =>
    rw [decide_eq_false k2, Bool.false_and] at hD
    subst hD
    clear hb
    go_enter Tryd.func25, Tryd.ntmps25
    go_wp2
    go_ret
    exact ⟨rfl, rfl⟩
  rw [decide_eq_true k2, Bool.true_and] at hD
  by_cases k3 : d / 2 ^ i % 2 = 1
  case neg =>
    rw [decide_eq_false k3, Bool.false_and] at hD
    subst hD
    rw [decide_eq_false k3] at hb
    clear k3
    go_enter Tryd.func25, Tryd.ntmps25
    go_wp2
    go_ret
    exact ⟨rfl, rfl⟩
  rw [decide_eq_true k3, Bool.true_and] at hD
  rw [decide_eq_true k3] at hb
  rw [← hD] at cm
  clear k3 hD
  go_enter Tryd.func25, Tryd.ntmps25
  go_wp2
  go_ret
  exact ⟨rfl, rfl⟩
end Go.Proofs.YtgbcncfhmnhljaaDoor
namespace Go.Proofs.YtgbcncfhmnhljaaDoor
open Go Go.RowKit Sh Leaf

theorem low_zero (m i : Nat) (b : Bool) (h : decide (m / 2 ^ i % 2 = 1) = b) : (((m : Int) / 2 ^ i).tmod 2 == 0) = !b := by
  have e : ((m : Int) / 2 ^ i) = ((m / 2 ^ i : Nat) : Int) := by push_cast; rfl
  have e2 : ((m / 2 ^ i : Nat) : Int) % 2 = ((m / 2 ^ i % 2 : Nat) : Int) := by push_cast; rfl
  rw [e, Int.tmod_eq_emod_of_nonneg (Int.natCast_nonneg _), e2, ← h]
  generalize m / 2 ^ i = q
  rcases (by omega : q % 2 = 0 ∨ q % 2 = 1) with k | k <;> rw [k] <;> rfl
set_option maxRecDepth 100000 in
set_option maxHeartbeats 2000000 in
theorem rlowest (m : Nat) (hm : m < 18446744073709551616) (h0 : m ≠ 0) (w : World) :
    Calls Tryd.prog 28 #[.int .u64 (m : Int)] w fun e w' => (∃ i : Nat, e = .returned (.int .i64 (i : Int)) ∧ IsLow m i ∧ i < 64) ∧ w' = w := by
  obtain ⟨k, hk⟩ := IsLow.ex h0
  have HK := Lib.hid hk
  have hk64 : k < 64 := by
    have h1 := hk.1
    unfold bt at h1
    by_cases h : k < 64
    · exact h
    · have : m < 2 ^ k := Nat.lt_of_lt_of_le (by omega : m < 2 ^ 64) (Nat.pow_le_pow_right (by omega) (by omega))
      rw [Nat.div_eq_of_lt this] at h1
      omega
  clear hk h0
  go_enter Tryd.func28, Tryd.ntmps28
  go_wp2
  go_loopw [3] (fun i wr => ∃ j : Nat, i = .int .i64 j ∧ j ≤ k ∧ wr = w) (fun i _ => k - (intOf i).toNat)
  case atStart => exact ⟨0, rfl, by omega, rfl⟩
  case round =>
    obtain ⟨j, rfl, hj, rfl⟩ := hrel
    have HK1 := HK.out.1
    have HK2 := HK.out.2 j
    by_cases hbt : m / 2 ^ j % 2 = 1
    · have e : (((m : Int) / 2 ^ j).tmod 2 == 0) = false := low_zero m j true (by rw [hbt]; rfl)
      obtain rfl : j = k := by
        rcases Nat.lt_or_ge j k with h | h
        · exact absurd hbt (HK2 h)
        · omega
      clear HK1 HK2 hbt
      go_wp2
      go_ret
      exact ⟨⟨j, rfl, HK.out, hk64⟩, rfl⟩
    · have e : (((m : Int) / 2 ^ j).tmod 2 == 0) = true := low_zero m j false (by simpa using hbt)
      have hjk : j < k := by
        rcases Nat.lt_or_ge j k with h | h
        · exact h
        · obtain rfl : j = k := by omega
          exact absurd HK1 hbt
      clear HK1 HK2 hbt
      go_wp2
      go_roundw
      case rel => exact ⟨j + 1, by go_num, by omega, by first | trivial | rfl⟩
      case measure => simp [intOf]; omega
end Go.Proofs.YtgbcncfhmnhljaaDoor
