/-
  A predicate in a block: loads, stores, results.
-/
import Derived.Laws.Rows
import Derived.Laws.Tables
import Derived.Test.YtpodgmmgphibfaaDoorPk3
import Derived.Test.YtpodgmmgphibfaaDoorPk0
namespace Go.Proofs.YtpodgmmgphibfaaDoor
open Go Go.RowKit Sh Leaf

/-- A predicate's cells. -/
abbrev prow (k m lo hi : Int) (nm : List B8) (nu : Int) : Array Value := #[.int .i64 k, .int .u64 m, .int .i64 lo, .int .i64 hi, .string (sof nm), .int .i64 nu]
theorem prdSize : (Tryd.prog.info? 24).map (·.size) = some 6 := by kernel_rfl
theorem pv_row (p : Prd) : pv p = .agg (prow p.kind p.mask p.lo p.hi p.name p.num) := by unfold pv; rfl
theorem prow_zero : prow 0 0 0 0 [] 0 = #[.int .i64 0, .int .u64 0, .int .i64 0, .int .i64 0, .string { data := #[] }, .int .i64 0] := by rw [← sof_none]
/-- The block g is the predicate's. -/
abbrev PRow (w : World) (g : Nat) (k m lo hi : Int) (nm : List B8) (nu : Int) : Prop := Whole w g 24 (prow k m lo hi nm nu)
section
variable {w : World} {g : Nat} {k m lo hi : Int} {nm : List B8} {nu : Int}
theorem PRow.cells (h : PRow w g k m lo hi nm nu) :
    w.cell? ⟨g, 0, none⟩ = some (.int .i64 k) ∧ w.cell? ⟨g, 1, none⟩ = some (.int .u64 m) ∧ w.cell? ⟨g, 2, none⟩ = some (.int .i64 lo) ∧ w.cell? ⟨g, 3, none⟩ = some (.int .i64 hi) ∧ w.cell? ⟨g, 4, none⟩ = some (.string (sof nm)) ∧ w.cell? ⟨g, 5, none⟩ = some (.int .i64 nu) :=
  ⟨h.cell 0, h.cell 1, h.cell 2, h.cell 3, h.cell 4, h.cell 5⟩
theorem PRow.set0 (h : PRow w g k m lo hi nm nu) (x : Int) : PRow (w.setCell ⟨g, 0, none⟩ (.int .i64 x)) g x m lo hi nm nu := by have := h.set 0 (.int .i64 x); simpa using this
theorem PRow.set1 (h : PRow w g k m lo hi nm nu) (x : Int) : PRow (w.setCell ⟨g, 1, none⟩ (.int .u64 x)) g k x lo hi nm nu := by have := h.set 1 (.int .u64 x); simpa using this
theorem PRow.set2 (h : PRow w g k m lo hi nm nu) (x : Int) : PRow (w.setCell ⟨g, 2, none⟩ (.int .i64 x)) g k m x hi nm nu := by have := h.set 2 (.int .i64 x); simpa using this
theorem PRow.set3 (h : PRow w g k m lo hi nm nu) (x : Int) : PRow (w.setCell ⟨g, 3, none⟩ (.int .i64 x)) g k m lo x nm nu := by have := h.set 3 (.int .i64 x); simpa using this
theorem PRow.set4 (h : PRow w g k m lo hi nm nu) (x : List B8) : PRow (w.setCell ⟨g, 4, none⟩ (.string (sof x))) g k m lo hi x nu := by have := h.set 4 (.string (sof x)); simpa using this
theorem PRow.set5 (h : PRow w g k m lo hi nm nu) (x : Int) : PRow (w.setCell ⟨g, 5, none⟩ (.int .i64 x)) g k m lo hi nm x := by have := h.set 5 (.int .i64 x); simpa using this
theorem PRow.set4z (h : PRow w g k m lo hi nm nu) : PRow (w.setCell ⟨g, 4, none⟩ (.string { data := #[] })) g k m lo hi [] nu := by rw [← sof_none]; exact h.set4 []
theorem PRow.frees (h : PRow w g k m lo hi nm nu) : w.frozen? ⟨g, 0, none⟩ = false ∧ w.frozen? ⟨g, 1, none⟩ = false ∧ w.frozen? ⟨g, 2, none⟩ = false ∧ w.frozen? ⟨g, 3, none⟩ = false ∧ w.frozen? ⟨g, 4, none⟩ = false ∧ w.frozen? ⟨g, 5, none⟩ = false :=
  ⟨h.frozen 0, h.frozen 1, h.frozen 2, h.frozen 3, h.frozen 4, h.frozen 5⟩
/-- All six cells are stored. -/
theorem PRow.sets (h : PRow w g k m lo hi nm nu) (k' m' lo' hi' : Int) (nm' : List B8) (nu' : Int) : PRow ((((((w.setCell ⟨g, 0, none⟩ (.int .i64 k')).setCell ⟨g, 1, none⟩ (.int .u64 m')).setCell ⟨g, 2, none⟩ (.int .i64 lo')).setCell ⟨g, 3, none⟩ (.int .i64 hi')).setCell ⟨g, 4, none⟩ (.string (sof nm'))).setCell ⟨g, 5, none⟩ (.int .i64 nu')) g k' m' lo' hi' nm' nu' :=
  (((((h.set0 k').set1 m').set2 lo').set3 hi').set4 nm').set5 nu'
theorem PRow.setsz (h : PRow w g k m lo hi nm nu) : PRow ((((((w.setCell ⟨g, 0, none⟩ (.int .i64 0)).setCell ⟨g, 1, none⟩ (.int .u64 0)).setCell ⟨g, 2, none⟩ (.int .i64 0)).setCell ⟨g, 3, none⟩ (.int .i64 0)).setCell ⟨g, 4, none⟩ (.string { data := #[] })).setCell ⟨g, 5, none⟩ (.int .i64 0)) g 0 0 0 0 [] 0 :=
  (((((h.set0 0).set1 0).set2 0).set3 0).set4z).set5 0
theorem below_sets {B : Nat} {W : World} (h : Below B W w) (hg : B ≤ g) (a b c d e f : Value) : Below B W ((((((w.setCell ⟨g, 0, none⟩ a).setCell ⟨g, 1, none⟩ b).setCell ⟨g, 2, none⟩ c).setCell ⟨g, 3, none⟩ d).setCell ⟨g, 4, none⟩ e).setCell ⟨g, 5, none⟩ f) :=
  (((((h.setCell (p := ⟨g, 0, none⟩) hg a).setCell (p := ⟨g, 1, none⟩) hg b).setCell (p := ⟨g, 2, none⟩) hg c).setCell (p := ⟨g, 3, none⟩) hg d).setCell (p := ⟨g, 4, none⟩) hg e).setCell (p := ⟨g, 5, none⟩) hg f
theorem PRow.of_zero (h : Whole w g 24 #[.int .i64 k, .int .u64 0, .int .i64 0, .int .i64 0, .string { data := #[] }, .int .i64 0]) : PRow w g k 0 0 0 [] 0 := by
  show Whole w g _ #[.int .i64 k, .int .u64 0, .int .i64 0, .int .i64 0, .string (sof []), .int .i64 0]
  rw [sof_none]; exact h
/-- A load of the whole predicate. -/
theorem wpList_load_prd {ops : Array Oper} {rest : List Oper} {o : Oper} {a : Act} {Q : Exit → Act → World → Prop} (hgd : o.guard = none) (x : Operand) (ho : o.op = .load 24 x)
    (hx : a.eval x = .pointer (some ⟨g, 0, none⟩)) (hg : PRow w g k m lo hi nm nu) (h : wpList Tryd.prog ops Q rest (a.put o.dst (.agg (prow k m lo hi nm nu))) w) : wpList Tryd.prog ops Q (o :: rest) a w :=
  wpList_load_row hgd 24 x ho g hx 24 _ (0, 0) _ hg Tryd.underlying24 rfl prdSize h
/-- A store of a whole predicate. -/
theorem wpList_store_prd {ops : Array Oper} {rest : List Oper} {o : Oper} {a : Act} {Q : Exit → Act → World → Prop} (hgd : o.guard = none) (x y : Operand) (ho : o.op = .store 24 x y)
    (hx : a.eval x = .pointer (some ⟨g, 0, none⟩)) {k' m' lo' hi' nu' : Int} {nm' : List B8} (hy : a.eval y = .agg (prow k' m' lo' hi' nm' nu')) (hg : PRow w g k m lo hi nm nu)
    (h : wpList Tryd.prog ops Q rest (a.put o.dst undef) (w.setRow g (prow k' m' lo' hi' nm' nu'))) : wpList Tryd.prog ops Q (o :: rest) a w :=
  wpList_store_row hgd 24 x y ho g _ hx hy 24 _ hg prdSize rfl (by simp [Value.oneCell']) h
theorem PRow.setRow (h : PRow w g k m lo hi nm nu) (k' m' lo' hi' : Int) (nm' : List B8) (nu' : Int) : PRow (w.setRow g (prow k' m' lo' hi' nm' nu')) g k' m' lo' hi' nm' nu' := Whole.setRow h _
theorem results_prd {fn : Func} {p : Tmp} (h : fn.results = #[.cell p 24]) (tmps : Array Value) (hp : tmps.getD p undef = .pointer (some ⟨g, 0, none⟩)) (hg : PRow w g k m lo hi nm nu) :
    (results fn tmps).run Tryd.prog w = .ok (.agg (prow k m lo hi nm nu)) w :=
  results_cell_row h tmps w g 24 _ (0, 0) _ hp hg Tryd.underlying24 rfl prdSize
theorem results_prd1 {fn : Func} {p q : Tmp} (h : fn.results = #[.cell p 24, .tmp q]) (tmps : Array Value) (hp : tmps.getD p undef = .pointer (some ⟨g, 0, none⟩)) (x : Value) (hq : tmps.getD q undef = x) (hg : PRow w g k m lo hi nm nu) :
    (results fn tmps).run Tryd.prog w = .ok (.tuple #[.agg (prow k m lo hi nm nu), x]) w := by
  have hp' : tmps[p]?.getD undef = .pointer (some ⟨g, 0, none⟩) := by simpa using hp
  have hq' : tmps[q]?.getD undef = x := by simpa using hq
  simp [results, h, hp', hq', asAddr, run_loadVar_row w g 24 24 _ (0, 0) _ hg Tryd.underlying24 rfl prdSize]
theorem results_prd2 {fn : Func} {p q r : Tmp} (h : fn.results = #[.cell p 24, .tmp q, .tmp r]) (tmps : Array Value) (hp : tmps.getD p undef = .pointer (some ⟨g, 0, none⟩)) (x y : Value) (hq : tmps.getD q undef = x) (hr : tmps.getD r undef = y) (hg : PRow w g k m lo hi nm nu) :
    (results fn tmps).run Tryd.prog w = .ok (.tuple #[.agg (prow k m lo hi nm nu), x, y]) w := by
  have hp' : tmps[p]?.getD undef = .pointer (some ⟨g, 0, none⟩) := by simpa using hp
  have hq' : tmps[q]?.getD undef = x := by simpa using hq
  have hr' : tmps[r]?.getD undef = y := by simpa using hr
  simp [results, h, hp', hq', hr', asAddr, run_loadVar_row w g 24 24 _ (0, 0) _ hg Tryd.underlying24 rfl prdSize]
end
end Go.Proofs.YtpodgmmgphibfaaDoor
