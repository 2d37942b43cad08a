/-
  A predicate in a block: loads, stores, results.
  A caveat in a block: loads, stores, results.
  Stores into a caveat.
  A slice of predicates: its cells.
  A row of predicates of the call's own; append to it.
-/
import Derived.Laws.Rows
import Derived.Laws.Tables
import Derived.Test.YtodmfippjcfbbaaPk6
import Derived.Test.YtodmfippjcfbbaaPk0
import Derived.Test.YtodmfippjcfbbaaPk1
namespace Go.Proofs.Ytodmfippjcfbbaa
open Go Go.RowKit Sh Leaf

/-- A predicate's cells. -/
abbrev prow (k m lo hi : Int) (nm : List B8) (nu : Int) : Array Value := #[.int .i64 k, .int .u64 m, .int .i64 lo, .int .i64 hi, .string (sof nm), .int .i64 nu]
theorem prdSize : (Try.prog.info? 24).map (·.size) = some 6 := by kernel_rfl
theorem pv_row (p : Prd) : pv p = .agg (prow p.kind p.mask p.lo p.hi p.name p.num) := by unfold pv; rfl
theorem prow_zero : prow 0 0 0 0 [] 0 = #[.int .i64 0, .int .u64 0, .int .i64 0, .int .i64 0, .string { data := #[] }, .int .i64 0] := by rw [← sof_none]
/-- The block g is the predicate's. -/
abbrev PRow (w : World) (g : Nat) (k m lo hi : Int) (nm : List B8) (nu : Int) : Prop := Whole w g 24 (prow k m lo hi nm nu)
section
variable {w : World} {g : Nat} {k m lo hi : Int} {nm : List B8} {nu : Int}
theorem PRow.cells (h : PRow w g k m lo hi nm nu) :
    w.cell? ⟨g, 0, none⟩ = some (.int .i64 k) ∧ w.cell? ⟨g, 1, none⟩ = some (.int .u64 m) ∧ w.cell? ⟨g, 2, none⟩ = some (.int .i64 lo) ∧ w.cell? ⟨g, 3, none⟩ = some (.int .i64 hi) ∧ w.cell? ⟨g, 4, none⟩ = some (.string (sof nm)) ∧ w.cell? ⟨g, 5, none⟩ = some (.int .i64 nu) :=
  ⟨h.cell 0, h.cell 1, h.cell 2, h.cell 3, h.cell 4, h.cell 5⟩
theorem PRow.set0 (h : PRow w g k m lo hi nm nu) (x : Int) : PRow (w.setCell ⟨g, 0, none⟩ (.int .i64 x)) g x m lo hi nm nu := by have := h.set 0 (.int .i64 x); simpa using this
theorem PRow.set1 (h : PRow w g k m lo hi nm nu) (x : Int) : PRow (w.setCell ⟨g, 1, none⟩ (.int .u64 x)) g k x lo hi nm nu := by have := h.set 1 (.int .u64 x); simpa using this
theorem PRow.set2 (h : PRow w g k m lo hi nm nu) (x : Int) : PRow (w.setCell ⟨g, 2, none⟩ (.int .i64 x)) g k m x hi nm nu := by have := h.set 2 (.int .i64 x); simpa using this
theorem PRow.set3 (h : PRow w g k m lo hi nm nu) (x : Int) : PRow (w.setCell ⟨g, 3, none⟩ (.int .i64 x)) g k m lo x nm nu := by have := h.set 3 (.int .i64 x); simpa using this
theorem PRow.set4 (h : PRow w g k m lo hi nm nu) (x : List B8) : PRow (w.setCell ⟨g, 4, none⟩ (.string (sof x))) g k m lo hi x nu := by have := h.set 4 (.string (sof x)); simpa using this
theorem PRow.set5 (h : PRow w g k m lo hi nm nu) (x : Int) : PRow (w.setCell ⟨g, 5, none⟩ (.int .i64 x)) g k m lo hi nm x := by have := h.set 5 (.int .i64 x); simpa using this
theorem PRow.set4z (h : PRow w g k m lo hi nm nu) : PRow (w.setCell ⟨g, 4, none⟩ (.string { data := #[] })) g k m lo hi [] nu := by rw [← sof_none]; exact h.set4 []
theorem PRow.frees (h : PRow w g k m lo hi nm nu) : w.frozen? ⟨g, 0, none⟩ = false ∧ w.frozen? ⟨g, 1, none⟩ = false ∧ w.frozen? ⟨g, 2, none⟩ = false ∧ w.frozen? ⟨g, 3, none⟩ = false ∧ w.frozen? ⟨g, 4, none⟩ = false ∧ w.frozen? ⟨g, 5, none⟩ = false :=
  ⟨h.frozen 0, h.frozen 1, h.frozen 2, h.frozen 3, h.frozen 4, h.frozen 5⟩
/-- All six cells are stored. -/
theorem PRow.sets (h : PRow w g k m lo hi nm nu) (k' m' lo' hi' : Int) (nm' : List B8) (nu' : Int) : PRow ((((((w.setCell ⟨g, 0, none⟩ (.int .i64 k')).setCell ⟨g, 1, none⟩ (.int .u64 m')).setCell ⟨g, 2, none⟩ (.int .i64 lo')).setCell ⟨g, 3, none⟩ (.int .i64 hi')).setCell ⟨g, 4, none⟩ (.string (sof nm'))).setCell ⟨g, 5, none⟩ (.int .i64 nu')) g k' m' lo' hi' nm' nu' :=
  (((((h.set0 k').set1 m').set2 lo').set3 hi').set4 nm').set5 nu'
theorem PRow.setsz (h : PRow w g k m lo hi nm nu) : PRow ((((((w.setCell ⟨g, 0, none⟩ (.int .i64 0)).setCell ⟨g, 1, none⟩ (.int .u64 0)).setCell ⟨g, 2, none⟩ (.int .i64 0)).setCell ⟨g, 3, none⟩ (.int .i64 0)).setCell ⟨g, 4, none⟩ (.string { data := #[] })).setCell ⟨g, 5, none⟩ (.int .i64 0)) g 0 0 0 0 [] 0 :=
  (((((h.set0 0).set1 0).set2 0).set3 0).set4z).set5 0
theorem below_sets {B : Nat} {W : World} (h : Below B W w) (hg : B ≤ g) (a b c d e f : Value) : Below B W ((((((w.setCell ⟨g, 0, none⟩ a).setCell ⟨g, 1, none⟩ b).setCell ⟨g, 2, none⟩ c).setCell ⟨g, 3, none⟩ d).setCell ⟨g, 4, none⟩ e).setCell ⟨g, 5, none⟩ f) :=
  (((((h.setCell (p := ⟨g, 0, none⟩) hg a).setCell (p := ⟨g, 1, none⟩) hg b).setCell (p := ⟨g, 2, none⟩) hg c).setCell (p := ⟨g, 3, none⟩) hg d).setCell (p := ⟨g, 4, none⟩) hg e).setCell (p := ⟨g, 5, none⟩) hg f
theorem PRow.of_zero (h : Whole w g 24 #[.int .i64 k, .int .u64 0, .int .i64 0, .int .i64 0, .string { data := #[] }, .int .i64 0]) : PRow w g k 0 0 0 [] 0 := by
  show Whole w g _ #[.int .i64 k, .int .u64 0, .int .i64 0, .int .i64 0, .string (sof []), .int .i64 0]
  rw [sof_none]; exact h
/-- A load of the whole predicate. -/
theorem wpList_load_prd {ops : Array Oper} {rest : List Oper} {o : Oper} {a : Act} {Q : Exit → Act → World → Prop} (hgd : o.guard = none) (x : Operand) (ho : o.op = .load 24 x)
    (hx : a.eval x = .pointer (some ⟨g, 0, none⟩)) (hg : PRow w g k m lo hi nm nu) (h : wpList Try.prog ops Q rest (a.put o.dst (.agg (prow k m lo hi nm nu))) w) : wpList Try.prog ops Q (o :: rest) a w :=
  wpList_load_row hgd 24 x ho g hx 24 _ (0, 0) _ hg Try.underlying24 rfl prdSize h
/-- A store of a whole predicate. -/
theorem wpList_store_prd {ops : Array Oper} {rest : List Oper} {o : Oper} {a : Act} {Q : Exit → Act → World → Prop} (hgd : o.guard = none) (x y : Operand) (ho : o.op = .store 24 x y)
    (hx : a.eval x = .pointer (some ⟨g, 0, none⟩)) {k' m' lo' hi' nu' : Int} {nm' : List B8} (hy : a.eval y = .agg (prow k' m' lo' hi' nm' nu')) (hg : PRow w g k m lo hi nm nu)
    (h : wpList Try.prog ops Q rest (a.put o.dst undef) (w.setRow g (prow k' m' lo' hi' nm' nu'))) : wpList Try.prog ops Q (o :: rest) a w :=
  wpList_store_row hgd 24 x y ho g _ hx hy 24 _ hg prdSize rfl (by simp [Value.oneCell']) h
theorem PRow.setRow (h : PRow w g k m lo hi nm nu) (k' m' lo' hi' : Int) (nm' : List B8) (nu' : Int) : PRow (w.setRow g (prow k' m' lo' hi' nm' nu')) g k' m' lo' hi' nm' nu' := Whole.setRow h _
theorem results_prd {fn : Func} {p : Tmp} (h : fn.results = #[.cell p 24]) (tmps : Array Value) (hp : tmps.getD p undef = .pointer (some ⟨g, 0, none⟩)) (hg : PRow w g k m lo hi nm nu) :
    (results fn tmps).run Try.prog w = .ok (.agg (prow k m lo hi nm nu)) w :=
  results_cell_row h tmps w g 24 _ (0, 0) _ hp hg Try.underlying24 rfl prdSize
theorem results_prd1 {fn : Func} {p q : Tmp} (h : fn.results = #[.cell p 24, .tmp q]) (tmps : Array Value) (hp : tmps.getD p undef = .pointer (some ⟨g, 0, none⟩)) (x : Value) (hq : tmps.getD q undef = x) (hg : PRow w g k m lo hi nm nu) :
    (results fn tmps).run Try.prog w = .ok (.tuple #[.agg (prow k m lo hi nm nu), x]) w := by
  have hp' : tmps[p]?.getD undef = .pointer (some ⟨g, 0, none⟩) := by simpa using hp
  have hq' : tmps[q]?.getD undef = x := by simpa using hq
  simp [results, h, hp', hq', asAddr, run_loadVar_row w g 24 24 _ (0, 0) _ hg Try.underlying24 rfl prdSize]
theorem results_prd2 {fn : Func} {p q r : Tmp} (h : fn.results = #[.cell p 24, .tmp q, .tmp r]) (tmps : Array Value) (hp : tmps.getD p undef = .pointer (some ⟨g, 0, none⟩)) (x y : Value) (hq : tmps.getD q undef = x) (hr : tmps.getD r undef = y) (hg : PRow w g k m lo hi nm nu) :
    (results fn tmps).run Try.prog w = .ok (.tuple #[.agg (prow k m lo hi nm nu), x, y]) w := by
  have hp' : tmps[p]?.getD undef = .pointer (some ⟨g, 0, none⟩) := by simpa using hp
  have hq' : tmps[q]?.getD undef = x := by simpa using hq
  have hr' : tmps[r]?.getD undef = y := by simpa using hr
  simp [results, h, hp', hq', hr', asAddr, run_loadVar_row w g 24 24 _ (0, 0) _ hg Try.underlying24 rfl prdSize]
end
end Go.Proofs.Ytodmfippjcfbbaa
namespace Go.Proofs.Ytodmfippjcfbbaa
open Go Go.RowKit Sh Leaf

/-- A caveat's cells. -/
abbrev cvrow (th : Bool) (p : Prd) (pa : Int) (vt vb : Value) : Array Value := #[.bool th, .int .i64 p.kind, .int .u64 (p.mask : Int), .int .i64 p.lo, .int .i64 p.hi, .string (sof p.name), .int .i64 p.num, .int .i64 pa, vt, vb]
theorem cavSize : (Try.prog.info? 27).map (·.size) = some 10 := by kernel_rfl
/-- The block g is the caveat's. -/
abbrev CvRow (w : World) (g : Nat) (th : Bool) (p : Prd) (pa : Int) (vt vb : Value) : Prop := Whole w g 27 (cvrow th p pa vt vb)
/-- The parts of a caveat that calls ask for. -/
def Cwf (c : Cav) : Prop := c.first.mask < 18446744073709551616 ∧ c.first.name.length ≤ 9223372036854775807 ∧ c.ticket.length ≤ 5000 ∧ c.box.length ≤ 5000
/-- The value v is the caveat c. -/
def CavV (w : World) (Q : Nat → Prop) (v : Value) (c : Cav) : Prop := ∃ A1 c1 A2 c2, v = .agg (cvrow c.third c.first c.party (.slice A1 c.ticket.length c1) (.slice A2 c.box.length c2)) ∧ Bytes w Q (.slice A1 c.ticket.length c1) c.ticket ∧ Bytes w Q (.slice A2 c.box.length c2) c.box ∧ Cwf c
theorem cvrow_size (th : Bool) (p : Prd) (pa : Int) (vt vb : Value) : (cvrow th p pa vt vb).size = 10 := rfl
theorem cvrow_zero : cvrow false .zero 0 (.slice none 0 0) (.slice none 0 0) = #[.bool false, .int .i64 0, .int .u64 0, .int .i64 0, .int .i64 0, .string { data := #[] }, .int .i64 0, .int .i64 0, .slice none 0 0, .slice none 0 0] := by
  unfold cvrow
  rw [← sof_none]
  rfl
section
variable {w w' : World} {g B : Nat} {th : Bool} {p : Prd} {pa : Int} {vt vb : Value} {Q Q' : Nat → Prop} {v : Value} {c : Cav}
theorem CavV.mono (h : CavV w Q v c) (k : ∀ b, b < w.heap.size → Q b → Q' b) : CavV w Q' v c := by
  obtain ⟨A1, c1, A2, c2, e, h1, h2, h3⟩ := h
  exact ⟨A1, c1, A2, c2, e, h1.mono k, h2.mono k, h3⟩
theorem CavV.below (h : CavV w Q v c) (hb : Below B w w') (hB : w.heap.size ≤ B) : CavV w' Q v c := by
  obtain ⟨A1, c1, A2, c2, e, h1, h2, h3⟩ := h
  exact ⟨A1, c1, A2, c2, e, h1.below hb hB, h2.below hb hB, h3⟩
theorem CavV.wf (h : CavV w Q v c) : Cwf c := by obtain ⟨_, _, _, _, _, _, _, h⟩ := h; exact h
theorem CavV.zero (w : World) (Q : Nat → Prop) : CavV w Q (.agg (cvrow false .zero 0 (.slice none 0 0) (.slice none 0 0))) .zero := ⟨none, 0, none, 0, rfl, Bytes.nil _ _, Bytes.nil _ _, by unfold Cwf; simp⟩
theorem CvRow.cells (h : CvRow w g th p pa vt vb) :
    w.cell? ⟨g, 0, none⟩ = some (.bool th) ∧ w.cell? ⟨g, 7, none⟩ = some (.int .i64 pa) ∧ w.cell? ⟨g, 8, none⟩ = some vt ∧ w.cell? ⟨g, 9, none⟩ = some vb := ⟨h.cell 0, h.cell 7, h.cell 8, h.cell 9⟩
theorem CvRow.prd (h : CvRow w g th p pa vt vb) : w.rangeAt g 1 [.int .i64 p.kind, .int .u64 (p.mask : Int), .int .i64 p.lo, .int .i64 p.hi, .string (sof p.name), .int .i64 p.num] := fun j x hj => by
  match j, hj with
  | 0, hj => rw [← hj]; exact h.cell 1
  | 1, hj => rw [← hj]; exact h.cell 2
  | 2, hj => rw [← hj]; exact h.cell 3
  | 3, hj => rw [← hj]; exact h.cell 4
  | 4, hj => rw [← hj]; exact h.cell 5
  | 5, hj => rw [← hj]; exact h.cell 6
  | n + 6, hj => simp at hj
theorem pv_list (p : Prd) : pv p = .agg ([.int .i64 p.kind, .int .u64 (p.mask : Int), .int .i64 p.lo, .int .i64 p.hi, .string (sof p.name), .int .i64 p.num] : List Value).toArray := by rw [pv_row]
/-- A load of the whole caveat. -/
theorem wpList_load_cav {ops : Array Oper} {rest : List Oper} {o : Oper} {a : Act} {Q : Exit → Act → World → Prop} (hgd : o.guard = none) (x : Operand) (ho : o.op = .load 27 x)
    (hx : a.eval x = .pointer (some ⟨g, 0, none⟩)) (hg : CvRow w g th p pa vt vb) (h : wpList Try.prog ops Q rest (a.put o.dst (.agg (cvrow th p pa vt vb))) w) : wpList Try.prog ops Q (o :: rest) a w :=
  wpList_load_row hgd 27 x ho g hx 27 _ (0, 0) _ hg Try.underlying27 rfl cavSize h
/-- A load of its predicate. -/
theorem wpList_load_cprd {ops : Array Oper} {rest : List Oper} {o : Oper} {a : Act} {Q : Exit → Act → World → Prop} (hgd : o.guard = none) (x : Operand) (ho : o.op = .load 24 x)
    (hx : a.eval x = .pointer (some ⟨g, 1, none⟩)) (hg : CvRow w g th p pa vt vb) (h : wpList Try.prog ops Q rest (a.put o.dst (pv p)) w) : wpList Try.prog ops Q (o :: rest) a w := by
  refine wpList_load_mid hgd 24 x ho g 1 hx _ _ (CvRow.prd hg) Try.underlying24 rfl (by rw [prdSize]; rfl) ?_
  rw [pv_list] at h
  exact h
/-- A store of a whole caveat. -/
theorem wpList_store_cav {ops : Array Oper} {rest : List Oper} {o : Oper} {a : Act} {Q : Exit → Act → World → Prop} (hgd : o.guard = none) (x y : Operand) (ho : o.op = .store 27 x y)
    (hx : a.eval x = .pointer (some ⟨g, 0, none⟩)) {th' : Bool} {p' : Prd} {pa' : Int} {A1 A2 : Option Addr} {n1 n2 c1 c2 : Nat} (hy : a.eval y = .agg (cvrow th' p' pa' (.slice A1 n1 c1) (.slice A2 n2 c2))) {cs : Array Value} (hg : Whole w g 27 cs) (hcs : cs.size = 10)
    (h : wpList Try.prog ops Q rest (a.put o.dst undef) (w.setRow g (cvrow th' p' pa' (.slice A1 n1 c1) (.slice A2 n2 c2)))) : wpList Try.prog ops Q (o :: rest) a w :=
  wpList_store_row hgd 27 x y ho g _ hx hy 27 _ hg (by rw [cavSize]; rfl) (by rw [hcs]; rfl) (by simp [Value.oneCell']) h
theorem results_cav {fn : Func} {q : Tmp} (h : fn.results = #[.cell q 27]) (tmps : Array Value) (hp : tmps.getD q undef = .pointer (some ⟨g, 0, none⟩)) (hg : CvRow w g th p pa vt vb) :
    (results fn tmps).run Try.prog w = .ok (.agg (cvrow th p pa vt vb)) w :=
  results_cell_row h tmps w g 27 _ (0, 0) _ hp hg Try.underlying27 rfl cavSize
theorem results_cav2 {fn : Func} {q r s : Tmp} (h : fn.results = #[.cell q 27, .tmp r, .tmp s]) (tmps : Array Value) (hp : tmps.getD q undef = .pointer (some ⟨g, 0, none⟩)) (x y : Value) (hq : tmps.getD r undef = x) (hr : tmps.getD s undef = y) (hg : CvRow w g th p pa vt vb) :
    (results fn tmps).run Try.prog w = .ok (.tuple #[.agg (cvrow th p pa vt vb), x, y]) w := by
  have hp' : tmps[q]?.getD undef = .pointer (some ⟨g, 0, none⟩) := by simpa using hp
  have hq' : tmps[r]?.getD undef = x := by simpa using hq
  have hr' : tmps[s]?.getD undef = y := by simpa using hr
  simp [results, h, hp', hq', hr', asAddr, run_loadVar_row w g 27 27 _ (0, 0) _ hg Try.underlying27 rfl cavSize]
end
theorem guard_row (x y : Operand) (ds cs : Array Value) (w : World) : (eqGuard .eql 24 x y (.agg ds) (.agg cs)).run Try.prog w = .ok () w := by
  have h : Try.prog.eqGuardType Try.prog.depth 24 = false := by kernel_rfl
  simp [eqGuard, h]
theorem guard_rown (x y : Operand) (ds cs : Array Value) (w : World) : (eqGuard .neq 24 x y (.agg ds) (.agg cs)).run Try.prog w = .ok () w := by
  have h : Try.prog.eqGuardType Try.prog.depth 24 = false := by kernel_rfl
  simp [eqGuard, h]
theorem guard_prd (x y : Operand) (p : Prd) (cs : Array Value) (w : World) : (eqGuard .eql 24 x y (pv p) (.agg cs)).run Try.prog w = .ok () w := by rw [pv_row]; exact guard_row x y _ _ w
theorem guard_prds (x y : Operand) (p q : Prd) (w : World) : (eqGuard .eql 24 x y (pv p) (pv q)).run Try.prog w = .ok () w := by rw [pv_row, pv_row]; exact guard_row x y _ _ w
theorem guard_prdn (x y : Operand) (p q : Prd) (w : World) : (eqGuard .neq 24 x y (pv p) (pv q)).run Try.prog w = .ok () w := by rw [pv_row, pv_row]; exact guard_rown x y _ _ w
theorem eql_zero (p : Prd) (w : World) : (binOp .eql 24 (pv p) (.agg #[.int .i64 0, .int .u64 0, .int .i64 0, .int .i64 0, .string { data := #[] }, .int .i64 0])).run Try.prog w = .ok (.bool (decide (p = .zero))) w := by
  have h := run_eql_prd0 p.kind (p.mask : Int) p.lo p.hi p.num 0 0 0 0 0 p.name w
  rw [pv_row]
  rw [h]
  have e : (p.kind = 0 ∧ (p.mask : Int) = 0 ∧ p.lo = 0 ∧ p.hi = 0 ∧ p.name = [] ∧ p.num = 0) ↔ p = .zero := by
    obtain ⟨a, b, c, d, n, f⟩ := p
    simp only [Prd.mk.injEq]
    constructor
    · rintro ⟨h1, h2, h3, h4, h5, h6⟩
      exact ⟨h1, by omega, h3, h4, h5, h6⟩
    · rintro ⟨h1, h2, h3, h4, h5, h6⟩
      exact ⟨h1, by omega, h3, h4, h5, h6⟩
  simp only [e]
theorem cavCells (th : Bool) (p : Prd) (pa : Int) (A1 A2 : Option Addr) (n1 c1 n2 c2 : Nat) : (cvrow th p pa (.slice A1 n1 c1) (.slice A2 n2 c2)).all (·.oneCell') = true := by simp [Value.oneCell']
theorem cav_range {w : World} {g : Nat} {cc : Cav} {vt vb : Value} (h : CvRow w g cc.third cc.first cc.party vt vb) : w.rangeAt g 0 [.bool cc.third, .int .i64 cc.first.kind, .int .u64 (cc.first.mask : Int), .int .i64 cc.first.lo, .int .i64 cc.first.hi, .string (sof cc.first.name), .int .i64 cc.first.num, .int .i64 cc.party, vt, vb] := fun j x hj => by
  rw [Nat.zero_add, Whole.cell h]
  unfold cvrow
  rw [List.getElem?_toArray]
  exact hj
end Go.Proofs.Ytodmfippjcfbbaa
namespace Go.Proofs.Ytodmfippjcfbbaa
open Go Go.RowKit Sh Leaf

theorem CvRow.sets {w : World} {g : Nat} {th : Bool} {p : Prd} {pa : Int} {vt vb : Value} (h : CvRow w g th p pa vt vb) (q : Prd) :
    CvRow ((((((w.setCell ⟨g, 1, none⟩ (.int .i64 q.kind)).setCell ⟨g, 2, none⟩ (.int .u64 (q.mask : Int))).setCell ⟨g, 3, none⟩ (.int .i64 q.lo)).setCell ⟨g, 4, none⟩ (.int .i64 q.hi)).setCell ⟨g, 5, none⟩ (.string (sof q.name))).setCell ⟨g, 6, none⟩ (.int .i64 q.num)) g th q pa vt vb := by
  have := (((((h.set 1 (.int .i64 q.kind)).set 2 (.int .u64 (q.mask : Int))).set 3 (.int .i64 q.lo)).set 4 (.int .i64 q.hi)).set 5 (.string (sof q.name))).set 6 (.int .i64 q.num)
  simpa using this
theorem CvRow.set0 {w : World} {g : Nat} {th : Bool} {p : Prd} {pa : Int} {vt vb : Value} (h : CvRow w g th p pa vt vb) (x : Bool) : CvRow (w.setCell ⟨g, 0, none⟩ (.bool x)) g x p pa vt vb := by have := h.set 0 (.bool x); simpa using this
theorem CvRow.set7 {w : World} {g : Nat} {th : Bool} {p : Prd} {pa : Int} {vt vb : Value} (h : CvRow w g th p pa vt vb) (x : Int) : CvRow (w.setCell ⟨g, 7, none⟩ (.int .i64 x)) g th p x vt vb := by have := h.set 7 (.int .i64 x); simpa using this
theorem CvRow.set8 {w : World} {g : Nat} {th : Bool} {p : Prd} {pa : Int} {vt vb : Value} (h : CvRow w g th p pa vt vb) (x : Value) : CvRow (w.setCell ⟨g, 8, none⟩ x) g th p pa x vb := by have := h.set 8 x; simpa using this
theorem CvRow.set9 {w : World} {g : Nat} {th : Bool} {p : Prd} {pa : Int} {vt vb : Value} (h : CvRow w g th p pa vt vb) (x : Value) : CvRow (w.setCell ⟨g, 9, none⟩ x) g th p pa vt x := by have := h.set 9 x; simpa using this
end Go.Proofs.Ytodmfippjcfbbaa
namespace Go.Proofs.Ytodmfippjcfbbaa
open Go Go.RowKit Sh Leaf

/-- A predicate's cells. -/
def pcl (p : Prd) : List Value := [.int .i64 p.kind, .int .u64 (p.mask : Int), .int .i64 p.lo, .int .i64 p.hi, .string (sof p.name), .int .i64 p.num]
/-- The cells of a list of predicates. -/
def pcs (l : List Prd) : List Value := l.flatMap pcl
theorem pcl_length (p : Prd) : (pcl p).length = 6 := rfl
theorem pcs_length (l : List Prd) : (pcs l).length = l.length * 6 := by
  induction l with
  | nil => rfl
  | cons p t ih => rw [pcs, List.flatMap_cons, List.length_append, pcl_length]; rw [pcs] at ih; rw [ih, List.length_cons]; omega
theorem pcs_cons (p : Prd) (t : List Prd) : pcs (p :: t) = pcl p ++ pcs t := by rw [pcs, List.flatMap_cons]; rfl
theorem pcs_append (a b : List Prd) : pcs (a ++ b) = pcs a ++ pcs b := by rw [pcs, List.flatMap_append]; rfl
theorem pcs_at : ∀ (l : List Prd) (j : Nat) (p : Prd), l[j]? = some p → ∀ i v, (pcl p)[i]? = some v → (pcs l)[j * 6 + i]? = some v
  | [], j, p, h, _, _, _ => by simp at h
  | q :: t, 0, p, h, i, v, hv => by
    simp at h
    subst h
    rw [pcs_cons, Nat.zero_mul, Nat.zero_add, List.getElem?_append_left (by have := (List.getElem?_eq_some_iff.1 hv).1; exact this), hv]
  | q :: t, j + 1, p, h, i, v, hv => by
    rw [pcs_cons, List.getElem?_append_right (by rw [pcl_length]; omega), pcl_length, show (j + 1) * 6 + i - 6 = j * 6 + i by omega]
    exact pcs_at t j p (by simpa using h) i v hv
theorem pok_name_le {p : Prd} (h : pok p) : p.name.length ≤ 16 := by
  unfold pok at h
  rcases h with h | h | h | h | h | h | h
  · simp [h.2.2.2.2.1]
  · simp [h.2.2.2.2.2.1]
  · simp [h.2.2.2.2.2.1]
  · simp [h.2.2.2.2.2.1]
  · simp [h.2.2.2.2.2.2.1]
  · exact h.2.2.2.2.1.2.1
  · simp [h.2.2.2.2.1]
/-- A predicate of a program: its mask is a word, its name a string. -/
def pbd (p : Prd) : Prop := p.mask < 18446744073709551616 ∧ p.name.length ≤ 9223372036854775807
/-- The slice value .slice A l.length c reads as the predicates l; its cells lie in a block of which Q holds. -/
def Prds (w : World) (Q : Nat → Prop) (A : Option Addr) (c : Nat) (l : List Prd) : Prop :=
  l.length ≤ c ∧ c ≤ maxLen ∧ (A = none → c = 0) ∧ (∀ p ∈ l, pbd p) ∧ (0 < l.length → ∃ g o, A = some ⟨g, o, none⟩ ∧ Q g ∧ g < w.heap.size ∧ w.rangeAt g o (pcs l))
section
variable {w w' : World} {Q Q' : Nat → Prop} {A : Option Addr} {c : Nat} {l : List Prd}
theorem Prds.keep (h : Prds w Q A c l) (hs : w.heap.size ≤ w'.heap.size) (hk : ∀ g, g < w.heap.size → Q g → w'.heap[g]? = w.heap[g]?) : Prds w' Q A c l := by
  obtain ⟨h1, h2, h3, h4, h5⟩ := h
  refine ⟨h1, h2, h3, h4, fun hl => ?_⟩
  obtain ⟨g, o, hA, hq, hg, hc⟩ := h5 hl
  refine ⟨g, o, hA, hq, by omega, fun j v hj => ?_⟩
  rw [← hc j v hj]
  exact World.cell?_of_block (w := w) (hk g hg hq)
theorem Prds.below {B : Nat} (h : Prds w Q A c l) (hb : Below B w w') (hB : w.heap.size ≤ B) : Prds w' Q A c l := h.keep hb.size fun g hg _ => hb.block g (by omega)
theorem Prds.alloc (h : Prds w Q A c l) (o : Obj) : Prds (w.alloc o) Q A c l := h.below ((Below.refl w.heap.size w).alloc (Nat.le_refl _) o) (Nat.le_refl _)
theorem Prds.mono (h : Prds w Q A c l) (hq : ∀ g, g < w.heap.size → Q g → Q' g) : Prds w Q' A c l := by
  obtain ⟨h1, h2, h3, h4, h5⟩ := h
  refine ⟨h1, h2, h3, h4, fun hl => ?_⟩
  obtain ⟨g, o, hA, hg, hlt, hc⟩ := h5 hl
  exact ⟨g, o, hA, hq g hlt hg, hlt, hc⟩
theorem Prds.nil (w : World) (Q : Nat → Prop) : Prds w Q none 0 [] := ⟨by simp, by simp [maxLen], fun _ => rfl, fun p h => by simp at h, fun h => absurd h (by simp)⟩
/-- Element j: its six cells. -/
theorem Prds.get (h : Prds w Q A c l) (j : Nat) (p : Prd) (hj : l[j]? = some p) : ∃ g o, A = some ⟨g, o, none⟩ ∧ Q g ∧ g < w.heap.size ∧ w.cell? ⟨g, o + j * 6, none⟩ = some (.int .i64 p.kind) ∧ w.cell? ⟨g, o + j * 6 + 1, none⟩ = some (.int .u64 (p.mask : Int)) ∧ w.cell? ⟨g, o + j * 6 + 2, none⟩ = some (.int .i64 p.lo) ∧ w.cell? ⟨g, o + j * 6 + 3, none⟩ = some (.int .i64 p.hi) ∧ w.cell? ⟨g, o + j * 6 + 4, none⟩ = some (.string (sof p.name)) ∧ w.cell? ⟨g, o + j * 6 + 5, none⟩ = some (.int .i64 p.num) := by
  obtain ⟨h1, h2, h3, h4, h5⟩ := h
  have hlt := (List.getElem?_eq_some_iff.1 hj).1
  obtain ⟨g, o, hA, hg, hl, hc⟩ := h5 (by omega)
  have e := pcs_at l j p hj
  have f := fun i v hv => hc (j * 6 + i) v (e i v hv)
  refine ⟨g, o, hA, hg, hl, f 0 _ rfl, ?_, ?_, ?_, ?_, ?_⟩
  · rw [Nat.add_assoc]; exact f 1 _ rfl
  · rw [Nat.add_assoc]; exact f 2 _ rfl
  · rw [Nat.add_assoc]; exact f 3 _ rfl
  · rw [Nat.add_assoc]; exact f 4 _ rfl
  · rw [Nat.add_assoc]; exact f 5 _ rfl
end
end Go.Proofs.Ytodmfippjcfbbaa
namespace Go.Proofs.Ytodmfippjcfbbaa
open Go Go.RowKit Sh Leaf

/-- The slice v has the predicates l at the head of a block of the call's own (from 'base' on), or is nil. -/
abbrev OwnP (w : World) (base : Nat) (v : Value) (l : List Prd) : Prop := w.ownsRow base 24 6 v l.length (pcs l)
theorem ownp_nil (w : World) (base : Nat) : OwnP w base (.slice none 0 0) [] := ⟨by simp [pcs], .inl ⟨rfl, by simp⟩⟩
theorem OwnP.prds {w : World} {base : Nat} {v : Value} {l : List Prd} (h : OwnP w base v l) (hl : ∀ p ∈ l, pbd p) : ∃ A c, v = .slice A l.length c ∧ Prds w (fun g => base ≤ g) A c l := by
  rcases h.2 with ⟨rfl, h0⟩ | ⟨g, cap, cur, rfl, hg, hh, hc, hm, hs, ht⟩
  · have : l = [] := List.eq_nil_of_length_eq_zero h0
    subst this
    exact ⟨none, 0, rfl, Prds.nil _ _⟩
  · have hlt : g < w.heap.size := by
      rcases Nat.lt_or_ge g w.heap.size with h | h
      · exact h
      · rw [Array.getElem?_eq_none h] at hh; cases hh
    refine ⟨_, cap, rfl, hc, hm, fun h => (by cases h), hl, fun _ => ⟨g, 0, rfl, hg, hlt, fun j v hj => ?_⟩⟩
    rw [Nat.zero_add, cell_of_row w g j cur _ _ hh]
    rw [← ht, List.getElem?_take] at hj
    split at hj
    · simpa using hj
    · cases hj
theorem prdInfo : (Try.prog.info? 24).map (fun i => (i.zero, i.size, i.bytes)) = some (some (.agg #[.int .i64 0, .int .u64 0, .int .i64 0, .int .i64 0, .string { data := #[] }, .int .i64 0]), 6, 56) := by kernel_rfl
theorem pcl_one (p : Prd) : ∀ v ∈ pcl p, v.oneCell' = true := by
  intro v hv
  simp [pcl] at hv
  rcases hv with rfl | rfl | rfl | rfl | rfl | rfl <;> rfl
theorem pcs_one (l : List Prd) : ∀ v ∈ pcs l, v.oneCell' = true := by
  intro v hv
  obtain ⟨p, _, h⟩ := List.mem_flatMap.1 hv
  exact pcl_one p v h
/-- append(own, predicates...): what the source reads as is given by its cells. -/
theorem wpList_append_prds {w : World} {ops : Array Oper} {rest : List Oper} {o : Oper} {a : Act} {R : Exit → Act → World → Prop} (hgd : o.guard = none) (s x : Operand)
    (ho : o.op = .call { callee := .builtin .append, args := #[s, x], argTypes := #[37, 37] })
    (base : Nat) (v : Value) (l : List Prd) (hs : a.eval s = v) (hown : OwnP w base v l) (g o2 c : Nat) (ys : List Prd) (hx : a.eval x = .slice (some ⟨g, o2, none⟩) ys.length c) (hg : w.rangeAt g o2 (pcs ys))
    (h47 : l.length + ys.length ≤ 1000000000) (hbase : base ≤ w.heap.size)
    (h : ∀ v' w', OwnP w' base v' (l ++ ys) → Below base w w' → wpList Try.prog ops R rest (a.put o.dst v') w') : wpList Try.prog ops R (o :: rest) a w := by
  obtain ⟨i0, hi, hz0, hz1, hz2⟩ := info_parts prdInfo
  refine wpList_append_own w hgd s x 37 ho base 24 i0 (.agg #[.int .i64 0, .int .u64 0, .int .i64 0, .int .i64 0, .string { data := #[] }, .int .i64 0]) 6 56 Try.underlying37 hi hz0 hz1 hz2 rfl (by decide) v l.length (pcs l) hs hown ⟨g, o2, none⟩ ys.length c (pcs ys) hx (pcs_length ys) (fun j u hj => by rw [Addr.add_mid]; exact hg j u hj) (pcs_one ys) (by unfold maxLen; omega) (by omega) hbase fun v' w' h1 h2 _ => ?_
  refine h v' w' ?_ ((Below.refl _ _).grown h2 hbase (fun k hk => (hown.lt k hk).1))
  show w'.ownsRow base _ 6 v' (l ++ ys).length (pcs (l ++ ys))
  rw [List.length_append, pcs_append]
  exact h1
theorem range_one {w : World} {g : Nat} {p : Prd} (h : PRow w g p.kind p.mask p.lo p.hi p.name p.num) : w.rangeAt g 0 (pcs [p]) := fun j v hj => by
  rw [Nat.zero_add, h.cell]
  have e : pcs [p] = pcl p := by simp [pcs]
  rw [e] at hj
  rw [← hj]
  simp [pcl]
end Go.Proofs.Ytodmfippjcfbbaa
