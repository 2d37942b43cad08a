/-
  KPrd
  KCav
-/
import Derived.Laws.Rows
import Derived.Laws.Tables
import Derived.Test.YtiikhjifjdpgdaaDoorPk5
import Derived.Test.YtiikhjifjdpgdaaDoorPk0
import Derived.Test.YtiikhjifjdpgdaaDoorPk3
namespace Go.Proofs.YtiikhjifjdpgdaaDoor
open Go Go.RowKit Sh Leaf

abbrev prow (k m lo hi : Int) (nm : List B8) (nu : Int) : Array Value := #[.int .i64 k, .int .u64 m, .int .i64 lo, .int .i64 hi, .string (sof nm), .int .i64 nu]
theorem prdSize : (Tryd.prog.info? 57).map (·.size) = some 6 := by kernel_rfl
theorem pv_row (p : Prd) : pv p = .agg (prow p.kind p.mask p.lo p.hi p.name p.num) := by unfold pv; rfl
abbrev PRow (w : World) (g : Nat) (k m lo hi : Int) (nm : List B8) (nu : Int) : Prop := Whole w g 57 (prow k m lo hi nm nu)
section
variable {w : World} {g : Nat} {k m lo hi : Int} {nm : List B8} {nu : Int}
theorem PRow.cells (h : PRow w g k m lo hi nm nu) :
    w.cell? ⟨g, 0, none⟩ = some (.int .i64 k) ∧ w.cell? ⟨g, 1, none⟩ = some (.int .u64 m) ∧ w.cell? ⟨g, 2, none⟩ = some (.int .i64 lo) ∧ w.cell? ⟨g, 3, none⟩ = some (.int .i64 hi) ∧ w.cell? ⟨g, 4, none⟩ = some (.string (sof nm)) ∧ w.cell? ⟨g, 5, none⟩ = some (.int .i64 nu) :=
  ⟨h.cell 0, h.cell 1, h.cell 2, h.cell 3, h.cell 4, h.cell 5⟩
theorem PRow.set1 (h : PRow w g k m lo hi nm nu) (x : Int) : PRow (w.setCell ⟨g, 1, none⟩ (.int .u64 x)) g k x lo hi nm nu := by have := h.set 1 (.int .u64 x); simpa using this
theorem PRow.set2 (h : PRow w g k m lo hi nm nu) (x : Int) : PRow (w.setCell ⟨g, 2, none⟩ (.int .i64 x)) g k m x hi nm nu := by have := h.set 2 (.int .i64 x); simpa using this
theorem PRow.set3 (h : PRow w g k m lo hi nm nu) (x : Int) : PRow (w.setCell ⟨g, 3, none⟩ (.int .i64 x)) g k m lo x nm nu := by have := h.set 3 (.int .i64 x); simpa using this
theorem PRow.set4 (h : PRow w g k m lo hi nm nu) (x : List B8) : PRow (w.setCell ⟨g, 4, none⟩ (.string (sof x))) g k m lo hi x nu := by have := h.set 4 (.string (sof x)); simpa using this
theorem PRow.set5 (h : PRow w g k m lo hi nm nu) (x : Int) : PRow (w.setCell ⟨g, 5, none⟩ (.int .i64 x)) g k m lo hi nm x := by have := h.set 5 (.int .i64 x); simpa using this
theorem PRow.frees (h : PRow w g k m lo hi nm nu) : w.frozen? ⟨g, 0, none⟩ = false ∧ w.frozen? ⟨g, 1, none⟩ = false ∧ w.frozen? ⟨g, 2, none⟩ = false ∧ w.frozen? ⟨g, 3, none⟩ = false ∧ w.frozen? ⟨g, 4, none⟩ = false ∧ w.frozen? ⟨g, 5, none⟩ = false :=
  ⟨h.frozen 0, h.frozen 1, h.frozen 2, h.frozen 3, h.frozen 4, h.frozen 5⟩
theorem PRow.of_zero (h : Whole w g 57 #[.int .i64 k, .int .u64 0, .int .i64 0, .int .i64 0, .string { data := #[] }, .int .i64 0]) : PRow w g k 0 0 0 [] 0 := by
  show Whole w g _ #[.int .i64 k, .int .u64 0, .int .i64 0, .int .i64 0, .string (sof []), .int .i64 0]
  rw [sof_none]; exact h
theorem wpList_load_prd {ops : Array Oper} {rest : List Oper} {o : Oper} {a : Act} {Q : Exit → Act → World → Prop} (hgd : o.guard = none) (x : Operand) (ho : o.op = .load 57 x)
    (hx : a.eval x = .pointer (some ⟨g, 0, none⟩)) (hg : PRow w g k m lo hi nm nu) (h : wpList Tryd.prog ops Q rest (a.put o.dst (.agg (prow k m lo hi nm nu))) w) : wpList Tryd.prog ops Q (o :: rest) a w :=
  wpList_load_row hgd 57 x ho g hx 57 _ (0, 0) _ hg Tryd.underlying57 rfl prdSize h
theorem wpList_store_prd {ops : Array Oper} {rest : List Oper} {o : Oper} {a : Act} {Q : Exit → Act → World → Prop} (hgd : o.guard = none) (x y : Operand) (ho : o.op = .store 57 x y)
    (hx : a.eval x = .pointer (some ⟨g, 0, none⟩)) {k' m' lo' hi' nu' : Int} {nm' : List B8} (hy : a.eval y = .agg (prow k' m' lo' hi' nm' nu')) (hg : PRow w g k m lo hi nm nu)
    (h : wpList Tryd.prog ops Q rest (a.put o.dst undef) (w.setRow g (prow k' m' lo' hi' nm' nu'))) : wpList Tryd.prog ops Q (o :: rest) a w :=
  wpList_store_row hgd 57 x y ho g _ hx hy 57 _ hg prdSize rfl (by simp [Value.oneCell']) h
theorem PRow.setRow (h : PRow w g k m lo hi nm nu) (k' m' lo' hi' : Int) (nm' : List B8) (nu' : Int) : PRow (w.setRow g (prow k' m' lo' hi' nm' nu')) g k' m' lo' hi' nm' nu' := Whole.setRow h _
theorem results_prd {fn : Func} {p : Tmp} (h : fn.results = #[.cell p 57]) (tmps : Array Value) (hp : tmps.getD p undef = .pointer (some ⟨g, 0, none⟩)) (hg : PRow w g k m lo hi nm nu) :
    (results fn tmps).run Tryd.prog w = .ok (.agg (prow k m lo hi nm nu)) w :=
  results_cell_row h tmps w g 57 _ (0, 0) _ hp hg Tryd.underlying57 rfl prdSize
end
end Go.Proofs.YtiikhjifjdpgdaaDoor
namespace Go.Proofs.YtiikhjifjdpgdaaDoor
open Go Go.RowKit Sh Leaf

abbrev cvrow (th : Bool) (p : Prd) (pa : Int) (vt vb : Value) : Array Value := #[.bool th, .int .i64 p.kind, .int .u64 (p.mask : Int), .int .i64 p.lo, .int .i64 p.hi, .string (sof p.name), .int .i64 p.num, .int .i64 pa, vt, vb]
theorem cavSize : (Tryd.prog.info? 59).map (·.size) = some 10 := by kernel_rfl
abbrev CvRow (w : World) (g : Nat) (th : Bool) (p : Prd) (pa : Int) (vt vb : Value) : Prop := Whole w g 59 (cvrow th p pa vt vb)
def Cwf (c : Cav) : Prop := c.first.mask < 18446744073709551616 ∧ c.first.name.length ≤ 9223372036854775807 ∧ c.ticket.length ≤ 5000 ∧ c.box.length ≤ 5000
def CavV (w : World) (Q : Nat → Prop) (v : Value) (c : Cav) : Prop := ∃ A1 c1 A2 c2, v = .agg (cvrow c.third c.first c.party (.slice A1 c.ticket.length c1) (.slice A2 c.box.length c2)) ∧ Bytes w Q (.slice A1 c.ticket.length c1) c.ticket ∧ Bytes w Q (.slice A2 c.box.length c2) c.box ∧ Cwf c
theorem cvrow_size (th : Bool) (p : Prd) (pa : Int) (vt vb : Value) : (cvrow th p pa vt vb).size = 10 := rfl
theorem cvrow_zero : cvrow false .zero 0 (.slice none 0 0) (.slice none 0 0) = #[.bool false, .int .i64 0, .int .u64 0, .int .i64 0, .int .i64 0, .string { data := #[] }, .int .i64 0, .int .i64 0, .slice none 0 0, .slice none 0 0] := by
  unfold cvrow
  rw [← sof_none]
  rfl
section
variable {w w' : World} {g B : Nat} {th : Bool} {p : Prd} {pa : Int} {vt vb : Value} {Q Q' : Nat → Prop} {v : Value} {c : Cav}
theorem CavV.mono (h : CavV w Q v c) (k : ∀ b, b < w.heap.size → Q b → Q' b) : CavV w Q' v c := by
  obtain ⟨A1, c1, A2, c2, e, h1, h2, h3⟩ := h
  exact ⟨A1, c1, A2, c2, e, h1.mono k, h2.mono k, h3⟩
theorem CavV.below (h : CavV w Q v c) (hb : Below B w w') (hB : w.heap.size ≤ B) : CavV w' Q v c := by
  obtain ⟨A1, c1, A2, c2, e, h1, h2, h3⟩ := h
  exact ⟨A1, c1, A2, c2, e, h1.below hb hB, h2.below hb hB, h3⟩
theorem CavV.wf (h : CavV w Q v c) : Cwf c := by obtain ⟨_, _, _, _, _, _, _, h⟩ := h; exact h
theorem CavV.zero (w : World) (Q : Nat → Prop) : CavV w Q (.agg (cvrow false .zero 0 (.slice none 0 0) (.slice none 0 0))) .zero := ⟨none, 0, none, 0, rfl, Bytes.nil _ _, Bytes.nil _ _, by unfold Cwf; simp⟩
theorem CvRow.cells (h : CvRow w g th p pa vt vb) :
    w.cell? ⟨g, 0, none⟩ = some (.bool th) ∧ w.cell? ⟨g, 7, none⟩ = some (.int .i64 pa) ∧ w.cell? ⟨g, 8, none⟩ = some vt ∧ w.cell? ⟨g, 9, none⟩ = some vb := ⟨h.cell 0, h.cell 7, h.cell 8, h.cell 9⟩
theorem CvRow.prd (h : CvRow w g th p pa vt vb) : w.rangeAt g 1 [.int .i64 p.kind, .int .u64 (p.mask : Int), .int .i64 p.lo, .int .i64 p.hi, .string (sof p.name), .int .i64 p.num] := fun j x hj => by
  match j, hj with
  | 0, hj => rw [← hj]; exact h.cell 1
  | 1, hj => rw [← hj]; exact h.cell 2
  | 2, hj => rw [← hj]; exact h.cell 3
  | 3, hj => rw [← hj]; exact h.cell 4
  | 4, hj => rw [← hj]; exact h.cell 5
  | 5, hj => rw [← hj]; exact h.cell 6
  | n + 6, hj => simp at hj
theorem pv_list (p : Prd) : pv p = .agg ([.int .i64 p.kind, .int .u64 (p.mask : Int), .int .i64 p.lo, .int .i64 p.hi, .string (sof p.name), .int .i64 p.num] : List Value).toArray := by rw [pv_row]
theorem wpList_load_cav {ops : Array Oper} {rest : List Oper} {o : Oper} {a : Act} {Q : Exit → Act → World → Prop} (hgd : o.guard = none) (x : Operand) (ho : o.op = .load 59 x)
    (hx : a.eval x = .pointer (some ⟨g, 0, none⟩)) (hg : CvRow w g th p pa vt vb) (h : wpList Tryd.prog ops Q rest (a.put o.dst (.agg (cvrow th p pa vt vb))) w) : wpList Tryd.prog ops Q (o :: rest) a w :=
  wpList_load_row hgd 59 x ho g hx 59 _ (0, 0) _ hg Tryd.underlying59 rfl cavSize h
theorem wpList_load_cprd {ops : Array Oper} {rest : List Oper} {o : Oper} {a : Act} {Q : Exit → Act → World → Prop} (hgd : o.guard = none) (x : Operand) (ho : o.op = .load 57 x)
    (hx : a.eval x = .pointer (some ⟨g, 1, none⟩)) (hg : CvRow w g th p pa vt vb) (h : wpList Tryd.prog ops Q rest (a.put o.dst (pv p)) w) : wpList Tryd.prog ops Q (o :: rest) a w := by
  refine wpList_load_mid hgd 57 x ho g 1 hx _ _ (CvRow.prd hg) Tryd.underlying57 rfl (by rw [prdSize]; rfl) ?_
  rw [pv_list] at h
  exact h
theorem wpList_store_cav {ops : Array Oper} {rest : List Oper} {o : Oper} {a : Act} {Q : Exit → Act → World → Prop} (hgd : o.guard = none) (x y : Operand) (ho : o.op = .store 59 x y)
    (hx : a.eval x = .pointer (some ⟨g, 0, none⟩)) {th' : Bool} {p' : Prd} {pa' : Int} {A1 A2 : Option Addr} {n1 n2 c1 c2 : Nat} (hy : a.eval y = .agg (cvrow th' p' pa' (.slice A1 n1 c1) (.slice A2 n2 c2))) {cs : Array Value} (hg : Whole w g 59 cs) (hcs : cs.size = 10)
    (h : wpList Tryd.prog ops Q rest (a.put o.dst undef) (w.setRow g (cvrow th' p' pa' (.slice A1 n1 c1) (.slice A2 n2 c2)))) : wpList Tryd.prog ops Q (o :: rest) a w :=
  wpList_store_row hgd 59 x y ho g _ hx hy 59 _ hg (by rw [cavSize]; rfl) (by rw [hcs]; rfl) (by simp [Value.oneCell']) h
theorem results_cav {fn : Func} {q : Tmp} (h : fn.results = #[.cell q 59]) (tmps : Array Value) (hp : tmps.getD q undef = .pointer (some ⟨g, 0, none⟩)) (hg : CvRow w g th p pa vt vb) :
    (results fn tmps).run Tryd.prog w = .ok (.agg (cvrow th p pa vt vb)) w :=
  results_cell_row h tmps w g 59 _ (0, 0) _ hp hg Tryd.underlying59 rfl cavSize
end
theorem guard_row (x y : Operand) (ds cs : Array Value) (w : World) : (eqGuard .eql 57 x y (.agg ds) (.agg cs)).run Tryd.prog w = .ok () w := by
  have h : Tryd.prog.eqGuardType Tryd.prog.depth 57 = false := by kernel_rfl
  simp [eqGuard, h]
theorem guard_rown (x y : Operand) (ds cs : Array Value) (w : World) : (eqGuard .neq 57 x y (.agg ds) (.agg cs)).run Tryd.prog w = .ok () w := by
  have h : Tryd.prog.eqGuardType Tryd.prog.depth 57 = false := by kernel_rfl
  simp [eqGuard, h]
theorem guard_prd (x y : Operand) (p : Prd) (cs : Array Value) (w : World) : (eqGuard .eql 57 x y (pv p) (.agg cs)).run Tryd.prog w = .ok () w := by rw [pv_row]; exact guard_row x y _ _ w
theorem guard_prdn (x y : Operand) (p q : Prd) (w : World) : (eqGuard .neq 57 x y (pv p) (pv q)).run Tryd.prog w = .ok () w := by rw [pv_row, pv_row]; exact guard_rown x y _ _ w
theorem eql_zero (p : Prd) (w : World) : (binOp .eql 57 (pv p) (.agg #[.int .i64 0, .int .u64 0, .int .i64 0, .int .i64 0, .string { data := #[] }, .int .i64 0])).run Tryd.prog w = .ok (.bool (decide (p = .zero))) w := by
  have h := run_eql_prd0 p.kind (p.mask : Int) p.lo p.hi p.num 0 0 0 0 0 p.name w
  rw [pv_row]
  rw [h]
  have e : (p.kind = 0 ∧ (p.mask : Int) = 0 ∧ p.lo = 0 ∧ p.hi = 0 ∧ p.name = [] ∧ p.num = 0) ↔ p = .zero := by
    obtain ⟨a, b, c, d, n, f⟩ := p
    simp only [Prd.mk.injEq]
    constructor
    · rintro ⟨h1, h2, h3, h4, h5, h6⟩
      exact ⟨h1, by omega, h3, h4, h5, h6⟩
    · rintro ⟨h1, h2, h3, h4, h5, h6⟩
      exact ⟨h1, by omega, h3, h4, h5, h6⟩
  simp only [e]
end Go.Proofs.YtiikhjifjdpgdaaDoor
