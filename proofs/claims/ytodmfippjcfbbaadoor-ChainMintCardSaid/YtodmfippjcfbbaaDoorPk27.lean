/-
  KPrd
  KCav
-/
import Derived.Laws.Rows
import Derived.Laws.Tables
import Derived.Test.YtodmfippjcfbbaaDoorPk5
import Derived.Test.YtodmfippjcfbbaaDoorPk0
import Derived.Test.YtodmfippjcfbbaaDoorPk3
namespace Go.Proofs.YtodmfippjcfbbaaDoor
open Go Go.RowKit Sh Leaf

abbrev prow (k m lo hi : Int) (nm : List B8) (nu : Int) : Array Value := #[.int .i64 k, .int .u64 m, .int .i64 lo, .int .i64 hi, .string (sof nm), .int .i64 nu]
theorem prdSize : (Tryd.prog.info? 60).map (·.size) = some 6 := by kernel_rfl
theorem pv_row (p : Prd) : pv p = .agg (prow p.kind p.mask p.lo p.hi p.name p.num) := by unfold pv; rfl
abbrev PRow (w : World) (g : Nat) (k m lo hi : Int) (nm : List B8) (nu : Int) : Prop := Whole w g 60 (prow k m lo hi nm nu)
section
variable {w : World} {g : Nat} {k m lo hi : Int} {nm : List B8} {nu : Int}
theorem PRow.cells (h : PRow w g k m lo hi nm nu) :
    w.cell? ⟨g, 0, none⟩ = some (.int .i64 k) ∧ w.cell? ⟨g, 1, none⟩ = some (.int .u64 m) ∧ w.cell? ⟨g, 2, none⟩ = some (.int .i64 lo) ∧ w.cell? ⟨g, 3, none⟩ = some (.int .i64 hi) ∧ w.cell? ⟨g, 4, none⟩ = some (.string (sof nm)) ∧ w.cell? ⟨g, 5, none⟩ = some (.int .i64 nu) :=
  ⟨h.cell 0, h.cell 1, h.cell 2, h.cell 3, h.cell 4, h.cell 5⟩
theorem PRow.frees (h : PRow w g k m lo hi nm nu) : w.frozen? ⟨g, 0, none⟩ = false ∧ w.frozen? ⟨g, 1, none⟩ = false ∧ w.frozen? ⟨g, 2, none⟩ = false ∧ w.frozen? ⟨g, 3, none⟩ = false ∧ w.frozen? ⟨g, 4, none⟩ = false ∧ w.frozen? ⟨g, 5, none⟩ = false :=
  ⟨h.frozen 0, h.frozen 1, h.frozen 2, h.frozen 3, h.frozen 4, h.frozen 5⟩
theorem PRow.setRow (h : PRow w g k m lo hi nm nu) (k' m' lo' hi' : Int) (nm' : List B8) (nu' : Int) : PRow (w.setRow g (prow k' m' lo' hi' nm' nu')) g k' m' lo' hi' nm' nu' := Whole.setRow h _
end
end Go.Proofs.YtodmfippjcfbbaaDoor
namespace Go.Proofs.YtodmfippjcfbbaaDoor
open Go Go.RowKit Sh Leaf

abbrev cvrow (th : Bool) (p : Prd) (pa : Int) (vt vb : Value) : Array Value := #[.bool th, .int .i64 p.kind, .int .u64 (p.mask : Int), .int .i64 p.lo, .int .i64 p.hi, .string (sof p.name), .int .i64 p.num, .int .i64 pa, vt, vb]
theorem cavSize : (Tryd.prog.info? 62).map (·.size) = some 10 := by kernel_rfl
abbrev CvRow (w : World) (g : Nat) (th : Bool) (p : Prd) (pa : Int) (vt vb : Value) : Prop := Whole w g 62 (cvrow th p pa vt vb)
def Cwf (c : Cav) : Prop := c.first.mask < 18446744073709551616 ∧ c.first.name.length ≤ 9223372036854775807 ∧ c.ticket.length ≤ 5000 ∧ c.box.length ≤ 5000
def CavV (w : World) (Q : Nat → Prop) (v : Value) (c : Cav) : Prop := ∃ A1 c1 A2 c2, v = .agg (cvrow c.third c.first c.party (.slice A1 c.ticket.length c1) (.slice A2 c.box.length c2)) ∧ Bytes w Q (.slice A1 c.ticket.length c1) c.ticket ∧ Bytes w Q (.slice A2 c.box.length c2) c.box ∧ Cwf c
section
variable {w w' : World} {g B : Nat} {th : Bool} {p : Prd} {pa : Int} {vt vb : Value} {Q Q' : Nat → Prop} {v : Value} {c : Cav}
theorem CavV.mono (h : CavV w Q v c) (k : ∀ b, b < w.heap.size → Q b → Q' b) : CavV w Q' v c := by
  obtain ⟨A1, c1, A2, c2, e, h1, h2, h3⟩ := h
  exact ⟨A1, c1, A2, c2, e, h1.mono k, h2.mono k, h3⟩
theorem CavV.below (h : CavV w Q v c) (hb : Below B w w') (hB : w.heap.size ≤ B) : CavV w' Q v c := by
  obtain ⟨A1, c1, A2, c2, e, h1, h2, h3⟩ := h
  exact ⟨A1, c1, A2, c2, e, h1.below hb hB, h2.below hb hB, h3⟩
theorem CavV.wf (h : CavV w Q v c) : Cwf c := by obtain ⟨_, _, _, _, _, _, _, h⟩ := h; exact h
theorem CavV.zero (w : World) (Q : Nat → Prop) : CavV w Q (.agg (cvrow false .zero 0 (.slice none 0 0) (.slice none 0 0))) .zero := ⟨none, 0, none, 0, rfl, Bytes.nil _ _, Bytes.nil _ _, by unfold Cwf; simp⟩
theorem CvRow.cells (h : CvRow w g th p pa vt vb) :
    w.cell? ⟨g, 0, none⟩ = some (.bool th) ∧ w.cell? ⟨g, 7, none⟩ = some (.int .i64 pa) ∧ w.cell? ⟨g, 8, none⟩ = some vt ∧ w.cell? ⟨g, 9, none⟩ = some vb := ⟨h.cell 0, h.cell 7, h.cell 8, h.cell 9⟩
theorem CvRow.prd (h : CvRow w g th p pa vt vb) : w.rangeAt g 1 [.int .i64 p.kind, .int .u64 (p.mask : Int), .int .i64 p.lo, .int .i64 p.hi, .string (sof p.name), .int .i64 p.num] := fun j x hj => by
  match j, hj with
  | 0, hj => rw [← hj]; exact h.cell 1
  | 1, hj => rw [← hj]; exact h.cell 2
  | 2, hj => rw [← hj]; exact h.cell 3
  | 3, hj => rw [← hj]; exact h.cell 4
  | 4, hj => rw [← hj]; exact h.cell 5
  | 5, hj => rw [← hj]; exact h.cell 6
  | n + 6, hj => simp at hj
theorem pv_list (p : Prd) : pv p = .agg ([.int .i64 p.kind, .int .u64 (p.mask : Int), .int .i64 p.lo, .int .i64 p.hi, .string (sof p.name), .int .i64 p.num] : List Value).toArray := by rw [pv_row]
theorem wpList_load_cav {ops : Array Oper} {rest : List Oper} {o : Oper} {a : Act} {Q : Exit → Act → World → Prop} (hgd : o.guard = none) (x : Operand) (ho : o.op = .load 62 x)
    (hx : a.eval x = .pointer (some ⟨g, 0, none⟩)) (hg : CvRow w g th p pa vt vb) (h : wpList Tryd.prog ops Q rest (a.put o.dst (.agg (cvrow th p pa vt vb))) w) : wpList Tryd.prog ops Q (o :: rest) a w :=
  wpList_load_row hgd 62 x ho g hx 62 _ (0, 0) _ hg Tryd.underlying62 rfl cavSize h
theorem wpList_load_cprd {ops : Array Oper} {rest : List Oper} {o : Oper} {a : Act} {Q : Exit → Act → World → Prop} (hgd : o.guard = none) (x : Operand) (ho : o.op = .load 60 x)
    (hx : a.eval x = .pointer (some ⟨g, 1, none⟩)) (hg : CvRow w g th p pa vt vb) (h : wpList Tryd.prog ops Q rest (a.put o.dst (pv p)) w) : wpList Tryd.prog ops Q (o :: rest) a w := by
  refine wpList_load_mid hgd 60 x ho g 1 hx _ _ (CvRow.prd hg) Tryd.underlying60 rfl (by rw [prdSize]; rfl) ?_
  rw [pv_list] at h
  exact h
theorem results_cav {fn : Func} {q : Tmp} (h : fn.results = #[.cell q 62]) (tmps : Array Value) (hp : tmps.getD q undef = .pointer (some ⟨g, 0, none⟩)) (hg : CvRow w g th p pa vt vb) :
    (results fn tmps).run Tryd.prog w = .ok (.agg (cvrow th p pa vt vb)) w :=
  results_cell_row h tmps w g 62 _ (0, 0) _ hp hg Tryd.underlying62 rfl cavSize
end
theorem guard_row (x y : Operand) (ds cs : Array Value) (w : World) : (eqGuard .eql 60 x y (.agg ds) (.agg cs)).run Tryd.prog w = .ok () w := by
  have h : Tryd.prog.eqGuardType Tryd.prog.depth 60 = false := by kernel_rfl
  simp [eqGuard, h]
theorem guard_rown (x y : Operand) (ds cs : Array Value) (w : World) : (eqGuard .neq 60 x y (.agg ds) (.agg cs)).run Tryd.prog w = .ok () w := by
  have h : Tryd.prog.eqGuardType Tryd.prog.depth 60 = false := by kernel_rfl
  simp [eqGuard, h]
theorem guard_prd (x y : Operand) (p : Prd) (cs : Array Value) (w : World) : (eqGuard .eql 60 x y (pv p) (.agg cs)).run Tryd.prog w = .ok () w := by rw [pv_row]; exact guard_row x y _ _ w
theorem guard_prdn (x y : Operand) (p q : Prd) (w : World) : (eqGuard .neq 60 x y (pv p) (pv q)).run Tryd.prog w = .ok () w := by rw [pv_row, pv_row]; exact guard_rown x y _ _ w
theorem eql_zero (p : Prd) (w : World) : (binOp .eql 60 (pv p) (.agg #[.int .i64 0, .int .u64 0, .int .i64 0, .int .i64 0, .string { data := #[] }, .int .i64 0])).run Tryd.prog w = .ok (.bool (decide (p = .zero))) w := by
  have h := run_eql_prd0 p.kind (p.mask : Int) p.lo p.hi p.num 0 0 0 0 0 p.name w
  rw [pv_row]
  rw [h]
  have e : (p.kind = 0 ∧ (p.mask : Int) = 0 ∧ p.lo = 0 ∧ p.hi = 0 ∧ p.name = [] ∧ p.num = 0) ↔ p = .zero := by
    obtain ⟨a, b, c, d, n, f⟩ := p
    simp only [Prd.mk.injEq]
    constructor
    · rintro ⟨h1, h2, h3, h4, h5, h6⟩
      exact ⟨h1, by omega, h3, h4, h5, h6⟩
    · rintro ⟨h1, h2, h3, h4, h5, h6⟩
      exact ⟨h1, by omega, h3, h4, h5, h6⟩
  simp only [e]
end Go.Proofs.YtodmfippjcfbbaaDoor
