/-
  A predicate in a block: loads, stores, results.
  A ride in a block: what it is as a value; cells, loads, stores, results.
  Package holds: hasBit, and the methods of a ride, one for each kind.
  Package holds: the table of method values.
-/
import Derived.Laws.Rows
import Derived.Laws.Tables
import Derived.Test.YtbbkjdckogcbgaaPk5
import Derived.Test.YtbbkjdckogcbgaaPk0
namespace Go.Proofs.Ytbbkjdckogcbgaa
open Go Go.RowKit Sh Leaf

/-- A predicate's cells. -/
abbrev prow (k m lo hi : Int) (nm : List B8) (nu : Int) : Array Value := #[.int .i64 k, .int .u64 m, .int .i64 lo, .int .i64 hi, .string (sof nm), .int .i64 nu]
theorem prdSize : (Try.prog.info? 35).map (·.size) = some 6 := by kernel_rfl
theorem pv_row (p : Prd) : pv p = .agg (prow p.kind p.mask p.lo p.hi p.name p.num) := by unfold pv; rfl
theorem prow_zero : prow 0 0 0 0 [] 0 = #[.int .i64 0, .int .u64 0, .int .i64 0, .int .i64 0, .string { data := #[] }, .int .i64 0] := by rw [← sof_none]
/-- The block g is the predicate's. -/
abbrev PRow (w : World) (g : Nat) (k m lo hi : Int) (nm : List B8) (nu : Int) : Prop := Whole w g 35 (prow k m lo hi nm nu)
section
variable {w : World} {g : Nat} {k m lo hi : Int} {nm : List B8} {nu : Int}
theorem PRow.cells (h : PRow w g k m lo hi nm nu) :
    w.cell? ⟨g, 0, none⟩ = some (.int .i64 k) ∧ w.cell? ⟨g, 1, none⟩ = some (.int .u64 m) ∧ w.cell? ⟨g, 2, none⟩ = some (.int .i64 lo) ∧ w.cell? ⟨g, 3, none⟩ = some (.int .i64 hi) ∧ w.cell? ⟨g, 4, none⟩ = some (.string (sof nm)) ∧ w.cell? ⟨g, 5, none⟩ = some (.int .i64 nu) :=
  ⟨h.cell 0, h.cell 1, h.cell 2, h.cell 3, h.cell 4, h.cell 5⟩
theorem PRow.set0 (h : PRow w g k m lo hi nm nu) (x : Int) : PRow (w.setCell ⟨g, 0, none⟩ (.int .i64 x)) g x m lo hi nm nu := by have := h.set 0 (.int .i64 x); simpa using this
theorem PRow.set1 (h : PRow w g k m lo hi nm nu) (x : Int) : PRow (w.setCell ⟨g, 1, none⟩ (.int .u64 x)) g k x lo hi nm nu := by have := h.set 1 (.int .u64 x); simpa using this
theorem PRow.set2 (h : PRow w g k m lo hi nm nu) (x : Int) : PRow (w.setCell ⟨g, 2, none⟩ (.int .i64 x)) g k m x hi nm nu := by have := h.set 2 (.int .i64 x); simpa using this
theorem PRow.set3 (h : PRow w g k m lo hi nm nu) (x : Int) : PRow (w.setCell ⟨g, 3, none⟩ (.int .i64 x)) g k m lo x nm nu := by have := h.set 3 (.int .i64 x); simpa using this
theorem PRow.set4 (h : PRow w g k m lo hi nm nu) (x : List B8) : PRow (w.setCell ⟨g, 4, none⟩ (.string (sof x))) g k m lo hi x nu := by have := h.set 4 (.string (sof x)); simpa using this
theorem PRow.set5 (h : PRow w g k m lo hi nm nu) (x : Int) : PRow (w.setCell ⟨g, 5, none⟩ (.int .i64 x)) g k m lo hi nm x := by have := h.set 5 (.int .i64 x); simpa using this
theorem PRow.set4z (h : PRow w g k m lo hi nm nu) : PRow (w.setCell ⟨g, 4, none⟩ (.string { data := #[] })) g k m lo hi [] nu := by rw [← sof_none]; exact h.set4 []
theorem PRow.frees (h : PRow w g k m lo hi nm nu) : w.frozen? ⟨g, 0, none⟩ = false ∧ w.frozen? ⟨g, 1, none⟩ = false ∧ w.frozen? ⟨g, 2, none⟩ = false ∧ w.frozen? ⟨g, 3, none⟩ = false ∧ w.frozen? ⟨g, 4, none⟩ = false ∧ w.frozen? ⟨g, 5, none⟩ = false :=
  ⟨h.frozen 0, h.frozen 1, h.frozen 2, h.frozen 3, h.frozen 4, h.frozen 5⟩
/-- All six cells are stored. -/
theorem PRow.sets (h : PRow w g k m lo hi nm nu) (k' m' lo' hi' : Int) (nm' : List B8) (nu' : Int) : PRow ((((((w.setCell ⟨g, 0, none⟩ (.int .i64 k')).setCell ⟨g, 1, none⟩ (.int .u64 m')).setCell ⟨g, 2, none⟩ (.int .i64 lo')).setCell ⟨g, 3, none⟩ (.int .i64 hi')).setCell ⟨g, 4, none⟩ (.string (sof nm'))).setCell ⟨g, 5, none⟩ (.int .i64 nu')) g k' m' lo' hi' nm' nu' :=
  (((((h.set0 k').set1 m').set2 lo').set3 hi').set4 nm').set5 nu'
theorem PRow.setsz (h : PRow w g k m lo hi nm nu) : PRow ((((((w.setCell ⟨g, 0, none⟩ (.int .i64 0)).setCell ⟨g, 1, none⟩ (.int .u64 0)).setCell ⟨g, 2, none⟩ (.int .i64 0)).setCell ⟨g, 3, none⟩ (.int .i64 0)).setCell ⟨g, 4, none⟩ (.string { data := #[] })).setCell ⟨g, 5, none⟩ (.int .i64 0)) g 0 0 0 0 [] 0 :=
  (((((h.set0 0).set1 0).set2 0).set3 0).set4z).set5 0
theorem below_sets {B : Nat} {W : World} (h : Below B W w) (hg : B ≤ g) (a b c d e f : Value) : Below B W ((((((w.setCell ⟨g, 0, none⟩ a).setCell ⟨g, 1, none⟩ b).setCell ⟨g, 2, none⟩ c).setCell ⟨g, 3, none⟩ d).setCell ⟨g, 4, none⟩ e).setCell ⟨g, 5, none⟩ f) :=
  (((((h.setCell (p := ⟨g, 0, none⟩) hg a).setCell (p := ⟨g, 1, none⟩) hg b).setCell (p := ⟨g, 2, none⟩) hg c).setCell (p := ⟨g, 3, none⟩) hg d).setCell (p := ⟨g, 4, none⟩) hg e).setCell (p := ⟨g, 5, none⟩) hg f
theorem PRow.of_zero (h : Whole w g 35 #[.int .i64 k, .int .u64 0, .int .i64 0, .int .i64 0, .string { data := #[] }, .int .i64 0]) : PRow w g k 0 0 0 [] 0 := by
  show Whole w g _ #[.int .i64 k, .int .u64 0, .int .i64 0, .int .i64 0, .string (sof []), .int .i64 0]
  rw [sof_none]; exact h
/-- A load of the whole predicate. -/
theorem wpList_load_prd {ops : Array Oper} {rest : List Oper} {o : Oper} {a : Act} {Q : Exit → Act → World → Prop} (hgd : o.guard = none) (x : Operand) (ho : o.op = .load 35 x)
    (hx : a.eval x = .pointer (some ⟨g, 0, none⟩)) (hg : PRow w g k m lo hi nm nu) (h : wpList Try.prog ops Q rest (a.put o.dst (.agg (prow k m lo hi nm nu))) w) : wpList Try.prog ops Q (o :: rest) a w :=
  wpList_load_row hgd 35 x ho g hx 35 _ (0, 0) _ hg Try.underlying35 rfl prdSize h
/-- A store of a whole predicate. -/
theorem wpList_store_prd {ops : Array Oper} {rest : List Oper} {o : Oper} {a : Act} {Q : Exit → Act → World → Prop} (hgd : o.guard = none) (x y : Operand) (ho : o.op = .store 35 x y)
    (hx : a.eval x = .pointer (some ⟨g, 0, none⟩)) {k' m' lo' hi' nu' : Int} {nm' : List B8} (hy : a.eval y = .agg (prow k' m' lo' hi' nm' nu')) (hg : PRow w g k m lo hi nm nu)
    (h : wpList Try.prog ops Q rest (a.put o.dst undef) (w.setRow g (prow k' m' lo' hi' nm' nu'))) : wpList Try.prog ops Q (o :: rest) a w :=
  wpList_store_row hgd 35 x y ho g _ hx hy 35 _ hg prdSize rfl (by simp [Value.oneCell']) h
theorem PRow.setRow (h : PRow w g k m lo hi nm nu) (k' m' lo' hi' : Int) (nm' : List B8) (nu' : Int) : PRow (w.setRow g (prow k' m' lo' hi' nm' nu')) g k' m' lo' hi' nm' nu' := Whole.setRow h _
theorem results_prd {fn : Func} {p : Tmp} (h : fn.results = #[.cell p 35]) (tmps : Array Value) (hp : tmps.getD p undef = .pointer (some ⟨g, 0, none⟩)) (hg : PRow w g k m lo hi nm nu) :
    (results fn tmps).run Try.prog w = .ok (.agg (prow k m lo hi nm nu)) w :=
  results_cell_row h tmps w g 35 _ (0, 0) _ hp hg Try.underlying35 rfl prdSize
theorem results_prd1 {fn : Func} {p q : Tmp} (h : fn.results = #[.cell p 35, .tmp q]) (tmps : Array Value) (hp : tmps.getD p undef = .pointer (some ⟨g, 0, none⟩)) (x : Value) (hq : tmps.getD q undef = x) (hg : PRow w g k m lo hi nm nu) :
    (results fn tmps).run Try.prog w = .ok (.tuple #[.agg (prow k m lo hi nm nu), x]) w := by
  have hp' : tmps[p]?.getD undef = .pointer (some ⟨g, 0, none⟩) := by simpa using hp
  have hq' : tmps[q]?.getD undef = x := by simpa using hq
  simp [results, h, hp', hq', asAddr, run_loadVar_row w g 35 35 _ (0, 0) _ hg Try.underlying35 rfl prdSize]
theorem results_prd2 {fn : Func} {p q r : Tmp} (h : fn.results = #[.cell p 35, .tmp q, .tmp r]) (tmps : Array Value) (hp : tmps.getD p undef = .pointer (some ⟨g, 0, none⟩)) (x y : Value) (hq : tmps.getD q undef = x) (hr : tmps.getD r undef = y) (hg : PRow w g k m lo hi nm nu) :
    (results fn tmps).run Try.prog w = .ok (.tuple #[.agg (prow k m lo hi nm nu), x, y]) w := by
  have hp' : tmps[p]?.getD undef = .pointer (some ⟨g, 0, none⟩) := by simpa using hp
  have hq' : tmps[q]?.getD undef = x := by simpa using hq
  have hr' : tmps[r]?.getD undef = y := by simpa using hr
  simp [results, h, hp', hq', hr', asAddr, run_loadVar_row w g 35 35 _ (0, 0) _ hg Try.underlying35 rfl prdSize]
end
end Go.Proofs.Ytbbkjdckogcbgaa
namespace Go.Proofs.Ytbbkjdckogcbgaa
open Go Go.RowKit Sh Leaf

/-- A ride as a value. -/
@[irreducible] def cv (c : Ctx) : Value := .agg #[.int .i64 c.zone, .int .i64 c.line, .int .i64 c.minute, .string (sof c.holder)]
/-- A ride's cells. -/
abbrev crow (z l m : Int) (h : List B8) : Array Value := #[.int .i64 z, .int .i64 l, .int .i64 m, .string (sof h)]
theorem ctxSize : (Try.prog.info? 23).map (·.size) = some 4 := by kernel_rfl
theorem cv_row (c : Ctx) : cv c = .agg (crow c.zone c.line c.minute c.holder) := by unfold cv; rfl
/-- The block g is the ride's. -/
abbrev CRow (w : World) (g : Nat) (z l m : Int) (h : List B8) : Prop := Whole w g 23 (crow z l m h)
section
variable {w : World} {g : Nat} {z l m : Int} {nm : List B8}
theorem CRow.cells (h : CRow w g z l m nm) : w.cell? ⟨g, 0, none⟩ = some (.int .i64 z) ∧ w.cell? ⟨g, 1, none⟩ = some (.int .i64 l) ∧ w.cell? ⟨g, 2, none⟩ = some (.int .i64 m) ∧ w.cell? ⟨g, 3, none⟩ = some (.string (sof nm)) :=
  ⟨h.cell 0, h.cell 1, h.cell 2, h.cell 3⟩
theorem CRow.frees (h : CRow w g z l m nm) : w.frozen? ⟨g, 0, none⟩ = false ∧ w.frozen? ⟨g, 1, none⟩ = false ∧ w.frozen? ⟨g, 2, none⟩ = false ∧ w.frozen? ⟨g, 3, none⟩ = false :=
  ⟨h.frozen 0, h.frozen 1, h.frozen 2, h.frozen 3⟩
theorem CRow.set0 (h : CRow w g z l m nm) (x : Int) : CRow (w.setCell ⟨g, 0, none⟩ (.int .i64 x)) g x l m nm := by have := h.set 0 (.int .i64 x); simpa using this
theorem CRow.set1 (h : CRow w g z l m nm) (x : Int) : CRow (w.setCell ⟨g, 1, none⟩ (.int .i64 x)) g z x m nm := by have := h.set 1 (.int .i64 x); simpa using this
theorem CRow.set2 (h : CRow w g z l m nm) (x : Int) : CRow (w.setCell ⟨g, 2, none⟩ (.int .i64 x)) g z l x nm := by have := h.set 2 (.int .i64 x); simpa using this
theorem CRow.set3 (h : CRow w g z l m nm) (x : List B8) : CRow (w.setCell ⟨g, 3, none⟩ (.string (sof x))) g z l m x := by have := h.set 3 (.string (sof x)); simpa using this
theorem CRow.setRow (h : CRow w g z l m nm) (z' l' m' : Int) (nm' : List B8) : CRow (w.setRow g (crow z' l' m' nm')) g z' l' m' nm' := Whole.setRow h _
/-- A load of the whole ride. -/
theorem wpList_load_ctx {ops : Array Oper} {rest : List Oper} {o : Oper} {a : Act} {Q : Exit → Act → World → Prop} (hgd : o.guard = none) (x : Operand) (ho : o.op = .load 23 x)
    (hx : a.eval x = .pointer (some ⟨g, 0, none⟩)) (hg : CRow w g z l m nm) (h : wpList Try.prog ops Q rest (a.put o.dst (.agg (crow z l m nm))) w) : wpList Try.prog ops Q (o :: rest) a w :=
  wpList_load_row hgd 23 x ho g hx 23 _ (0, 0) _ hg Try.underlying23 rfl ctxSize h
/-- A store of a whole ride. -/
theorem wpList_store_ctx {ops : Array Oper} {rest : List Oper} {o : Oper} {a : Act} {Q : Exit → Act → World → Prop} (hgd : o.guard = none) (x y : Operand) (ho : o.op = .store 23 x y)
    (hx : a.eval x = .pointer (some ⟨g, 0, none⟩)) {z' l' m' : Int} {nm' : List B8} (hy : a.eval y = .agg (crow z' l' m' nm')) (hg : CRow w g z l m nm)
    (h : wpList Try.prog ops Q rest (a.put o.dst undef) (w.setRow g (crow z' l' m' nm'))) : wpList Try.prog ops Q (o :: rest) a w :=
  wpList_store_row hgd 23 x y ho g _ hx hy 23 _ hg ctxSize rfl (by simp [Value.oneCell']) h
theorem results_ctx {fn : Func} {p : Tmp} (h : fn.results = #[.cell p 23]) (tmps : Array Value) (hp : tmps.getD p undef = .pointer (some ⟨g, 0, none⟩)) (hg : CRow w g z l m nm) :
    (results fn tmps).run Try.prog w = .ok (.agg (crow z l m nm)) w :=
  results_cell_row h tmps w g 23 _ (0, 0) _ hp hg Try.underlying23 rfl ctxSize
end
/-- A quotient's bit, as the programs ask for it. -/
theorem bit_val (m i : Nat) : (((m : Int) / 2 ^ i).tmod 2 == 1) = decide (m / 2 ^ i % 2 = 1) := by
  have e : ((m : Int) / 2 ^ i) = ((m / 2 ^ i : Nat) : Int) := by push_cast; rfl
  have e2 : ((m / 2 ^ i : Nat) : Int) % 2 = ((m / 2 ^ i % 2 : Nat) : Int) := by push_cast; rfl
  rw [e, Int.tmod_eq_emod_of_nonneg (Int.natCast_nonneg _), e2]
  by_cases h : m / 2 ^ i % 2 = 1
  · rw [h]; rfl
  · rw [show m / 2 ^ i % 2 = 0 by omega]; rfl
theorem bit_and (m i : Nat) (hm : m < 18446744073709551616) : (bits .and .u64 ((m : Int) / 2 ^ i) 1 == 1) = decide (m / 2 ^ i % 2 = 1) := by
  have e : ((m : Int) / 2 ^ i) = ((m / 2 ^ i : Nat) : Int) := by push_cast; rfl
  have hl : m / 2 ^ i < 18446744073709551616 := Nat.lt_of_le_of_lt (Nat.div_le_self _ _) hm
  rw [e, show (1 : Int) = ((1 : Nat) : Int) from rfl, bits_and_u64_nat _ 1 hl (by omega), Nat.and_one_is_mod]
  by_cases h : m / 2 ^ i % 2 = 1
  · rw [h]; rfl
  · rw [show m / 2 ^ i % 2 = 0 by omega]; rfl
end Go.Proofs.Ytbbkjdckogcbgaa
namespace Go.Proofs.Ytbbkjdckogcbgaa
open Go Go.RowKit Sh Leaf

theorem has_bit (m : Nat) (z : Int) (hm : m < 18446744073709551616) (h0 : 0 ≤ z) (h1 : z < 64) (w : World) :
    Calls Try.prog 43 #[.int .u64 (m : Int), .int .i64 z] w fun e w' => e = .returned (.bool (decide (hbit m z))) ∧ w = w' := by
  obtain ⟨i, rfl⟩ := Int.eq_ofNat_of_zero_le h0
  have hb := bit_and m i hm
  have HD : Hid (decide (m / 2 ^ i % 2 = 1) = decide (hbit m (i : Int))) := Lib.hid (decide_eq_decide.2 (by unfold hbit; rw [Int.toNat_natCast]))
  generalize decide (m / 2 ^ i % 2 = 1) = D at *
  clear hm
  go_enter Try.func43, Try.ntmps43
  go_wp2
  go_ret
  exact ⟨by rw [← HD.out]; rfl, rfl⟩
theorem two_below (w : World) (o1 o2 : Obj) : Below w.heap.size w ((w.alloc o1).alloc o2) := ((Below.refl w.heap.size w).alloc (Nat.le_refl _) o1).alloc (by simp) o2
theorem in_zone (z l mi : Int) (nm : List B8) (k lo hi nu : Int) (m : Nat) (pn : List B8) (hm : m < 18446744073709551616) (h0 : 0 ≤ z) (h1 : z < 64) (w : World) :
    Calls Try.prog 36 #[.agg (crow z l mi nm), .agg (prow k m lo hi pn nu)] w fun e w' => e = .returned (.bool (decide (hbit m z))) ∧ Below w.heap.size w w' := by
  have hb := fun W => has_bit m z hm h0 h1 W
  clear hm h0 h1
  go_enter Try.func36, Try.ntmps36
  go_wp2_with fail
  refine (hb _).mono ?_
  rintro e w' ⟨rfl, rfl⟩
  go_wp2
  go_ret
  exact ⟨rfl, two_below _ _ _⟩
theorem on_line (z l mi : Int) (nm : List B8) (k lo hi nu : Int) (m : Nat) (pn : List B8) (hm : m < 18446744073709551616) (h0 : 0 ≤ l) (h1 : l < 64) (w : World) :
    Calls Try.prog 37 #[.agg (crow z l mi nm), .agg (prow k m lo hi pn nu)] w fun e w' => e = .returned (.bool (decide (hbit m l))) ∧ Below w.heap.size w w' := by
  have hb := fun W => has_bit m l hm h0 h1 W
  clear hm h0 h1
  go_enter Try.func37, Try.ntmps37
  go_wp2_with fail
  refine (hb _).mono ?_
  rintro e w' ⟨rfl, rfl⟩
  go_wp2
  go_ret
  exact ⟨rfl, two_below _ _ _⟩
theorem on_days (z l mi : Int) (nm : List B8) (k lo hi nu : Int) (m : Nat) (pn : List B8) (hm : m < 18446744073709551616) (h0 : 0 ≤ mi) (h1 : mi ≤ 67108864) (D : Bool) (hD : D = decide (hbit m (mi / 1440 % 7))) (w : World) :
    Calls Try.prog 38 #[.agg (crow z l mi nm), .agg (prow k m lo hi pn nu)] w fun e w' => e = .returned (.bool D) ∧ Below w.heap.size w w' := by
  have e1 : mi.tdiv 1440 = mi / 1440 := Int.tdiv_eq_ediv_of_nonneg h0
  have e2 : (mi / 1440).tmod 7 = mi / 1440 % 7 := Int.tmod_eq_emod_of_nonneg (by omega)
  have hw : IntKind.i64.wrap (mi / 1440) = mi / 1440 := by rw [IntKind.wrap_i64]; omega
  have hd0 : 0 ≤ mi / 1440 % 7 := by omega
  have hd1 : mi / 1440 % 7 < 64 := by omega
  generalize mi / 1440 % 7 = d at *
  have hb := fun W => has_bit m d hm hd0 hd1 W
  rw [← hD] at hb
  clear hD hd0 hd1
  clear hm
  generalize mi / 1440 = q at *
  clear h0 h1
  go_enter Try.func38, Try.ntmps38
  go_wp2_with fail
  refine (hb _).mono ?_
  rintro e w' ⟨rfl, rfl⟩
  go_wp2
  go_ret
  exact ⟨rfl, two_below _ _ _⟩
theorem in_time (z l mi : Int) (nm : List B8) (k lo hi nu : Int) (m : Nat) (pn : List B8) (D : Bool) (hD : D = decide (lo ≤ mi ∧ mi ≤ hi)) (w : World) :
    Calls Try.prog 39 #[.agg (crow z l mi nm), .agg (prow k m lo hi pn nu)] w fun e w' => e = .returned (.bool D) ∧ Below w.heap.size w w' := by
  by_cases h1 : lo ≤ mi
  · by_cases h2 : mi ≤ hi
    · skip
      have hd := hD.trans (decide_eq_true (And.intro h1 h2))
      subst hd
      clear hD
      go_enter Try.func39, Try.ntmps39
      go_wp2
      go_ret
      exact ⟨rfl, two_below _ _ _⟩
    · skip
      have hd := hD.trans (decide_eq_false (fun h : lo ≤ mi ∧ mi ≤ hi => h2 h.2))
      subst hd
      clear hD
      go_enter Try.func39, Try.ntmps39
      go_wp2
      go_ret
      exact ⟨rfl, two_below _ _ _⟩
  · skip
    have hd := hD.trans (decide_eq_false (fun h : lo ≤ mi ∧ mi ≤ hi => h1 h.1))
    subst hd
    clear hD
    go_enter Try.func39, Try.ntmps39
    go_wp2
    go_ret
    exact ⟨rfl, two_below _ _ _⟩
theorem by_holder (z l mi : Int) (nm : List B8) (k lo hi nu : Int) (m : Nat) (pn : List B8) (D : Bool) (hD : D = decide (nm = pn)) (w : World) :
    Calls Try.prog 41 #[.agg (crow z l mi nm), .agg (prow k m lo hi pn nu)] w fun e w' => e = .returned (.bool D) ∧ Below w.heap.size w w' := by
  have hs := sof_beq nm pn
  rw [← hD] at hs
  clear hD
  go_enter Try.func41, Try.ntmps41
  go_wp2
  go_ret
  exact ⟨rfl, two_below _ _ _⟩
theorem always_ (z l mi : Int) (nm : List B8) (k lo hi nu : Int) (m : Nat) (pn : List B8) (w : World) :
    Calls Try.prog 42 #[.agg (crow z l mi nm), .agg (prow k m lo hi pn nu)] w fun e w' => e = .returned (.bool true) ∧ Below w.heap.size w w' := by
  go_enter Try.func42, Try.ntmps42
  go_wp2
  go_ret
  exact ⟨rfl, two_below _ _ _⟩
theorem in_daily (z l mi : Int) (nm : List B8) (k lo hi nu : Int) (m : Nat) (pn : List B8) (h0 : 0 ≤ mi) (D : Bool) (hD : D = decide (if lo ≤ hi then lo ≤ mi % 1440 ∧ mi % 1440 ≤ hi else lo ≤ mi % 1440 ∨ mi % 1440 ≤ hi)) (w : World) :
    Calls Try.prog 40 #[.agg (crow z l mi nm), .agg (prow k m lo hi pn nu)] w fun e w' => e = .returned (.bool D) ∧ Below w.heap.size w w' := by
  have e1 : mi.tmod 1440 = mi % 1440 := Int.tmod_eq_emod_of_nonneg h0
  clear h0
  generalize mi % 1440 = r at *
  by_cases hle : lo ≤ hi
  · by_cases h1 : lo ≤ r
    · by_cases h2 : r ≤ hi
      · skip
        have hd := hD.trans (decide_eq_true ((if_pos hle).symm ▸ And.intro h1 h2))
        subst hd
        clear hD
        go_enter Try.func40, Try.ntmps40
        go_wp2
        go_ret
        exact ⟨rfl, two_below _ _ _⟩
      · skip
        have hd := hD.trans (decide_eq_false (fun h => h2 (((iff_of_eq (if_pos hle)).1 h : lo ≤ r ∧ r ≤ hi)).2))
        subst hd
        clear hD
        go_enter Try.func40, Try.ntmps40
        go_wp2
        go_ret
        exact ⟨rfl, two_below _ _ _⟩
    · skip
      have hd := hD.trans (decide_eq_false (fun h => h1 (((iff_of_eq (if_pos hle)).1 h : lo ≤ r ∧ r ≤ hi)).1))
      subst hd
      clear hD
      go_enter Try.func40, Try.ntmps40
      go_wp2
      go_ret
      exact ⟨rfl, two_below _ _ _⟩
  · by_cases h1 : lo ≤ r
    · skip
      have hd := hD.trans (decide_eq_true ((if_neg hle).symm ▸ Or.inl h1))
      subst hd
      clear hD
      go_enter Try.func40, Try.ntmps40
      go_wp2
      go_ret
      exact ⟨rfl, two_below _ _ _⟩
    · by_cases h2 : r ≤ hi
      · skip
        have hd := hD.trans (decide_eq_true ((if_neg hle).symm ▸ Or.inr h2))
        subst hd
        clear hD
        go_enter Try.func40, Try.ntmps40
        go_wp2
        go_ret
        exact ⟨rfl, two_below _ _ _⟩
      · skip
        have hd := hD.trans (decide_eq_false (fun h => (((iff_of_eq (if_neg hle)).1 h : lo ≤ r ∨ r ≤ hi)).elim h1 h2))
        subst hd
        clear hD
        go_enter Try.func40, Try.ntmps40
        go_wp2
        go_ret
        exact ⟨rfl, two_below _ _ _⟩
end Go.Proofs.Ytbbkjdckogcbgaa
namespace Go.Proofs.Ytbbkjdckogcbgaa
open Go Go.RowKit Sh Leaf

/-- A method value of a ride. -/
abbrev mv (z l m : Int) (nm : List B8) (k : Nat) : Value := .func (.func k) #[.agg (crow z l m nm)] #[]
/-- The function of a kind. -/
def kf (k : Nat) : Nat := if k = 1 then 36 else if k = 2 then 37 else if k = 3 then 38 else if k = 4 then 39 else if k = 5 then 40 else if k = 6 then 41 else 42
/-- The table's cells. -/
def Table (w : World) (g : Nat) (z l m : Int) (nm : List B8) : Prop := ∀ k, 1 ≤ k → k ≤ 7 → w.cell? ⟨g, k, none⟩ = some (mv z l m nm (kf k))
theorem Table.mk {w : World} {g : Nat} {z l m : Int} {nm : List B8} {v : Value} (h : Whole w g 55 #[v, mv z l m nm 36, mv z l m nm 37, mv z l m nm 38, mv z l m nm 39, mv z l m nm 40, mv z l m nm 41, mv z l m nm 42]) : Table w g z l m nm := by
  intro k h1 h2
  rcases (by omega : k = 1 ∨ k = 2 ∨ k = 3 ∨ k = 4 ∨ k = 5 ∨ k = 6 ∨ k = 7) with rfl | rfl | rfl | rfl | rfl | rfl | rfl
  · exact h.cell 1
  · exact h.cell 2
  · exact h.cell 3
  · exact h.cell 4
  · exact h.cell 5
  · exact h.cell 6
  · exact h.cell 7
theorem evals (z l m : Int) (nm : List B8) (w : World) :
    Calls Try.prog 30 #[.agg (crow z l m nm)] w fun e w' => e = .returned (.slice (some ⟨w.heap.size + 1, 0, none⟩) 8 8) ∧ Table w' (w.heap.size + 1) z l m nm ∧ Below w.heap.size w w' := by
  have hmf : ∀ (fn : Fn) (first cap : Array Value) (w : World), (Instr.makeFunc fn first cap).run Try.prog w = .ok (.func fn first cap) w := fun _ _ _ _ => rfl
  go_enter Try.func30, Try.ntmps30
  go_wp2
  go_ret
  exact ⟨rfl, Table.mk (Whole.at_ _ _ _ _ (by simp)), two_below _ _ _⟩
end Go.Proofs.Ytbbkjdckogcbgaa
