/-
  What the rows of layer 6 give: the library's variables as the program's text lays them (Std); a predicate as a parameter.
-/
import Derived.HandedShaped
import Derived.Lay
import Derived.Lib.LaidU8
import Derived.Shelf.Vars
import Derived.Test.YtpodgmmgphibfaaDoorPk5
import Derived.Test.YtpodgmmgphibfaaDoorPk7
namespace Go.Proofs.YtpodgmmgphibfaaDoor
open Go Go.ChangeShapes Go.WideShapes Go.ChangeAt Go.RowKit Sh Leaf

theorem prd_own : ownKnob Tryd.prog.godebug = none := by kernel_rfl
theorem prd_laidOut : laidOutB Tryd.prog = true := by kernel_rfl
abbrev prdLaid : List (String × DataW Unit) := [("math/bits.deBruijn32tab", Rows.laid_math_bits_deBruijn32tab), ("math/bits.deBruijn64tab", Rows.laid_math_bits_deBruijn64tab), ("internal/strconv.uint64pow10", Rows.laid_internal_strconv_uint64pow10), ("unicode/utf8.acceptRanges", Rows.laid_unicode_utf8_acceptRanges), ("strconv.ErrRange", Rows.laid_strconv_ErrRange), ("strconv.ErrSyntax", Rows.laid_strconv_ErrSyntax), ("unicode/utf8.first", Rows.laid_unicode_utf8_first)]
theorem g64 : Tryd.prog.globalNamed "math/bits.deBruijn64tab" = some 0 := by kernel_rfl
theorem gpow : Tryd.prog.globalNamed "internal/strconv.uint64pow10" = some 2 := by kernel_rfl
theorem gsyn : Tryd.prog.globalNamed "strconv.ErrSyntax" = some 3 := by kernel_rfl
theorem grng : Tryd.prog.globalNamed "strconv.ErrRange" = some 4 := by kernel_rfl
theorem t64 : (Tryd.prog.globals[0]?).map (·.type) = some 103 := by kernel_rfl
theorem tpow : (Tryd.prog.globals[2]?).map (·.type) = some 129 := by kernel_rfl
theorem tsyn : (Tryd.prog.globals[3]?).map (·.type) = some 109 := by kernel_rfl
theorem trng : (Tryd.prog.globals[4]?).map (·.type) = some 109 := by kernel_rfl
theorem c_u8 : Tryd.prog.cellsOf 5 = 1 := by kernel_rfl
theorem c_u64 : Tryd.prog.cellsOf 22 = 1 := by kernel_rfl
theorem c_64 : Tryd.prog.cellsOf 103 = 64 := by kernel_rfl
theorem c_20 : Tryd.prog.cellsOf 129 = 20 := by kernel_rfl
theorem laid64 : Rows.laid_math_bits_deBruijn64tab = (Lib.tabData .u8 (Lib.deBruijn64tab.map Int.ofNat) : DataW Unit) := by kernel_rfl
theorem laidpow : Rows.laid_internal_strconv_uint64pow10 = (Lib.tabData .u64 Lib.pow10Tab : DataW Unit) := by kernel_rfl

theorem std_of_laid {W : World} (hs : W.ShapedOpen Tryd.prog) (h : laidMetH Tryd.prog prdLaid W) : Std W := by
  rw [MakeChecks.laidMetH_plain _ _ _ (by kernel_rfl)] at h
  have r64 := Lib.laidMet.reads h (n := "math/bits.deBruijn64tab") (d := Rows.laid_math_bits_deBruijn64tab) (.tail _ (.head _))
  have rpow := Lib.laidMet.reads h (n := "internal/strconv.uint64pow10") (d := Rows.laid_internal_strconv_uint64pow10) (.tail _ (.tail _ (.head _)))
  have rrng := Lib.laidMet.reads h (n := "strconv.ErrRange") (d := Rows.laid_strconv_ErrRange) (.tail _ (.tail _ (.tail _ (.tail _ (.head _)))))
  have rsyn := Lib.laidMet.reads h (n := "strconv.ErrSyntax") (d := Rows.laid_strconv_ErrSyntax) (.tail _ (.tail _ (.tail _ (.tail _ (.tail _ (.head _))))))
  rw [laid64] at r64
  rw [laidpow] at rpow
  refine ⟨?_, ?_, ?_, ?_, ?_⟩
  · obtain ⟨g, t, cs, fuel, p, h1, h2, h3, h4⟩ := rpow
    obtain rfl := Option.some.inj (gpow.symm.trans h1)
    obtain rfl := Option.some.inj (tpow.symm.trans h2)
    have e := Lib.cells_of_tab Tryd.underlying129 Tryd.underlying22 c_u64 c_20 h4
    unfold Lib.TabIs
    rw [h3, ← e]
  · obtain ⟨g, t, cs, fuel, p, h1, h2, h3, h4⟩ := r64
    obtain rfl := Option.some.inj (g64.symm.trans h1)
    obtain rfl := Option.some.inj (t64.symm.trans h2)
    have e := Lib.cells_of_tab Tryd.underlying103 Tryd.underlying5 c_u8 c_64 h4
    intro j hj
    rw [World.var?_cell h1 h3 j, ← Array.getElem?_toList, e, List.getElem?_map, List.getElem?_map, List.getElem?_eq_getElem hj, List.getD_eq_getElem?_getD, List.getElem?_eq_getElem hj]
    rfl
  · exact cell_of_shapedOpen_int (zero := #[.int .i64 0]) hs (of_decide_eq_true (by kernel_rfl)) (by kernel_rfl) (by kernel_rfl) (by kernel_rfl) (by kernel_rfl) Tryd.underlying3
  · obtain ⟨g, t, cs, fuel, p, h1, h2, h3, h4⟩ := rsyn
    obtain rfl := Option.some.inj (tsyn.symm.trans (by rw [← h2, Option.some.inj (gsyn.symm.trans h1)]))
    obtain ⟨_, u, v, e, _⟩ := iface_of_trod Tryd.underlying109 h4
    exact ⟨u, v, by rw [h3]; congr 1; exact Array.toList_inj.1 e⟩
  · obtain ⟨g, t, cs, fuel, p, h1, h2, h3, h4⟩ := rrng
    obtain rfl := Option.some.inj (trng.symm.trans (by rw [← h2, Option.some.inj (grng.symm.trans h1)]))
    obtain ⟨_, u, v, e, _⟩ := iface_of_trod Tryd.underlying109 h4
    exact ⟨u, v, by rw [h3]; congr 1; exact Array.toList_inj.1 e⟩

set_option maxRecDepth 100000 in
/-- The wrap of a row that lists variables, the world's shape kept. -/
theorem handed_laid {H : Type} {enc : TypeId × Value → H} {os : Os} {f : FuncId} {fn : Func} {s : ChangeSpec} {conds : List PathCond} {laid : List (String × DataW Unit)}
    (own : ownKnob Tryd.prog.godebug = none) (started : os.Started) (noInit : Tryd.prog.inits.idxOf? f = none) (hfn : Tryd.prog.funcs[f]? = some fn)
    (witness : ∃ (w : World) (tape : Tape) (i : Input), w.os = os ∧ (w.forCall tape i).Shaped Tryd.prog ∧ i.vars = [] ∧ Input.okWide Tryd.prog (w.forCall tape i) .any w.heap.size f i ∧
      ((s.pre enc Tryd.prog fn conds false (w.forCall tape i).memory i.args ∧ laidMetH Tryd.prog laid (w.forCall tape i).memory) ∧ sizedMet enc Tryd.prog fn (OpenSpec.ofChange s) false (w.forCall tape i).memory i.args) ∧ Assume.holds {} Tryd.prog (lone (Frame.enter Tryd.prog f i.args .normal) [] (w.forCall tape i)))
    (contract : ∀ (W : World) (args : Array Value) (base : Nat) (ds gs : List (DataW H)) (before : List MemPlace),
      (∀ (j : Nat) t v, fn.params[j]? = some t → args[j]? = some v → Value.okWide Tryd.prog W .any base t v) →
      DataW.Whole enc Tryd.prog fn.params.toList s.vars false W args.toList ds gs before →
      laidMetH Tryd.prog laid W → W.ShapedOpen Tryd.prog →
      Calls Tryd.prog f args W fun e W' => ∃ v, e = .returned v ∧ s.post enc Tryd.prog fn false true false false W args v W') :
    ReturnsInHanded {} Tryd.checked os f .any (fun w args => (s.pre enc Tryd.prog fn conds false w args ∧ laidMetH Tryd.prog laid w) ∧ sizedMet enc Tryd.prog fn (OpenSpec.ofChange s) false w args) (s.post enc Tryd.prog fn false true false false) := by
  refine returnsInHanded_of_calls (C := Tryd.checked) own started noInit witness ?_
  intro w tape i _ hsh _ hok hpre _
  obtain ⟨_, _, _, fn', hfn', _, _, _, _, hval⟩ := hok
  obtain rfl : fn' = fn := Option.some.inj (hfn'.symm.trans hfn)
  obtain ⟨⟨⟨ds, gs, before, hw, _⟩, hx⟩, _⟩ := hpre
  refine (contract (w.forCall tape i) i.args w.heap.size ds gs before hval (DataW.Whole.of_heap (w' := w.forCall tape i) (by rfl) hw) (laidMetH.of_heap (by rfl) hx) hsh).mono fun e W' ⟨v, he, hp⟩ => ?_
  subst he
  exact ChangeSpec.post_blind hp

section
variable {H : Type} {enc : TypeId × Value → H} {w : World} {base : Nat} {spare : Nat → Bool} {held : Bool}
set_option maxRecDepth 100000 in
/-- A predicate as a parameter. -/
theorem prd_of_arg {r : Reach} {b0 : Nat} {v : Value} {d : DataW H} {p : List MemPlace} (hv : Value.okWide Tryd.prog w r b0 24 v) (h : DataW.Trod enc Tryd.prog w base spare held 24 v d p) :
    ∃ q : Prd, v = pv q ∧ q.mask < 18446744073709551616 ∧ q.name.length ≤ 9223372036854775807 := by
  obtain ⟨cs, rfl, hsz, hc⟩ := open_cells Tryd.underlying24 (by kernel_rfl) (by kernel_rfl) hv h
  obtain ⟨n0, y0, a0, e0, h0⟩ := hc 0 _ rfl
  obtain ⟨n1, y1, a1, e1, h1⟩ := hc 1 _ rfl
  obtain ⟨n2, y2, a2, e2, h2⟩ := hc 2 _ rfl
  obtain ⟨n3, y3, a3, e3, h3⟩ := hc 3 _ rfl
  obtain ⟨n4, y4, a4, e4, h4⟩ := hc 4 _ rfl
  obtain ⟨n5, y5, a5, e5, h5⟩ := hc 5 _ rfl
  obtain ⟨z0, rfl, _⟩ := cell_int Tryd.underlying3 h0
  obtain ⟨z1, rfl, w1⟩ := cell_int Tryd.underlying22 h1
  obtain ⟨z2, rfl, _⟩ := cell_int Tryd.underlying3 h2
  obtain ⟨z3, rfl, _⟩ := cell_int Tryd.underlying3 h3
  obtain ⟨l4, rfl, hl⟩ := cell_str Tryd.underlying9 h4
  obtain ⟨z5, rfl, _⟩ := cell_int Tryd.underlying3 h5
  have hw1 : 0 ≤ z1 ∧ z1 < 18446744073709551616 := by simp [Lit.wf, IntKind.min, IntKind.max, IntKind.signed, IntKind.bits] at w1; omega
  obtain ⟨m, rfl⟩ := Int.eq_ofNat_of_zero_le hw1.1
  refine ⟨⟨z0, m, z2, z3, l4, z5⟩, ?_, by show m < 18446744073709551616; omega, hl⟩
  unfold pv
  congr 1
  have hs6 : cs.size = 6 := hsz
  apply Array.ext_getElem?
  intro i
  match i with
  | 0 => exact e0
  | 1 => exact e1
  | 2 => exact e2
  | 3 => exact e3
  | 4 => exact e4
  | 5 => exact e5
  | i + 6 => rw [Array.getElem?_eq_none (by omega), Array.getElem?_eq_none (by simp)]
end
end Go.Proofs.YtpodgmmgphibfaaDoor
