/-
  The reference's Of: its blocks.
  A list of valid predicates that is not too long has a summary.
-/
import Derived.Deep.DeepCutAuto
import Derived.BigQuiet
import Derived.Test.YtgbcncfhmnhljaaDoorPk10
import Derived.Test.YtgbcncfhmnhljaaDoorPk29
import Derived.Test.YtgbcncfhmnhljaaDoorPk30
import Derived.Test.YtgbcncfhmnhljaaDoorKAnyG
namespace Go.Proofs.YtgbcncfhmnhljaaDoor
open Go Go.RowKit Sh Leaf

theorem results_aut2 {w : World} {g : Nat} {fn : Func} {p q : Tmp} (h : fn.results = #[.cell p 25, .tmp q]) (tmps : Array Value) (hp : tmps.getD p undef = .pointer (some ⟨g, 0, none⟩)) (x : Value) (hq : tmps.getD q undef = x) {cs : Array Value} (h8 : cs.size = 8) (hg : Whole w g 25 cs) :
    (results fn tmps).run Tryd.prog w = .ok (.tuple #[.agg cs, x]) w := by
  have hp' : tmps[p]?.getD undef = .pointer (some ⟨g, 0, none⟩) := by simpa using hp
  have hq' : tmps[q]?.getD undef = x := by simpa using hq
  simp [results, h, hp', hq', asAddr, run_loadVar_row w g 25 25 _ (0, 0) _ hg Tryd.underlying25 rfl (by rw [autSize, h8])]
/-- What Of answers. -/
def OfR (l : List Prd) (m : Aut) (er : Int) : Prop :=
  (64 < l.length ∧ m = zeroA ∧ er = 2) ∨ (l.length ≤ 64 ∧ (¬ ∀ p ∈ l, pok p) ∧ m = zeroA ∧ er = 5) ∨ (l.length ≤ 64 ∧ (∀ p ∈ l, pok p) ∧ IsSet (holdsAll l) m ∧ er = 0)
/-- The blocks of Of while it goes through the list. -/
structure Ofw (w wx : World) (GA GT : Nat) (v : Value) (Z Ln F L D : Nat) (M : Nat → Bool) (h : List B8) : Prop where
  r : ARow wx w.heap.size false 0 0 0 0 0 (.slice none 0 0) []
  a : ARow wx GA false Z Ln 127 0 67108864 v h
  t : TRow wx GT F L D M
  low : Below w.heap.size w wx
theorem Ofw.below {w wx wy : World} {GA GT : Nat} {v : Value} {Z Ln F L D : Nat} {M : Nat → Bool} {h : List B8} (H : Ofw w wx GA GT v Z Ln F L D M h) {B : Nat} (hb : Below B wx wy) (h1 : w.heap.size < B) (h2 : GA < B) (h3 : GT < B) : Ofw w wy GA GT v Z Ln F L D M h :=
  ⟨Whole.below H.r hb h1, Whole.below H.a hb h2, Whole.below H.t hb h3, H.low.trans (hb.mono (by omega))⟩
theorem Ofw.congr {w wx : World} {GA GT : Nat} {v : Value} {Z Ln F L D : Nat} {M N : Nat → Bool} {h : List B8} (H : Ofw w wx GA GT v Z Ln F L D M h) (e : ∀ k, k < 1440 → M k = N k) : Ofw w wx GA GT v Z Ln F L D N h := ⟨H.r, H.a, H.t.congr e, H.low⟩
section
variable {w wx : World} {GA GT : Nat} {v : Value} {Z Ln F L D : Nat} {M : Nat → Bool} {h : List B8}
theorem Ofw.zones (H : Ofw w wx GA GT v Z Ln F L D M h) (hne : ¬ GA = GT) (h0 : w.heap.size < GA) (x : Nat) : Ofw w (wx.setCell ⟨GA, 1, none⟩ (.int .u64 (x : Int))) GA GT v x Ln F L D M h :=
  ⟨Whole.far H.r (a := ⟨GA, 1, none⟩) (by show w.heap.size ≠ GA; omega) _, ARow.set1 H.a x, Whole.far H.t (a := ⟨GA, 1, none⟩) (by show GT ≠ GA; omega) _, H.low.setCell (p := ⟨GA, 1, none⟩) (by show w.heap.size ≤ GA; omega) _⟩
theorem Ofw.lines (H : Ofw w wx GA GT v Z Ln F L D M h) (hne : ¬ GA = GT) (h0 : w.heap.size < GA) (x : Nat) : Ofw w (wx.setCell ⟨GA, 2, none⟩ (.int .u64 (x : Int))) GA GT v Z x F L D M h :=
  ⟨Whole.far H.r (a := ⟨GA, 2, none⟩) (by show w.heap.size ≠ GA; omega) _, ARow.set2 H.a x, Whole.far H.t (a := ⟨GA, 2, none⟩) (by show GT ≠ GA; omega) _, H.low.setCell (p := ⟨GA, 2, none⟩) (by show w.heap.size ≤ GA; omega) _⟩
theorem Ofw.holder (H : Ofw w wx GA GT v Z Ln F L D M h) (hne : ¬ GA = GT) (h0 : w.heap.size < GA) (x : List B8) : Ofw w (wx.setCell ⟨GA, 7, none⟩ (.string (sof x))) GA GT v Z Ln F L D M x :=
  ⟨Whole.far H.r (a := ⟨GA, 7, none⟩) (by show w.heap.size ≠ GA; omega) _, ARow.set7 H.a x, Whole.far H.t (a := ⟨GA, 7, none⟩) (by show GT ≠ GA; omega) _, H.low.setCell (p := ⟨GA, 7, none⟩) (by show w.heap.size ≤ GA; omega) _⟩
theorem Ofw.days (H : Ofw w wx GA GT v Z Ln F L D M h) (hne : ¬ GA = GT) (h0 : w.heap.size < GT) (x : Nat) : Ofw w (wx.setCell ⟨GT, 2, none⟩ (.int .u64 (x : Int))).drew GA GT v Z Ln F L x M h :=
  ⟨Whole.far H.r (a := ⟨GT, 2, none⟩) (by show w.heap.size ≠ GT; omega) _, Whole.far H.a (a := ⟨GT, 2, none⟩) (by show GA ≠ GT; omega) _, TRow.set2 H.t x, (H.low.setCell (p := ⟨GT, 2, none⟩) (by show w.heap.size ≤ GT; omega) _).drew⟩
theorem Ofw.span (H : Ofw w wx GA GT v Z Ln F L D M h) (hne : ¬ GA = GT) (h0 : w.heap.size < GT) (x y : Nat) : Ofw w ((wx.setCell ⟨GT, 0, none⟩ (.int .i64 (x : Int))).setCell ⟨GT, 1, none⟩ (.int .i64 (y : Int))).drew GA GT v Z Ln x y D M h :=
  ⟨Whole.far (Whole.far H.r (a := ⟨GT, 0, none⟩) (by show w.heap.size ≠ GT; omega) _) (a := ⟨GT, 1, none⟩) (by show w.heap.size ≠ GT; omega) _, Whole.far (Whole.far H.a (a := ⟨GT, 0, none⟩) (by show GA ≠ GT; omega) _) (a := ⟨GT, 1, none⟩) (by show GA ≠ GT; omega) _, TRow.set1 (TRow.set0 H.t x) y, ((H.low.setCell (p := ⟨GT, 0, none⟩) (by show w.heap.size ≤ GT; omega) _).setCell (p := ⟨GT, 1, none⟩) (by show w.heap.size ≤ GT; omega) _).drew⟩
theorem Ofw.flag (H : Ofw w wx GA GT v Z Ln F L D M h) (hne : ¬ GA = GT) (h0 : w.heap.size < GT) (k : Nat) (hk : k < 1440) (b : Bool) : Ofw w (wx.setCell ⟨GT, 3 + k, none⟩ (.bool b)).drew GA GT v Z Ln F L D (fun j => if j = k then b else M j) h :=
  ⟨Whole.far H.r (a := ⟨GT, 3 + k, none⟩) (by show w.heap.size ≠ GT; omega) _, Whole.far H.a (a := ⟨GT, 3 + k, none⟩) (by show GA ≠ GT; omega) _, TRow.setm H.t k hk b, (H.low.setCell (p := ⟨GT, 3 + k, none⟩) (by show w.heap.size ≤ GT; omega) _).drew⟩
end
end Go.Proofs.YtgbcncfhmnhljaaDoor
namespace Go.Proofs.YtgbcncfhmnhljaaDoor
open Go Go.RowKit Sh Leaf

theorem of_ok {l : List Prd} {m : Aut} {er : Int} (hr : OfR l m er) (hl : l.length ≤ 64) (hp : ∀ p ∈ l, pok p) : IsSet (holdsAll l) m ∧ er = 0 := by
  rcases hr with ⟨h, _⟩ | ⟨_, h, _⟩ | ⟨_, _, h, e⟩
  · omega
  · exact absurd hp h
  · exact ⟨h, e⟩
end Go.Proofs.YtgbcncfhmnhljaaDoor
