/-
  KPsn
-/
import Derived.Deep.RegionHeld3
import Derived.Great.Walk
import Derived.Test.YteekdhcffiaaaaaDoorPk0
import Derived.Test.YteekdhcffiaaaaaDoorPk3
import Derived.Test.YteekdhcffiaaaaaDoorPk5
import Derived.Test.YteekdhcffiaaaaaDoorPk19
namespace Go.Proofs.YteekdhcffiaaaaaDoor
open Go Go.RowKit Sh Leaf

def pnl (x : Psn) : List Value := [.string (sof x.name), .int .i64 x.born]
theorem pnl_len (x : Psn) : (pnl x).length = 2 := rfl
theorem pnl_one (x : Psn) : ∀ v ∈ pnl x, v.oneCell' = true := by
  intro v hv
  simp only [pnl, List.mem_cons] at hv
  rcases hv with rfl | rfl | hv
  · rfl
  · rfl
  · cases hv
def pnok (x : Psn) : Prop := nmok x.name ∧ -67108864 ≤ x.born ∧ x.born ≤ 0
abbrev Psns (w : World) (Q : Nat → Prop) (A : Option Addr) (c : Nat) (l : List Psn) : Prop := Seq pnl pnok w Q A c l
def zpsn : Value := .agg #[.string ⟨#[]⟩, .int .i64 0]
theorem zpsn_size : zpsn.cells.size = 2 := rfl
theorem psnInfo : (Tryd.prog.info? 92).map (fun i => (i.zero, i.size, i.bytes)) = some (some zpsn, 2, 24) := by kernel_rfl
theorem built_psn (s : ByteArray) (z : Int) : Tryd.prog.built 92 [(0, .string s), (1, .int .i64 z)] = some #[.string s, .int .i64 z] := by kernel_rfl
theorem bs_psn (x : Psn) : Tryd.prog.builtSlice 92 1 [(0, .agg (pnl x).toArray)] = some (pnl x).toArray := by
  obtain ⟨s, z⟩ := x
  unfold pnl
  dsimp only
  generalize sof s = s
  kernel_rfl
theorem yieldsIf_build_psn {ops : Array Oper} {S : World → Prop} {op : Oper} {a : Act} (hw : Region.wanted op (yielded ops a.tmps) = true) (x y : Operand) (ho : op.op = .build 92 #[(0, x), (1, y)])
    {s : List B8} {z : Int} (hx : a.eval x = .string (sof s)) (hy : a.eval y = .int .i64 z) : YieldsIf Tryd.prog ops S op (.agg (pnl ⟨s, z⟩).toArray) a := by
  refine yieldsIf_build_as hw 92 _ ho _ ?_
  have e1 : (#[(0, x), (1, y)].map fun (i, x) => (i, a.eval x)).toList = [(0, .string (sof s)), (1, .int .i64 z)] := by simp [hx, hy]
  rw [e1, built_psn]
  rfl
theorem step_buildSlice_psn {w : World} {ops : Array Oper} {o : Oper} {a : Act} {K : Act → World → Prop} {R : Exit → Act → World → Prop} {E : Prop} (hw : Region.wanted o (yielded ops a.tmps) = true) (x : Operand) (ho : o.op = .buildSlice 34 1 #[(0, x)])
    {X : Psn} (hx : a.eval x = .agg (pnl X).toArray) (h : K (a.put o.dst (.slice (some ⟨w.heap.size, 0, none⟩) 1 1)) (w.alloc (.cells (pnl X).toArray 92))) :
    if Region.wanted o (yielded ops a.tmps) = true then Oper.wp Tryd.prog o a w K R else E := by
  rw [if_pos hw]
  have hf := bs_psn X
  unfold Program.builtSlice at hf
  cases hie : Tryd.prog.info? 92 with
  | none => simp [hie] at hf
  | some ie =>
    simp only [hie] at hf
    cases hz : ie.zero with
    | none => simp [hz] at hf
    | some z =>
      simp only [hz] at hf
      by_cases hc : 1 * ie.size > 2 ^ 24 ∨ 1 * ie.size = 0
      · rw [if_pos hc] at hf; cases hf
      · rw [if_neg hc] at hf
        have e1 : (#[(0, x)].map fun (i, x) => (i, a.eval x)).toList = [(0, .agg (pnl X).toArray)] := by simp [hx]
        refine wp_buildSlice 34 92 1 _ ho (pnl X).toArray ie z Tryd.underlying34 hie hz (fun h' => hc (Or.inl h')) (fun h' => hc (Or.inr h')) ?_ h
        rw [e1]
        exact hf

end Go.Proofs.YteekdhcffiaaaaaDoor
