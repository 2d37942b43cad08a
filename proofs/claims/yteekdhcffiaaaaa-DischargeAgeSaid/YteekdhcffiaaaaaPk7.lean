/-
  KAlg
  KBld
  AlgSpec
-/
import Derived.Deep.CutBlock
import Derived.Test.YteekdhcffiaaaaaPk1
import Derived.Test.YteekdhcffiaaaaaPk0
namespace Go.Proofs.Yteekdhcffiaaaaa
open Go Go.RowKit Sh Leaf

theorem byt_one (l : List B8) : ∀ x ∈ l.map byt, x.oneCell' = true := by
  intro x hx
  obtain ⟨y, _, rfl⟩ := List.mem_map.1 hx
  rfl


def p32 (l : List B8) : List B8 := (l ++ List.replicate 32 0).take 32
theorem p32_length (l : List B8) : (p32 l).length = 32 := by unfold p32; rw [List.length_take]; simp
theorem p32_eq {l : List B8} (h : l.length = 32) : p32 l = l := by unfold p32; rw [List.take_left' h]
theorem p32_cells (l : List B8) : ((p32 l).map byt).length = 32 := by rw [List.length_map, p32_length]
variable {w : World} {g : Nat}
theorem tagSize : (Try.prog.info? 28).map (·.size) = some 32 := by kernel_rfl
abbrev TGRow (w : World) (g : Nat) (l : List B8) : Prop := Whole w g 28 (l.map byt).toArray
theorem TGRow.range {l : List B8} (h : TGRow w g l) : w.rangeAt g 0 (l.map byt) := fun j v hj => by
  rw [Nat.zero_add, Whole.cell h, List.getElem?_toArray]
  exact hj
theorem wpList_store_tag {ops : Array Oper} {rest : List Oper} {o : Oper} {a : Act} {Q : Exit → Act → World → Prop} (hgd : o.guard = none) (x y : Operand) (ho : o.op = .store 28 x y)
    (hx : a.eval x = .pointer (some ⟨g, 0, none⟩)) {cs cs' : Array Value} (hy : a.eval y = .agg cs') (hg : Whole w g 28 cs) (h8 : cs.size = 32) (h8' : cs'.size = 32) (hone : cs'.all (·.oneCell') = true)
    (h : wpList Try.prog ops Q rest (a.put o.dst undef) (w.setRow g cs')) : wpList Try.prog ops Q (o :: rest) a w :=
  wpList_store_row hgd 28 x y ho g _ hx hy 28 _ hg (by rw [tagSize, h8']) (by rw [h8, h8']) hone h
theorem wpList_load_tag {ops : Array Oper} {rest : List Oper} {o : Oper} {a : Act} {Q : Exit → Act → World → Prop} (hgd : o.guard = none) (x : Operand) (ho : o.op = .load 28 x)
    (hx : a.eval x = .pointer (some ⟨g, 0, none⟩)) {cs : Array Value} (hg : Whole w g 28 cs) (h8 : cs.size = 32) (h : wpList Try.prog ops Q rest (a.put o.dst (.agg cs)) w) : wpList Try.prog ops Q (o :: rest) a w :=
  wpList_load_row hgd 28 x ho g hx 28 _ (0, 0) _ hg Try.underlying28 rfl (by rw [tagSize, h8]) h
theorem tag_size {l : List B8} (h : l.length = 32) : (l.map byt).toArray.size = 32 := by rw [List.size_toArray, List.length_map, h]
theorem tag_one (l : List B8) : (l.map byt).toArray.all (·.oneCell') = true := all_oneCell_toArray (byt_one _)
theorem zeroTag : (#[.int .u8 0, .int .u8 0, .int .u8 0, .int .u8 0, .int .u8 0, .int .u8 0, .int .u8 0, .int .u8 0, .int .u8 0, .int .u8 0, .int .u8 0, .int .u8 0, .int .u8 0, .int .u8 0, .int .u8 0, .int .u8 0, .int .u8 0, .int .u8 0, .int .u8 0, .int .u8 0, .int .u8 0, .int .u8 0, .int .u8 0, .int .u8 0, .int .u8 0, .int .u8 0, .int .u8 0, .int .u8 0, .int .u8 0, .int .u8 0, .int .u8 0, .int .u8 0] : Array Value) = ((List.replicate 32 (0 : B8)).map byt).toArray := by
  simp only [List.map_replicate, byt, bv_zero]
  rfl
@[irreducible] def ztr : Array Value := ((List.replicate 32 (0 : B8)).map byt).toArray
theorem ztr_lit : (#[.int .u8 0, .int .u8 0, .int .u8 0, .int .u8 0, .int .u8 0, .int .u8 0, .int .u8 0, .int .u8 0, .int .u8 0, .int .u8 0, .int .u8 0, .int .u8 0, .int .u8 0, .int .u8 0, .int .u8 0, .int .u8 0, .int .u8 0, .int .u8 0, .int .u8 0, .int .u8 0, .int .u8 0, .int .u8 0, .int .u8 0, .int .u8 0, .int .u8 0, .int .u8 0, .int .u8 0, .int .u8 0, .int .u8 0, .int .u8 0, .int .u8 0, .int .u8 0] : Array Value) = ztr := by
  rw [zeroTag]; unfold ztr; rfl
theorem ztr_eq : ztr = ((List.replicate 32 (0 : B8)).map byt).toArray := by unfold ztr; rfl
theorem ztr_row {w : World} {g : Nat} (h : Whole w g 28 ztr) : TGRow w g (List.replicate 32 0) := by rw [ztr_eq] at h; exact h
end Go.Proofs.Yteekdhcffiaaaaa
namespace Go.Proofs.Yteekdhcffiaaaaa
open Go Go.RowKit Sh Leaf

theorem ex32 {α : Type} (l : List α) (h : l.length = 32) : ∃ a0 a1 a2 a3 a4 a5 a6 a7 a8 a9 a10 a11 a12 a13 a14 a15 a16 a17 a18 a19 a20 a21 a22 a23 a24 a25 a26 a27 a28 a29 a30 a31 : α, l = [a0, a1, a2, a3, a4, a5, a6, a7, a8, a9, a10, a11, a12, a13, a14, a15, a16, a17, a18, a19, a20, a21, a22, a23, a24, a25, a26, a27, a28, a29, a30, a31] := by
  match l, h with
  | [a0, a1, a2, a3, a4, a5, a6, a7, a8, a9, a10, a11, a12, a13, a14, a15, a16, a17, a18, a19, a20, a21, a22, a23, a24, a25, a26, a27, a28, a29, a30, a31], _ => exact ⟨a0, a1, a2, a3, a4, a5, a6, a7, a8, a9, a10, a11, a12, a13, a14, a15, a16, a17, a18, a19, a20, a21, a22, a23, a24, a25, a26, a27, a28, a29, a30, a31, rfl⟩
end Go.Proofs.Yteekdhcffiaaaaa
namespace Go.Proofs.Yteekdhcffiaaaaa
open Go Go.RowKit Sh Leaf

abbrev tagv (l : List B8) : Value := .agg (l.map byt).toArray
abbrev ztag : List B8 := List.replicate 32 0
end Go.Proofs.Yteekdhcffiaaaaa
