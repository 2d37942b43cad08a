/-
  TkOpn
  KAdd
  TkBlk
  TkLw
-/
import Derived.Deep.CutBlock
import Derived.Test.YteekdhcffiaaaaaPk7
import Derived.Test.YteekdhcffiaaaaaPk5
namespace Go.Proofs.Yteekdhcffiaaaaa
open Go Go.RowKit Sh Leaf

def cnl (z : Int) (K : List B8) (vp : Value) : List Value := .int .i64 z :: ((p32 K).map byt ++ [vp])
theorem cnl_len (z : Int) (K : List B8) (vp : Value) : (cnl z K vp).length = 34 := by unfold cnl; simp only [List.length_cons, List.length_append, p32_cells, List.length_nil]
theorem cnl_size (z : Int) (K : List B8) (vp : Value) : (cnl z K vp).toArray.size = 34 := by rw [List.size_toArray, cnl_len]
theorem cnSize : (Try.prog.info? 31).map (·.size) = some 34 := by kernel_rfl
theorem cnl_one (z : Int) (K : List B8) (A : Option Addr) (n c : Nat) : (cnl z K (.slice A n c)).toArray.all (·.oneCell') = true := all_oneCell_toArray (by
  intro v hv
  unfold cnl at hv
  simp only [List.mem_cons, List.mem_append] at hv
  rcases hv with rfl | hv | rfl | hv
  · rfl
  · exact byt_one _ v hv
  · rfl
  · cases hv)
end Go.Proofs.Yteekdhcffiaaaaa
namespace Go.Proofs.Yteekdhcffiaaaaa
open Go Go.RowKit Sh Leaf

theorem to_sof (l : List B8) (z : Int) (k : Nat) (hz : z = (k : Int)) (hk : k ≤ l.length) (W : World) : (Instr.slice 9 (.string (sof l)) none (some (.int .i64 z)) none).run Try.prog W = .ok (.string (sof (l.take k))) W := by
  subst hz
  rw [run_slice_string_to_if W 9 _ .i64 (k : Int) Try.underlying9, if_pos ⟨by omega, by rw [sof_size]; omega⟩, Int.toNat_natCast, sof_to]
end Go.Proofs.Yteekdhcffiaaaaa
namespace Go.Proofs.Yteekdhcffiaaaaa
open Go Go.RowKit Sh Leaf

@[irreducible] def zbk : Array Value := #[.int .i64 0, .int .u8 0, .int .u8 0, .int .u8 0, .int .u8 0, .int .u8 0, .int .u8 0, .int .u8 0, .int .u8 0, .int .u8 0, .int .u8 0, .int .u8 0, .int .u8 0, .int .u8 0, .int .u8 0, .int .u8 0, .int .u8 0, .int .u8 0, .int .u8 0, .int .u8 0, .int .u8 0, .int .u8 0, .int .u8 0, .int .u8 0, .int .u8 0, .int .u8 0, .int .u8 0, .int .u8 0, .int .u8 0, .int .u8 0, .int .u8 0, .int .u8 0, .int .u8 0, .slice none 0 0]
theorem zbk_lit : (#[.int .i64 0, .int .u8 0, .int .u8 0, .int .u8 0, .int .u8 0, .int .u8 0, .int .u8 0, .int .u8 0, .int .u8 0, .int .u8 0, .int .u8 0, .int .u8 0, .int .u8 0, .int .u8 0, .int .u8 0, .int .u8 0, .int .u8 0, .int .u8 0, .int .u8 0, .int .u8 0, .int .u8 0, .int .u8 0, .int .u8 0, .int .u8 0, .int .u8 0, .int .u8 0, .int .u8 0, .int .u8 0, .int .u8 0, .int .u8 0, .int .u8 0, .int .u8 0, .int .u8 0, .slice none 0 0] : Array Value) = zbk := by unfold zbk; rfl
theorem zbk_size : zbk.size = 34 := by unfold zbk; rfl
end Go.Proofs.Yteekdhcffiaaaaa
namespace Go.Proofs.Yteekdhcffiaaaaa
open Go Go.RowKit Sh Leaf

theorem wpList_store_con {w : World} {g : Nat} {ops : Array Oper} {rest : List Oper} {o : Oper} {a : Act} {Q : Exit → Act → World → Prop} (hgd : o.guard = none) (x y : Operand) (ho : o.op = .store 31 x y)
    (hx : a.eval x = .pointer (some ⟨g, 0, none⟩)) {cs cs' : Array Value} (hy : a.eval y = .agg cs') (hg : Whole w g 31 cs) (h8 : cs.size = 34) (h8' : cs'.size = 34) (hone : cs'.all (·.oneCell') = true)
    (h : wpList Try.prog ops Q rest (a.put o.dst undef) (w.setRow g cs')) : wpList Try.prog ops Q (o :: rest) a w :=
  wpList_store_row hgd 31 x y ho g _ hx hy 31 _ hg (by rw [cnSize, h8']) (by rw [h8, h8']) hone h
theorem wpList_load_con {w : World} {g : Nat} {ops : Array Oper} {rest : List Oper} {o : Oper} {a : Act} {Q : Exit → Act → World → Prop} (hgd : o.guard = none) (x : Operand) (ho : o.op = .load 31 x)
    (hx : a.eval x = .pointer (some ⟨g, 0, none⟩)) {cs : Array Value} (hg : Whole w g 31 cs) (h8 : cs.size = 34) (h : wpList Try.prog ops Q rest (a.put o.dst (.agg cs)) w) : wpList Try.prog ops Q (o :: rest) a w :=
  wpList_load_row hgd 31 x ho g hx 31 _ (0, 0) _ hg Try.underlying31 rfl (by rw [cnSize, h8]) h
end Go.Proofs.Yteekdhcffiaaaaa
