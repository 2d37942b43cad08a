/-
  KBl2
-/
import Derived.Great.Walk
import Derived.Test.YteekdhcffiaaaaaDoorPk15
import Derived.Test.YteekdhcffiaaaaaDoorPk18
namespace Go.Proofs.YteekdhcffiaaaaaDoor
open Go Go.RowKit Sh Leaf

def zmr : Array Value := ((List.replicate 32 (Value.int .u8 0) ++ (Value.slice none 0 0 :: List.replicate 32 (Value.int .u8 0)) : List Value)).toArray
set_option maxRecDepth 100000 in
theorem bs_mac (x : MeM) : Tryd.prog.builtSlice 69 1 [(0, .agg (mcl x).toArray)] = some (mcl x).toArray := by
  unfold mcl
  obtain ⟨a0, a1, a2, a3, a4, a5, a6, a7, a8, a9, a10, a11, a12, a13, a14, a15, a16, a17, a18, a19, a20, a21, a22, a23, a24, a25, a26, a27, a28, a29, a30, a31, hk⟩ := ex32 (p32 x.e.key) (p32_length _)
  obtain ⟨b0, b1, b2, b3, b4, b5, b6, b7, b8, b9, b10, b11, b12, b13, b14, b15, b16, b17, b18, b19, b20, b21, b22, b23, b24, b25, b26, b27, b28, b29, b30, b31, ht⟩ := ex32 (p32 x.e.tag) (p32_length _)
  rw [hk, ht]
  generalize x.e.msg.length = n
  generalize x.A = D
  generalize x.c = c
  clear hk ht
  simp only [List.map_cons, List.map_nil]
  kernel_rfl
theorem yieldsIf_build_as {P : Program} {ops : Array Oper} {S : World → Prop} {op : Oper} {a : Act} (hw : Region.wanted op (yielded ops a.tmps) = true) (t : TypeId) (parts : Array (Nat × Operand)) (ho : op.op = .build t parts)
    (cs : Array Value) (hb : P.built t (parts.map fun (i, x) => (i, a.eval x)).toList = some cs) : YieldsIf P ops S op (.agg cs) a :=
  .inl ⟨hw, fun w _ => by
    unfold execOp
    simp only [ho, Sem.run_bind, run_build w t _ cs hb, Result.andThen_ok, Sem.run_pure]⟩
theorem yieldsIf_build_mac {ops : Array Oper} {S : World → Prop} {op : Oper} {a : Act} (hw : Region.wanted op (yielded ops a.tmps) = true) (x y z : Operand) (ho : op.op = .build 69 #[(0, x), (1, y), (2, z)])
    {e : Me} (hK : e.key.length = 32) (hT : e.tag.length = 32) {D : Option Addr} {c : Nat} (hx : a.eval x = .agg (e.key.map byt).toArray) (hy : a.eval y = .slice D e.msg.length c) (hz : a.eval z = .agg (e.tag.map byt).toArray) : YieldsIf Tryd.prog ops S op (.agg (mcl ⟨e, D, c⟩).toArray) a := by
  refine yieldsIf_build_as hw 69 _ ho _ ?_
  have e1 : (#[(0, x), (1, y), (2, z)].map fun (i, x) => (i, a.eval x)).toList = [(0, .agg (e.key.map byt).toArray), (1, .slice D e.msg.length c), (2, .agg (e.tag.map byt).toArray)] := by simp [hx, hy, hz]
  rw [e1, built_mac hK hT]
  unfold mcl
  rw [p32_eq hK, p32_eq hT]
end Go.Proofs.YteekdhcffiaaaaaDoor
