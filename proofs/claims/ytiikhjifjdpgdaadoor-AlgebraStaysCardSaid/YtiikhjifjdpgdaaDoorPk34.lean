/-
  Rows of boxes; a slice of one box; a tag's bytes and zeros behind them.
-/
import Derived.Test.YtiikhjifjdpgdaaDoorPk20
import Derived.Test.YtiikhjifjdpgdaaDoorPk24
namespace Go.Proofs.YtiikhjifjdpgdaaDoor
open Go Go.RowKit Sh Leaf

abbrev zbox : Value := .agg #[.int .u8 0, .int .u8 0, .int .u8 0, .int .u8 0, .int .u8 0, .int .u8 0, .int .u8 0, .int .u8 0, .int .u8 0, .int .u8 0, .int .u8 0, .int .u8 0, .int .u8 0, .int .u8 0, .int .u8 0, .int .u8 0, .int .u8 0, .int .u8 0, .int .u8 0, .int .u8 0, .int .u8 0, .int .u8 0, .int .u8 0, .int .u8 0, .int .u8 0, .int .u8 0, .int .u8 0, .int .u8 0, .int .u8 0, .int .u8 0, .int .u8 0, .int .u8 0, .int .i64 0, .slice none 0 0, .slice none 0 0]
theorem boxInfo : (Tryd.prog.info? 92).map (fun i => (i.zero, i.size, i.bytes)) = some (some zbox, 35, 88) := by kernel_rfl
theorem zbox_size : zbox.cells.size = 35 := rfl
abbrev OwnBc (w : World) (base : Nat) (v : Value) (L : List BxM) : Prop := OwnS bcl 35 92 w base v L
theorem box_ne_u8 : 92 ≠ 5 := by decide
theorem u8_ne_box : 5 ≠ 92 := by decide
set_option maxRecDepth 100000 in
theorem bs_box (x : BxM) : Tryd.prog.builtSlice 92 1 [(0, .agg (bcl x).toArray)] = some (bcl x).toArray := by
  unfold bcl
  obtain ⟨a0, a1, a2, a3, a4, a5, a6, a7, a8, a9, a10, a11, a12, a13, a14, a15, a16, a17, a18, a19, a20, a21, a22, a23, a24, a25, a26, a27, a28, a29, a30, a31, hk⟩ := ex32 (p32 x.e.key) (p32_length _)
  rw [hk]
  generalize x.e.plain.length = n
  generalize x.e.box.length = n2
  generalize x.e.nonce = z
  generalize x.A = D
  generalize x.c = c
  generalize x.A2 = D2
  generalize x.c2 = c2
  clear hk
  simp only [List.map_cons, List.map_nil]
  kernel_rfl
theorem yieldsIf_build_box {ops : Array Oper} {S : World → Prop} {op : Oper} {a : Act} (hw : Region.wanted op (yielded ops a.tmps) = true) (x y z u : Operand) (ho : op.op = .build 92 #[(0, x), (1, y), (2, z), (3, u)])
    {e : Bx} (hK : e.key.length = 32) {D D2 : Option Addr} {c c2 : Nat} (hx : a.eval x = .agg (e.key.map byt).toArray) (hy : a.eval y = .int .i64 e.nonce) (hz : a.eval z = .slice D e.plain.length c) (hu : a.eval u = .slice D2 e.box.length c2) : YieldsIf Tryd.prog ops S op (.agg (bcl ⟨e, D, c, D2, c2⟩).toArray) a := by
  refine yieldsIf_build_as hw 92 _ ho _ ?_
  have e1 : (#[(0, x), (1, y), (2, z), (3, u)].map fun (i, x) => (i, a.eval x)).toList = [(0, .agg (e.key.map byt).toArray), (1, .int .i64 e.nonce), (2, .slice D e.plain.length c), (3, .slice D2 e.box.length c2)] := by simp [hx, hy, hz, hu]
  rw [e1, built_box hK]
  unfold bcl
  rw [p32_eq hK]
theorem step_buildSlice_box {w : World} {ops : Array Oper} {o : Oper} {a : Act} {K : Act → World → Prop} {R : Exit → Act → World → Prop} {E : Prop} (hw : Region.wanted o (yielded ops a.tmps) = true) (x : Operand) (ho : o.op = .buildSlice 30 1 #[(0, x)])
    {X : BxM} (hx : a.eval x = .agg (bcl X).toArray) (h : K (a.put o.dst (.slice (some ⟨w.heap.size, 0, none⟩) 1 1)) (w.alloc (.cells (bcl X).toArray 92))) :
    if Region.wanted o (yielded ops a.tmps) = true then Oper.wp Tryd.prog o a w K R else E := by
  rw [if_pos hw]
  have hf := bs_box X
  unfold Program.builtSlice at hf
  cases hie : Tryd.prog.info? 92 with
  | none => simp [hie] at hf
  | some ie =>
    simp only [hie] at hf
    cases hz : ie.zero with
    | none => simp [hz] at hf
    | some z =>
      simp only [hz] at hf
      by_cases hc : 1 * ie.size > 2 ^ 24 ∨ 1 * ie.size = 0
      · rw [if_pos hc] at hf; cases hf
      · rw [if_neg hc] at hf
        have e1 : (#[(0, x)].map fun (i, x) => (i, a.eval x)).toList = [(0, .agg (bcl X).toArray)] := by simp [hx]
        refine wp_buildSlice 30 92 1 _ ho (bcl X).toArray ie z Tryd.underlying30 hie hz (fun h' => hc (Or.inl h')) (fun h' => hc (Or.inr h')) ?_ h
        rw [e1]
        exact hf
/-- The algebra with one more box. -/
theorem alv_moreb {w W : World} {Q : Nat → Prop} {a : Alg} {Am A5 : Option Addr} {cm c5 : Nat} {L1 : List BxM} {X : BxM} (hL : L1.map (·.e) = a.boxes) (hB1 : ∀ x ∈ L1, Bytes W (fun g => Q g ∨ w.heap.size ≤ g) (.slice x.A x.e.plain.length x.c) x.e.plain ∧ Bytes W (fun g => Q g ∨ w.heap.size ≤ g) (.slice x.A2 x.e.box.length x.c2) x.e.box)
    (hS : Seq bcl bok W (fun g => w.heap.size ≤ g) A5 c5 (L1 ++ [X])) (hX : Bytes W (fun g => w.heap.size ≤ g) (.slice X.A X.e.plain.length X.c) X.e.plain) (hX2 : Bytes W (fun g => w.heap.size ≤ g) (.slice X.A2 X.e.box.length X.c2) X.e.box) (hMc : Macs W Q Am cm a.macs) (hA : Aok a) (hlen : a.boxes.length < 1000) :
    AlV W (fun g => Q g ∨ w.heap.size ≤ g) (.agg (alc a.free a.seed a.fresh (.slice Am a.macs.length cm) (.slice A5 (L1 ++ [X]).length c5))) { a with boxes := a.boxes ++ [X.e] } := by
  have hl : (a.boxes ++ [X.e]).length = (L1 ++ [X]).length := by rw [← hL]; simp
  refine ⟨Am, cm, A5, c5, by rw [← hl], hMc.mono fun _ _ h => .inl h, ⟨L1 ++ [X], by rw [← hL]; simp, hS.mono fun _ _ h => .inr h, fun x hx => ?_⟩, ⟨hA.seed, hA.lo, hA.hi, hA.macs, by show (a.boxes ++ [X.e]).length ≤ 1000; rw [List.length_append]; simp; omega⟩⟩
  rcases List.mem_append.1 hx with h | h
  · exact hB1 x h
  · rw [List.mem_singleton.1 h]
    exact ⟨hX.mono fun _ _ h => .inr h, hX2.mono fun _ _ h => .inr h⟩
/-- append(t[:], make([]byte, k)...): a new row. -/
theorem run_append_tag_zeros {w : World} (ty : TypeId) (g : Nat) (xs : List B8) (hW : TGRow w g xs) (hx : xs.length = 32) (k : Nat) (h0 : 0 < k) (hk : k ≤ 100000) :
    ∃ v' w', (Builtin.append_ #[23, 3] ty #[.slice (some ⟨g, 0, none⟩) 32 32, .int .i64 (k : Int)]).run Tryd.prog w = .ok v' w' ∧ Own w' w.heap.size v' (xs ++ List.replicate k (0 : B8)) ∧ Below w.heap.size w w' := by
  obtain ⟨i0, hi, hz0, hz1, hz2⟩ := info_parts byteInfo
  have hlen : (xs ++ List.replicate k (0 : B8)).length = xs.length + k := by simp
  have hold : (Builtin.firstCells i0.size xs.length (.slice (some ⟨g, 0, none⟩) xs.length xs.length)).run Tryd.prog w.drew = .ok (xs.map byt).toArray w.drew :=
    run_firstCells_some _ _ _ _ _ _ _ (by simp [hz1]) (fun j y hy => by
      rw [Addr.add_mid, Nat.zero_add]
      exact (Whole.cell hW j).trans (by simpa using hy))
  have hrun := Lib.run_append_grow_zeros (P := Tryd.prog) w 23 3 ty 5 i0 (.int .u8 0) .i64 .i64 Tryd.underlying23 Tryd.underlying3 hi hz0 (some ⟨g, 0, none⟩) xs.length xs.length _ hold k h0 (by omega) (by omega) (by omega) (by rw [hz2]; omega) (by
    have h1 := growslice_fits (need := xs.length + k) (old := xs.length) (bytes := i0.bytes) (by omega) (by rw [hz2]; omega)
    exact h1)
  have hge := grownCap_ge w (xs.length + k) xs.length 5
  have hle := grownCap_le_maxLen w (xs.length + k) xs.length 5 (by unfold maxLen; omega)
  generalize grownCap w (xs.length + k) xs.length 5 = C at *
  rw [zeroCells_byt, zeroCells_byt] at hrun
  rw [hx] at hrun hge hlen
  refine ⟨_, _, hrun, ⟨by simp, .inr ⟨_, C, _, by rw [hlen], Nat.le_refl _, heap_alloc_new _ _, by omega, hle, ?_, ?_⟩⟩, ((Below.refl _ _).drew).alloc (by simp) _⟩
  · simp; omega
  · have e2 : ((xs.map byt) ++ (List.replicate k (0 : B8)).map byt).length = (xs ++ List.replicate k 0).length * 1 := by simp
    rw [← e2, List.map_append]
    simp only [Array.toList_append]
    exact List.take_left
theorem wpList_append_tag_zeros {w : World} {ops : Array Oper} {rest : List Oper} {o : Oper} {a : Act} {R : Exit → Act → World → Prop} (hgd : o.guard = none) (s x : Operand)
    (ho : o.op = .call { callee := .builtin .append, args := #[s, x], argTypes := #[23, 3] })
    (g : Nat) (xs : List B8) (hs : a.eval s = .slice (some ⟨g, 0, none⟩) 32 32) (hW : TGRow w g xs) (hx : xs.length = 32) (k : Nat) (hk1 : a.eval x = .int .i64 (k : Int)) (h0 : 0 < k) (hk : k ≤ 100000)
    (h : ∀ v' w', Own w' w.heap.size v' (xs ++ List.replicate k (0 : B8)) → Below w.heap.size w w' → wpList Tryd.prog ops R rest (a.put o.dst v') w') : wpList Tryd.prog ops R (o :: rest) a w := by
  obtain ⟨v', w', hrun, h1, h2⟩ := run_append_tag_zeros o.type g xs hW hx k h0 hk
  refine wpList_plain hgd fun K hK => ?_
  unfold Oper.wp
  simp [execOp, ho, resolve, invoke, builtin, hs, hk1, hrun, Result.andThen]
  exact hK _ _ (h v' w' h1 h2)
end Go.Proofs.YtiikhjifjdpgdaaDoor
