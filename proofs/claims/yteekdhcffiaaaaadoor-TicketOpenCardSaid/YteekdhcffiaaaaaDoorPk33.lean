/-
  KBx
  BxCat
-/
import Derived.Test.YteekdhcffiaaaaaDoorPk20
import Derived.Test.YteekdhcffiaaaaaDoorPk24
import Derived.LoopN
import Derived.Handy
import Derived.Test.YteekdhcffiaaaaaDoorPk3
namespace Go.Proofs.YteekdhcffiaaaaaDoor
open Go Go.RowKit Sh Leaf

abbrev zbox : Value := .agg #[.int .u8 0, .int .u8 0, .int .u8 0, .int .u8 0, .int .u8 0, .int .u8 0, .int .u8 0, .int .u8 0, .int .u8 0, .int .u8 0, .int .u8 0, .int .u8 0, .int .u8 0, .int .u8 0, .int .u8 0, .int .u8 0, .int .u8 0, .int .u8 0, .int .u8 0, .int .u8 0, .int .u8 0, .int .u8 0, .int .u8 0, .int .u8 0, .int .u8 0, .int .u8 0, .int .u8 0, .int .u8 0, .int .u8 0, .int .u8 0, .int .u8 0, .int .u8 0, .int .i64 0, .slice none 0 0, .slice none 0 0]
theorem boxInfo : (Tryd.prog.info? 72).map (fun i => (i.zero, i.size, i.bytes)) = some (some zbox, 35, 88) := by kernel_rfl
theorem zbox_size : zbox.cells.size = 35 := rfl
abbrev OwnBc (w : World) (base : Nat) (v : Value) (L : List BxM) : Prop := OwnS bcl 35 72 w base v L
theorem box_ne_u8 : 72 ≠ 5 := by decide
theorem u8_ne_box : 5 ≠ 72 := by decide
set_option maxRecDepth 100000 in
theorem bs_box (x : BxM) : Tryd.prog.builtSlice 72 1 [(0, .agg (bcl x).toArray)] = some (bcl x).toArray := by
  unfold bcl
  obtain ⟨a0, a1, a2, a3, a4, a5, a6, a7, a8, a9, a10, a11, a12, a13, a14, a15, a16, a17, a18, a19, a20, a21, a22, a23, a24, a25, a26, a27, a28, a29, a30, a31, hk⟩ := ex32 (p32 x.e.key) (p32_length _)
  rw [hk]
  generalize x.e.plain.length = n
  generalize x.e.box.length = n2
  generalize x.e.nonce = z
  generalize x.A = D
  generalize x.c = c
  generalize x.A2 = D2
  generalize x.c2 = c2
  clear hk
  simp only [List.map_cons, List.map_nil]
  kernel_rfl
theorem yieldsIf_build_box {ops : Array Oper} {S : World → Prop} {op : Oper} {a : Act} (hw : Region.wanted op (yielded ops a.tmps) = true) (x y z u : Operand) (ho : op.op = .build 72 #[(0, x), (1, y), (2, z), (3, u)])
    {e : Bx} (hK : e.key.length = 32) {D D2 : Option Addr} {c c2 : Nat} (hx : a.eval x = .agg (e.key.map byt).toArray) (hy : a.eval y = .int .i64 e.nonce) (hz : a.eval z = .slice D e.plain.length c) (hu : a.eval u = .slice D2 e.box.length c2) : YieldsIf Tryd.prog ops S op (.agg (bcl ⟨e, D, c, D2, c2⟩).toArray) a := by
  refine yieldsIf_build_as hw 72 _ ho _ ?_
  have e1 : (#[(0, x), (1, y), (2, z), (3, u)].map fun (i, x) => (i, a.eval x)).toList = [(0, .agg (e.key.map byt).toArray), (1, .int .i64 e.nonce), (2, .slice D e.plain.length c), (3, .slice D2 e.box.length c2)] := by simp [hx, hy, hz, hu]
  rw [e1, built_box hK]
  unfold bcl
  rw [p32_eq hK]
theorem step_buildSlice_box {w : World} {ops : Array Oper} {o : Oper} {a : Act} {K : Act → World → Prop} {R : Exit → Act → World → Prop} {E : Prop} (hw : Region.wanted o (yielded ops a.tmps) = true) (x : Operand) (ho : o.op = .buildSlice 30 1 #[(0, x)])
    {X : BxM} (hx : a.eval x = .agg (bcl X).toArray) (h : K (a.put o.dst (.slice (some ⟨w.heap.size, 0, none⟩) 1 1)) (w.alloc (.cells (bcl X).toArray 72))) :
    if Region.wanted o (yielded ops a.tmps) = true then Oper.wp Tryd.prog o a w K R else E := by
  rw [if_pos hw]
  have hf := bs_box X
  unfold Program.builtSlice at hf
  cases hie : Tryd.prog.info? 72 with
  | none => simp [hie] at hf
  | some ie =>
    simp only [hie] at hf
    cases hz : ie.zero with
    | none => simp [hz] at hf
    | some z =>
      simp only [hz] at hf
      by_cases hc : 1 * ie.size > 2 ^ 24 ∨ 1 * ie.size = 0
      · rw [if_pos hc] at hf; cases hf
      · rw [if_neg hc] at hf
        have e1 : (#[(0, x)].map fun (i, x) => (i, a.eval x)).toList = [(0, .agg (bcl X).toArray)] := by simp [hx]
        refine wp_buildSlice 30 72 1 _ ho (bcl X).toArray ie z Tryd.underlying30 hie hz (fun h' => hc (Or.inl h')) (fun h' => hc (Or.inr h')) ?_ h
        rw [e1]
        exact hf
theorem alv_moreb {w W : World} {Q : Nat → Prop} {a : Alg} {Am A5 : Option Addr} {cm c5 : Nat} {L1 : List BxM} {X : BxM} (hL : L1.map (·.e) = a.boxes) (hB1 : ∀ x ∈ L1, Bytes W (fun g => Q g ∨ w.heap.size ≤ g) (.slice x.A x.e.plain.length x.c) x.e.plain ∧ Bytes W (fun g => Q g ∨ w.heap.size ≤ g) (.slice x.A2 x.e.box.length x.c2) x.e.box)
    (hS : Seq bcl bok W (fun g => w.heap.size ≤ g) A5 c5 (L1 ++ [X])) (hX : Bytes W (fun g => w.heap.size ≤ g) (.slice X.A X.e.plain.length X.c) X.e.plain) (hX2 : Bytes W (fun g => w.heap.size ≤ g) (.slice X.A2 X.e.box.length X.c2) X.e.box) (hMc : Macs W Q Am cm a.macs) (hA : Aok a) (hlen : a.boxes.length < 1000) :
    AlV W (fun g => Q g ∨ w.heap.size ≤ g) (.agg (alc a.free a.seed a.fresh (.slice Am a.macs.length cm) (.slice A5 (L1 ++ [X]).length c5))) { a with boxes := a.boxes ++ [X.e] } := by
  have hl : (a.boxes ++ [X.e]).length = (L1 ++ [X]).length := by rw [← hL]; simp
  refine ⟨Am, cm, A5, c5, by rw [← hl], hMc.mono fun _ _ h => .inl h, ⟨L1 ++ [X], by rw [← hL]; simp, hS.mono fun _ _ h => .inr h, fun x hx => ?_⟩, ⟨hA.seed, hA.lo, hA.hi, hA.macs, by show (a.boxes ++ [X.e]).length ≤ 1000; rw [List.length_append]; simp; omega⟩⟩
  rcases List.mem_append.1 hx with h | h
  · exact hB1 x h
  · rw [List.mem_singleton.1 h]
    exact ⟨hX.mono fun _ _ h => .inr h, hX2.mono fun _ _ h => .inr h⟩
theorem run_append_tag_zeros {w : World} (ty : TypeId) (g : Nat) (xs : List B8) (hW : TGRow w g xs) (hx : xs.length = 32) (k : Nat) (h0 : 0 < k) (hk : k ≤ 100000) :
    ∃ v' w', (Builtin.append_ #[39, 3] ty #[.slice (some ⟨g, 0, none⟩) 32 32, .int .i64 (k : Int)]).run Tryd.prog w = .ok v' w' ∧ Own w' w.heap.size v' (xs ++ List.replicate k (0 : B8)) ∧ Below w.heap.size w w' := by
  obtain ⟨i0, hi, hz0, hz1, hz2⟩ := info_parts byteInfo
  have hlen : (xs ++ List.replicate k (0 : B8)).length = xs.length + k := by simp
  have hold : (Builtin.firstCells i0.size xs.length (.slice (some ⟨g, 0, none⟩) xs.length xs.length)).run Tryd.prog w.drew = .ok (xs.map byt).toArray w.drew :=
    run_firstCells_some _ _ _ _ _ _ _ (by simp [hz1]) (fun j y hy => by
      rw [Addr.add_mid, Nat.zero_add]
      exact (Whole.cell hW j).trans (by simpa using hy))
  have hrun := Lib.run_append_grow_zeros (P := Tryd.prog) w 39 3 ty 5 i0 (.int .u8 0) .i64 .i64 Tryd.underlying39 Tryd.underlying3 hi hz0 (some ⟨g, 0, none⟩) xs.length xs.length _ hold k h0 (by omega) (by omega) (by omega) (by rw [hz2]; omega) (by
    have h1 := growslice_fits (need := xs.length + k) (old := xs.length) (bytes := i0.bytes) (by omega) (by rw [hz2]; omega)
    exact h1)
  have hge := grownCap_ge w (xs.length + k) xs.length 5
  have hle := grownCap_le_maxLen w (xs.length + k) xs.length 5 (by unfold maxLen; omega)
  generalize grownCap w (xs.length + k) xs.length 5 = C at *
  rw [zeroCells_byt, zeroCells_byt] at hrun
  rw [hx] at hrun hge hlen
  refine ⟨_, _, hrun, ⟨by simp, .inr ⟨_, C, _, by rw [hlen], Nat.le_refl _, heap_alloc_new _ _, by omega, hle, ?_, ?_⟩⟩, ((Below.refl _ _).drew).alloc (by simp) _⟩
  · simp; omega
  · have e2 : ((xs.map byt) ++ (List.replicate k (0 : B8)).map byt).length = (xs ++ List.replicate k 0).length * 1 := by simp
    rw [← e2, List.map_append]
    simp only [Array.toList_append]
    exact List.take_left
theorem wpList_append_tag_zeros {w : World} {ops : Array Oper} {rest : List Oper} {o : Oper} {a : Act} {R : Exit → Act → World → Prop} (hgd : o.guard = none) (s x : Operand)
    (ho : o.op = .call { callee := .builtin .append, args := #[s, x], argTypes := #[39, 3] })
    (g : Nat) (xs : List B8) (hs : a.eval s = .slice (some ⟨g, 0, none⟩) 32 32) (hW : TGRow w g xs) (hx : xs.length = 32) (k : Nat) (hk1 : a.eval x = .int .i64 (k : Int)) (h0 : 0 < k) (hk : k ≤ 100000)
    (h : ∀ v' w', Own w' w.heap.size v' (xs ++ List.replicate k (0 : B8)) → Below w.heap.size w w' → wpList Tryd.prog ops R rest (a.put o.dst v') w') : wpList Tryd.prog ops R (o :: rest) a w := by
  obtain ⟨v', w', hrun, h1, h2⟩ := run_append_tag_zeros o.type g xs hW hx k h0 hk
  refine wpList_plain hgd fun K hK => ?_
  unfold Oper.wp
  simp [execOp, ho, resolve, invoke, builtin, hs, hk1, hrun, Result.andThen]
  exact hK _ _ (h v' w' h1 h2)
end Go.Proofs.YteekdhcffiaaaaaDoor
namespace Go.Proofs.YteekdhcffiaaaaaDoor
open Go Go.RowKit Sh Leaf

abbrev OwnBx (w : World) (base : Nat) (v : Value) (L : List BxM) : Prop := OwnS bcl 35 72 w base v L
set_option maxRecDepth 20000 in
set_option maxHeartbeats 1000000 in
theorem growb (n : Nat) (h0 : 0 < n) (hn : n ≤ 1000000) (w : World) :
    Calls Tryd.prog 69 #[.slice none 0 0, .int .i64 (n : Int)] w fun e w' => ∃ v', e = .returned v' ∧ OwnBx w' w.heap.size v' [] ∧ Below w.heap.size w w' := by
  obtain ⟨i0, hi, hz0, hz1, hz2⟩ := info_parts boxInfo
  have hr := fun ty => Lib.run_append_nil_zeros (P := Tryd.prog) w 30 3 ty 72 i0 zbox .i64 .i64 Tryd.underlying30 Tryd.underlying3 hi hz0 n h0 (by omega) (by omega) (by rw [hz2]; omega)
  have hge := grownCap_ge w n 0 72
  have hle := grownCap_le_maxLen w n 0 72 (by unfold maxLen; omega)
  generalize grownCap w n 0 72 = C at *
  have hzc : ∀ k, (Builtin.zeroCells zbox.cells k).size = k * 35 := fun k => by rw [size_zeroCells]; rfl
  have ho : OwnBx (w.drew.alloc (.cells (Builtin.zeroCells zbox.cells n ++ Builtin.zeroCells zbox.cells (C - n)) 72)) w.heap.size (.slice (some ⟨w.heap.size, 0, none⟩) 0 C) [] :=
    ⟨rfl, .inr ⟨_, C, _, rfl, Nat.le_refl _, heap_alloc_new _ _, by simp, hle, by rw [Array.size_append, hzc, hzc, ← Nat.add_mul]; congr 1; omega, by simp [fl]⟩⟩
  have hb : Below w.heap.size w (w.drew.alloc (.cells (Builtin.zeroCells zbox.cells n ++ Builtin.zeroCells zbox.cells (C - n)) 72)) := (Below.refl _ _).drew.alloc (by simp) _
  generalize (w.drew.alloc (.cells (Builtin.zeroCells zbox.cells n ++ Builtin.zeroCells zbox.cells (C - n)) 72)) = w1 at *
  have HR := Lib.hid hr
  clear hr hi hz0 hz1 hz2 hzc
  go_enter Tryd.func69, Tryd.ntmps69
  go_wp2_with (at_builtin; refine Lib.wpList_append_run _ rfl _ _ _ _ rfl _ _ rfl rfl _ _ (HR.out 30) ?_)
  go_ret
  exact ⟨_, rfl, ho, hb⟩
set_option maxRecDepth 20000 in
set_option maxHeartbeats 2000000 in
theorem concatb (g : Nat) (A1 A2 : Option Addr) (c1 c2 : Nat) (L1 L2 : List BxM) (Q1 Q2 : Nat → Prop) (w : World) (hc1 : w.cell? ⟨g, 0, none⟩ = some (.slice A1 L1.length c1)) (hc2 : w.cell? ⟨g, 1, none⟩ = some (.slice A2 L2.length c2))
    (h1 : Seq bcl bok w Q1 A1 c1 L1) (h2 : Seq bcl bok w Q2 A2 c2 L2) (h0 : 0 < L2.length) (hl : L1.length + L2.length ≤ 100000) :
    Calls Tryd.prog 49 #[.slice (some ⟨g, 0, none⟩) 2 2] w fun e w' => ∃ v', e = .returned v' ∧ OwnBx w' w.heap.size v' (L1 ++ L2) ∧ Below w.heap.size w w' := by
  have hg : g < w.heap.size := block_lt_of_cell hc1
  have hgr := growb (L1.length + L2.length) (by omega) (by omega) w
  rw [show ((L1.length + L2.length : Nat) : Int) = (L1.length : Int) + (L2.length : Int) by omega] at hgr
  have HG := Lib.hid hgr
  obtain ⟨n1, hn1⟩ : ∃ n, n = L1.length := ⟨_, rfl⟩
  obtain ⟨n2, hn2⟩ : ∃ n, n = L2.length := ⟨_, rfl⟩
  rw [← hn1] at hc1 hl HG
  rw [← hn2] at hc2 hl h0 HG
  have HN1 := Lib.hid hn1
  have HN2 := Lib.hid hn2
  have H1 := Lib.hid h1
  have H2 := Lib.hid h2
  clear hgr hn1 hn2 h1 h2
  go_enter Tryd.func49, Tryd.ntmps49
  go_wp2
  refine wp_loop_rounds 3 ?_
  iterate 3 (rw [rounds_succ]; go_wp2_with fail)
  refine HG.out.mono ?_
  rintro e w1 ⟨v', rfl, ho, hb⟩
  have hc1' : w1.cell? ⟨g, 0, none⟩ = some (.slice A1 n1 c1) := (hb.cell (p := ⟨g, 0, none⟩) hg).trans hc1
  have hc2' : w1.cell? ⟨g, 1, none⟩ = some (.slice A2 n2 c2) := (hb.cell (p := ⟨g, 1, none⟩) hg).trans hc2
  have HO := Lib.hid ho
  have H1' := Lib.hid (H1.out.below hb (Nat.le_refl _))
  have hbs := hb.size
  clear HG hc1 hc2 ho
  go_wp2
  refine wp_loop_rounds 3 ?_
  rw [rounds_succ]
  go_wp2_with (at_builtin; refine wpList_append_seq rfl _ _ 30 72 zbox 88 rfl Tryd.underlying30 boxInfo zbox_size (by omega) (by omega) bcl_len bcl_one w.heap.size v' [] rfl HO.out Q1 A1 n1 c1 L1 HN1.out.symm rfl H1'.out (by have := HN1.out; simp only [List.length_nil]; omega) hbs ?_; intro v3 w3 ho3 hb3 hg3)
  rw [List.nil_append] at ho3
  have hc2'' : w3.cell? ⟨g, 1, none⟩ = some (.slice A2 n2 c2) := (hb3.cell (p := ⟨g, 1, none⟩) hg).trans hc2'
  have H2'' := Lib.hid (H2.out.below (hb.trans hb3) (Nat.le_refl _))
  have HO3 := Lib.hid ho3
  have hbs3 : w.heap.size ≤ w3.heap.size := Nat.le_trans hbs hb3.size
  clear ho3 hg3 hc1' hc2'
  rw [rounds_succ]
  go_wp2_with (at_builtin; refine wpList_append_seq rfl _ _ 30 72 zbox 88 rfl Tryd.underlying30 boxInfo zbox_size (by omega) (by omega) bcl_len bcl_one w.heap.size v3 L1 rfl HO3.out Q2 A2 n2 c2 L2 HN2.out.symm rfl H2''.out (by have := HN1.out; have := HN2.out; omega) hbs3 ?_; intro v4 w4 ho4 hb4 hg4)
  have HO4 := Lib.hid ho4
  clear ho4 hg4
  rw [rounds_succ]
  go_wp2
  go_ret
  exact ⟨v4, rfl, HO4.out, hb.trans (hb3.trans hb4)⟩
end Go.Proofs.YteekdhcffiaaaaaDoor
