/-
  KAlg
  KBld
-/
import Derived.Laws.Rows
import Derived.Laws.Tables
import Derived.Deep.MidRow
import Derived.Stop.BytesEq
import Derived.Test.YteekdhcffiaaaaaDoorPk3
import Derived.Test.YteekdhcffiaaaaaDoorPk0
namespace Go.Proofs.YteekdhcffiaaaaaDoor
open Go Go.RowKit Sh Leaf
namespace Sh

structure Me where
  key : List B8
  msg : List B8
  tag : List B8
structure Bx where
  key : List B8
  nonce : Int
  plain : List B8
  box : List B8
structure Alg where
  free : Bool
  seed : List B8
  fresh : Int
  macs : List Me
  boxes : List Bx
def p32 (l : List B8) : List B8 := (l ++ List.replicate 32 0).take 32
theorem p32_length (l : List B8) : (p32 l).length = 32 := by unfold p32; rw [List.length_take]; simp
theorem p32_eq {l : List B8} (h : l.length = 32) : p32 l = l := by unfold p32; rw [List.take_left' h]
structure Aok (a : Alg) : Prop where
  seed : a.seed.length = 32
  lo : 0 ≤ a.fresh
  hi : a.fresh ≤ 100000
  macs : a.macs.length ≤ 1000
  boxes : a.boxes.length ≤ 1000
end Sh
def alcl (fr : Bool) (sd : List B8) (n : Int) (vm vb : Value) : List Value := .bool fr :: ((p32 sd).map byt ++ [.int .i64 n, vm, vb])
def alc (fr : Bool) (sd : List B8) (n : Int) (vm vb : Value) : Array Value := (alcl fr sd n vm vb).toArray
structure MeM where
  e : Me
  A : Option Addr
  c : Nat
structure BxM where
  e : Bx
  A : Option Addr
  c : Nat
  A2 : Option Addr
  c2 : Nat
def mcl (x : MeM) : List Value := (p32 x.e.key).map byt ++ (.slice x.A x.e.msg.length x.c :: (p32 x.e.tag).map byt)
def bcl (x : BxM) : List Value := (p32 x.e.key).map byt ++ [.int .i64 x.e.nonce, .slice x.A x.e.plain.length x.c, .slice x.A2 x.e.box.length x.c2]
theorem p32_cells (l : List B8) : ((p32 l).map byt).length = 32 := by rw [List.length_map, p32_length]
theorem mcl_len (x : MeM) : (mcl x).length = 65 := by unfold mcl; rw [List.length_append, List.length_cons, p32_cells, p32_cells]
theorem bcl_len (x : BxM) : (bcl x).length = 35 := by unfold bcl; rw [List.length_append, p32_cells]; rfl
theorem mcl_one (x : MeM) : ∀ v ∈ mcl x, v.oneCell' = true := by
  intro v hv
  unfold mcl at hv
  rw [List.mem_append, List.mem_cons] at hv
  rcases hv with hv | rfl | hv
  · exact byt_one _ v hv
  · rfl
  · exact byt_one _ v hv
theorem bcl_one (x : BxM) : ∀ v ∈ bcl x, v.oneCell' = true := by
  intro v hv
  unfold bcl at hv
  rw [List.mem_append] at hv
  rcases hv with hv | hv
  · exact byt_one _ v hv
  · simp at hv
    rcases hv with rfl | rfl | rfl <;> rfl
def mok (x : MeM) : Prop := x.e.key.length = 32 ∧ x.e.tag.length = 32 ∧ x.e.msg.length ≤ 5000
abbrev i64q (z : Int) : Prop := -9223372036854775808 ≤ z ∧ z ≤ 9223372036854775807
def bok (x : BxM) : Prop := x.e.key.length = 32 ∧ i64q x.e.nonce ∧ x.e.plain.length ≤ 5000 ∧ x.e.box.length ≤ 5000
def Macs (w : World) (Q : Nat → Prop) (A : Option Addr) (c : Nat) (l : List Me) : Prop := ∃ L : List MeM, L.map (·.e) = l ∧ Seq mcl mok w Q A c L ∧ ∀ x ∈ L, Bytes w Q (.slice x.A x.e.msg.length x.c) x.e.msg
def Bxs (w : World) (Q : Nat → Prop) (A : Option Addr) (c : Nat) (l : List Bx) : Prop := ∃ L : List BxM, L.map (·.e) = l ∧ Seq bcl bok w Q A c L ∧ ∀ x ∈ L, Bytes w Q (.slice x.A x.e.plain.length x.c) x.e.plain ∧ Bytes w Q (.slice x.A2 x.e.box.length x.c2) x.e.box
section
variable {w w' : World} {Q Q' : Nat → Prop} {A : Option Addr} {c : Nat}
theorem Macs.keep {l : List Me} (h : Macs w Q A c l) (hs : w.heap.size ≤ w'.heap.size) (hk : ∀ g, g < w.heap.size → Q g → w'.heap[g]? = w.heap[g]?) : Macs w' Q A c l := by
  obtain ⟨L, h1, h2, h3⟩ := h
  exact ⟨L, h1, h2.keep hs hk, fun x hx => (h3 x hx).keep hk⟩
theorem Bxs.keep {l : List Bx} (h : Bxs w Q A c l) (hs : w.heap.size ≤ w'.heap.size) (hk : ∀ g, g < w.heap.size → Q g → w'.heap[g]? = w.heap[g]?) : Bxs w' Q A c l := by
  obtain ⟨L, h1, h2, h3⟩ := h
  exact ⟨L, h1, h2.keep hs hk, fun x hx => ⟨(h3 x hx).1.keep hk, (h3 x hx).2.keep hk⟩⟩
theorem Macs.mono {l : List Me} (h : Macs w Q A c l) (hq : ∀ g, g < w.heap.size → Q g → Q' g) : Macs w Q' A c l := by
  obtain ⟨L, h1, h2, h3⟩ := h
  exact ⟨L, h1, h2.mono hq, fun x hx => (h3 x hx).mono hq⟩
theorem Bxs.mono {l : List Bx} (h : Bxs w Q A c l) (hq : ∀ g, g < w.heap.size → Q g → Q' g) : Bxs w Q' A c l := by
  obtain ⟨L, h1, h2, h3⟩ := h
  exact ⟨L, h1, h2.mono hq, fun x hx => ⟨(h3 x hx).1.mono hq, (h3 x hx).2.mono hq⟩⟩
theorem Macs.below {B : Nat} {l : List Me} (h : Macs w Q A c l) (hb : Below B w w') (hB : w.heap.size ≤ B) : Macs w' Q A c l := h.keep hb.size fun g hg _ => hb.block g (by omega)
theorem Bxs.below {B : Nat} {l : List Bx} (h : Bxs w Q A c l) (hb : Below B w w') (hB : w.heap.size ≤ B) : Bxs w' Q A c l := h.keep hb.size fun g hg _ => hb.block g (by omega)
theorem Macs.nil (w : World) (Q : Nat → Prop) : Macs w Q none 0 [] := ⟨[], rfl, Seq.nil _ _, fun x h => by simp at h⟩
theorem Bxs.nil (w : World) (Q : Nat → Prop) : Bxs w Q none 0 [] := ⟨[], rfl, Seq.nil _ _, fun x h => by simp at h⟩
theorem Macs.get {l : List Me} (h : Macs w Q A c l) (j : Nat) (e : Me) (hj : l[j]? = some e) :
    ∃ g o B d, A = some ⟨g, o, none⟩ ∧ Q g ∧ g < w.heap.size ∧ w.rangeAt g (o + j * 65) (e.key.map byt) ∧ w.cell? ⟨g, o + j * 65 + 32, none⟩ = some (.slice B e.msg.length d) ∧ w.rangeAt g (o + j * 65 + 33) (e.tag.map byt) ∧ Bytes w Q (.slice B e.msg.length d) e.msg ∧ e.key.length = 32 ∧ e.tag.length = 32 ∧ e.msg.length ≤ 5000 ∧
      w.rangeAt g (o + j * 65) (mcl ⟨e, B, d⟩) := by
  obtain ⟨L, rfl, hS, hB⟩ := h
  rw [List.getElem?_map] at hj
  obtain ⟨x, hx, rfl⟩ := Option.map_eq_some_iff.1 hj
  obtain ⟨g, o, rfl, hq, hg, hc⟩ := Seq.get mcl_len hS j x hx
  have hm := List.mem_of_getElem? hx
  obtain ⟨k1, k2, k3⟩ := hS.2.2.2.1 x hm
  have ek : (p32 x.e.key).map byt = x.e.key.map byt := by rw [p32_eq k1]
  have et : (p32 x.e.tag).map byt = x.e.tag.map byt := by rw [p32_eq k2]
  refine ⟨g, o, x.A, x.c, rfl, hq, hg, fun i v hv => hc i v ?_, hc 32 _ ?_, fun i v hv => ?_, hB x hm, k1, k2, k3, fun i v hv => hc i v hv⟩
  · unfold mcl
    rw [List.getElem?_append_left (by rw [p32_cells]; have := (List.getElem?_eq_some_iff.1 hv).1; rw [List.length_map, k1] at this; exact this), ek]
    exact hv
  · unfold mcl
    rw [List.getElem?_append_right (by rw [p32_cells]; omega), p32_cells]
    rfl
  · have := hc (33 + i) v (by
      unfold mcl
      rw [List.getElem?_append_right (by rw [p32_cells]; omega), p32_cells, show 33 + i - 32 = i + 1 by omega, List.getElem?_cons_succ, et]
      exact hv)
    rw [show o + j * 65 + 33 + i = o + j * 65 + (33 + i) by omega]
    exact this
theorem Macs.tags {l : List Me} (h : Macs w Q A c l) : ∀ e ∈ l, e.tag.length = 32 := by
  obtain ⟨L, rfl, hS, -⟩ := h
  intro e he
  obtain ⟨x, hx, rfl⟩ := List.mem_map.1 he
  exact (hS.2.2.2.1 x hx).2.1
theorem Bxs.get {l : List Bx} (h : Bxs w Q A c l) (j : Nat) (e : Bx) (hj : l[j]? = some e) :
    ∃ g o B d B2 d2, A = some ⟨g, o, none⟩ ∧ Q g ∧ g < w.heap.size ∧ w.rangeAt g (o + j * 35) (bcl ⟨e, B, d, B2, d2⟩) ∧ w.rangeAt g (o + j * 35) (e.key.map byt) ∧ Bytes w Q (.slice B e.plain.length d) e.plain ∧ Bytes w Q (.slice B2 e.box.length d2) e.box ∧ e.key.length = 32 ∧ i64q e.nonce ∧ e.plain.length ≤ 5000 ∧ e.box.length ≤ 5000 := by
  obtain ⟨L, rfl, hS, hB⟩ := h
  rw [List.getElem?_map] at hj
  obtain ⟨x, hx, rfl⟩ := Option.map_eq_some_iff.1 hj
  obtain ⟨g, o, rfl, hq, hg, hc⟩ := Seq.get bcl_len hS j x hx
  have hm := List.mem_of_getElem? hx
  obtain ⟨k1, k2, k3, k4⟩ := hS.2.2.2.1 x hm
  have ek : (p32 x.e.key).map byt = x.e.key.map byt := by rw [p32_eq k1]
  refine ⟨g, o, x.A, x.c, x.A2, x.c2, rfl, hq, hg, fun i v hv => hc i v hv, fun i v hv => hc i v ?_, (hB x hm).1, (hB x hm).2, k1, k2, k3, k4⟩
  unfold bcl
  rw [List.getElem?_append_left (by rw [p32_cells]; have := (List.getElem?_eq_some_iff.1 hv).1; rw [List.length_map, k1] at this; exact this), ek]
  exact hv
def AlV (w : World) (Q : Nat → Prop) (v : Value) (a : Alg) : Prop := ∃ Am cm Ab cb, v = .agg (alc a.free a.seed a.fresh (.slice Am a.macs.length cm) (.slice Ab a.boxes.length cb)) ∧ Macs w Q Am cm a.macs ∧ Bxs w Q Ab cb a.boxes ∧ Aok a
theorem AlV.keep {v : Value} {a : Alg} (h : AlV w Q v a) (hs : w.heap.size ≤ w'.heap.size) (hk : ∀ g, g < w.heap.size → Q g → w'.heap[g]? = w.heap[g]?) : AlV w' Q v a := by
  obtain ⟨Am, cm, Ab, cb, h1, h2, h3, h4⟩ := h
  exact ⟨Am, cm, Ab, cb, h1, h2.keep hs hk, h3.keep hs hk, h4⟩
theorem AlV.below {B : Nat} {v : Value} {a : Alg} (h : AlV w Q v a) (hb : Below B w w') (hB : w.heap.size ≤ B) : AlV w' Q v a := h.keep hb.size fun g hg _ => hb.block g (by omega)
theorem AlV.mono {v : Value} {a : Alg} (h : AlV w Q v a) (hq : ∀ g, g < w.heap.size → Q g → Q' g) : AlV w Q' v a := by
  obtain ⟨Am, cm, Ab, cb, h1, h2, h3, h4⟩ := h
  exact ⟨Am, cm, Ab, cb, h1, h2.mono hq, h3.mono hq, h4⟩
end
theorem alc_size (fr : Bool) (sd : List B8) (n : Int) (vm vb : Value) : (alc fr sd n vm vb).size = 36 := by
  unfold alc alcl
  rw [List.size_toArray, List.length_cons, List.length_append, p32_cells]
  rfl
theorem alc_one (fr : Bool) (sd : List B8) (n : Int) (A B : Option Addr) (l l' c c' : Nat) : (alc fr sd n (.slice A l c) (.slice B l' c')).all (·.oneCell') = true := by
  unfold alc alcl
  refine all_oneCell_toArray fun v hv => ?_
  rw [List.mem_cons, List.mem_append] at hv
  rcases hv with rfl | hv | hv
  · rfl
  · exact byt_one _ v hv
  · simp at hv
    rcases hv with rfl | rfl | rfl <;> rfl
theorem alcl_length (fr : Bool) (sd : List B8) (n : Int) (vm vb : Value) : (alcl fr sd n vm vb).length = 36 := by
  unfold alcl
  rw [List.length_cons, List.length_append, p32_cells]
  rfl
theorem algSize : (Tryd.prog.info? 32).map (·.size) = some 36 := by kernel_rfl
theorem tagSize : (Tryd.prog.info? 28).map (·.size) = some 32 := by kernel_rfl
abbrev ALRow (w : World) (g : Nat) (fr : Bool) (sd : List B8) (n : Int) (vm vb : Value) : Prop := Whole w g 32 (alc fr sd n vm vb)
abbrev TGRow (w : World) (g : Nat) (l : List B8) : Prop := Whole w g 28 (l.map byt).toArray
section
variable {w : World} {g : Nat} {fr : Bool} {sd : List B8} {n : Int} {vm vb : Value}
theorem ALRow.cells (h : ALRow w g fr sd n vm vb) : w.cell? ⟨g, 0, none⟩ = some (.bool fr) ∧ w.cell? ⟨g, 33, none⟩ = some (.int .i64 n) ∧ w.cell? ⟨g, 34, none⟩ = some vm ∧ w.cell? ⟨g, 35, none⟩ = some vb := by
  have e : ∀ j, (alc fr sd n vm vb)[33 + j]? = ([.int .i64 n, vm, vb] : List Value)[j]? := fun j => by
    unfold alc alcl
    rw [List.getElem?_toArray, show 33 + j = (32 + j) + 1 by omega, List.getElem?_cons_succ, List.getElem?_append_right (by rw [p32_cells]; omega), p32_cells, show 32 + j - 32 = j by omega]
  exact ⟨h.cell 0, (h.cell 33).trans (e 0), (h.cell 34).trans (e 1), (h.cell 35).trans (e 2)⟩
theorem ALRow.seed (h : ALRow w g fr sd n vm vb) (hs : sd.length = 32) : w.rangeAt g 1 (sd.map byt) := fun j v hj => by
  rw [Whole.cell h]
  unfold alc alcl
  have hl := (List.getElem?_eq_some_iff.1 hj).1
  rw [List.length_map, hs] at hl
  rw [List.getElem?_toArray, show 1 + j = j + 1 by omega, List.getElem?_cons_succ, List.getElem?_append_left (by rw [p32_cells]; exact hl), p32_eq hs]
  exact hj
theorem ALRow.frees (h : ALRow w g fr sd n vm vb) (i : Nat) : w.frozen? ⟨g, i, none⟩ = false := Whole.frozen h i
theorem ALRow.set33 (h : ALRow w g fr sd n vm vb) (x : Int) : ALRow (w.setCell ⟨g, 33, none⟩ (.int .i64 x)) g fr sd x vm vb := by
  have := Whole.set h 33 (.int .i64 x)
  have e : (alc fr sd n vm vb).setIfInBounds 33 (.int .i64 x) = alc fr sd x vm vb := by
    unfold alc alcl
    rw [List.setIfInBounds_toArray, List.set_cons_succ, List.set_append, if_neg (by rw [p32_cells]; omega), p32_cells]
    rfl
  rw [e] at this
  exact this
theorem ALRow.set34 (h : ALRow w g fr sd n vm vb) (x : Value) : ALRow (w.setCell ⟨g, 34, none⟩ x) g fr sd n x vb := by
  have := Whole.set h 34 x
  have e : (alc fr sd n vm vb).setIfInBounds 34 x = alc fr sd n x vb := by
    unfold alc alcl
    rw [List.setIfInBounds_toArray, List.set_cons_succ, List.set_append, if_neg (by rw [p32_cells]; omega), p32_cells]
    rfl
  rw [e] at this
  exact this
theorem ALRow.set35 (h : ALRow w g fr sd n vm vb) (x : Value) : ALRow (w.setCell ⟨g, 35, none⟩ x) g fr sd n vm x := by
  have := Whole.set h 35 x
  have e : (alc fr sd n vm vb).setIfInBounds 35 x = alc fr sd n vm x := by
    unfold alc alcl
    rw [List.setIfInBounds_toArray, List.set_cons_succ, List.set_append, if_neg (by rw [p32_cells]; omega), p32_cells]
    rfl
  rw [e] at this
  exact this
theorem TGRow.range {l : List B8} (h : TGRow w g l) : w.rangeAt g 0 (l.map byt) := fun j v hj => by
  rw [Nat.zero_add, Whole.cell h, List.getElem?_toArray]
  exact hj
end
section
variable {w : World} {g : Nat}
theorem wpList_store_tag {ops : Array Oper} {rest : List Oper} {o : Oper} {a : Act} {Q : Exit → Act → World → Prop} (hgd : o.guard = none) (x y : Operand) (ho : o.op = .store 28 x y)
    (hx : a.eval x = .pointer (some ⟨g, 0, none⟩)) {cs cs' : Array Value} (hy : a.eval y = .agg cs') (hg : Whole w g 28 cs) (h8 : cs.size = 32) (h8' : cs'.size = 32) (hone : cs'.all (·.oneCell') = true)
    (h : wpList Tryd.prog ops Q rest (a.put o.dst undef) (w.setRow g cs')) : wpList Tryd.prog ops Q (o :: rest) a w :=
  wpList_store_row hgd 28 x y ho g _ hx hy 28 _ hg (by rw [tagSize, h8']) (by rw [h8, h8']) hone h
theorem wpList_store_alg {ops : Array Oper} {rest : List Oper} {o : Oper} {a : Act} {Q : Exit → Act → World → Prop} (hgd : o.guard = none) (x y : Operand) (ho : o.op = .store 32 x y)
    (hx : a.eval x = .pointer (some ⟨g, 0, none⟩)) {cs cs' : Array Value} (hy : a.eval y = .agg cs') (hg : Whole w g 32 cs) (h8 : cs.size = 36) (h8' : cs'.size = 36) (hone : cs'.all (·.oneCell') = true)
    (h : wpList Tryd.prog ops Q rest (a.put o.dst undef) (w.setRow g cs')) : wpList Tryd.prog ops Q (o :: rest) a w :=
  wpList_store_row hgd 32 x y ho g _ hx hy 32 _ hg (by rw [algSize, h8']) (by rw [h8, h8']) hone h
theorem wpList_load_tag {ops : Array Oper} {rest : List Oper} {o : Oper} {a : Act} {Q : Exit → Act → World → Prop} (hgd : o.guard = none) (x : Operand) (ho : o.op = .load 28 x)
    (hx : a.eval x = .pointer (some ⟨g, 0, none⟩)) {cs : Array Value} (hg : Whole w g 28 cs) (h8 : cs.size = 32) (h : wpList Tryd.prog ops Q rest (a.put o.dst (.agg cs)) w) : wpList Tryd.prog ops Q (o :: rest) a w :=
  wpList_load_row hgd 28 x ho g hx 28 _ (0, 0) _ hg Tryd.underlying28 rfl (by rw [tagSize, h8]) h
theorem wpList_load_alg {ops : Array Oper} {rest : List Oper} {o : Oper} {a : Act} {Q : Exit → Act → World → Prop} (hgd : o.guard = none) (x : Operand) (ho : o.op = .load 32 x)
    (hx : a.eval x = .pointer (some ⟨g, 0, none⟩)) {cs : Array Value} (hg : Whole w g 32 cs) (h8 : cs.size = 36) (h : wpList Tryd.prog ops Q rest (a.put o.dst (.agg cs)) w) : wpList Tryd.prog ops Q (o :: rest) a w :=
  wpList_load_row hgd 32 x ho g hx 32 _ (0, 0) _ hg Tryd.underlying32 rfl (by rw [algSize, h8]) h
theorem tag_size {l : List B8} (h : l.length = 32) : (l.map byt).toArray.size = 32 := by rw [List.size_toArray, List.length_map, h]
theorem tag_one (l : List B8) : (l.map byt).toArray.all (·.oneCell') = true := all_oneCell_toArray (byt_one _)
theorem results_alg3 {fn : Func} {p q r : Tmp} (h : fn.results = #[.cell p 32, .cell q 28, .tmp r]) (tmps : Array Value) {g2 : Nat} {cs cs2 : Array Value} (hp : tmps.getD p undef = .pointer (some ⟨g, 0, none⟩)) (hq : tmps.getD q undef = .pointer (some ⟨g2, 0, none⟩)) (x : Value) (hr : tmps.getD r undef = x)
    (h8 : cs.size = 36) (h8' : cs2.size = 32) (hg : Whole w g 32 cs) (hg2 : Whole w g2 28 cs2) : (results fn tmps).run Tryd.prog w = .ok (.tuple #[.agg cs, .agg cs2, x]) w := by
  have hp' : tmps[p]?.getD undef = .pointer (some ⟨g, 0, none⟩) := by simpa using hp
  have hq' : tmps[q]?.getD undef = .pointer (some ⟨g2, 0, none⟩) := by simpa using hq
  have hr' : tmps[r]?.getD undef = x := by simpa using hr
  simp [results, h, hp', hq', hr', asAddr, run_loadVar_row w g 32 32 cs (0, 0) _ hg Tryd.underlying32 rfl (by rw [algSize, h8]), run_loadVar_row w g2 28 28 cs2 (0, 0) _ hg2 Tryd.underlying28 rfl (by rw [tagSize, h8'])]
theorem results_tag2 {fn : Func} {p q : Tmp} (h : fn.results = #[.cell p 28, .tmp q]) (tmps : Array Value) {cs : Array Value} (hp : tmps.getD p undef = .pointer (some ⟨g, 0, none⟩)) (x : Value) (hq : tmps.getD q undef = x)
    (h8 : cs.size = 32) (hg : Whole w g 28 cs) : (results fn tmps).run Tryd.prog w = .ok (.tuple #[.agg cs, x]) w := by
  have hp' : tmps[p]?.getD undef = .pointer (some ⟨g, 0, none⟩) := by simpa using hp
  have hq' : tmps[q]?.getD undef = x := by simpa using hq
  simp [results, h, hp', hq', asAddr, run_loadVar_row w g 28 28 cs (0, 0) _ hg Tryd.underlying28 rfl (by rw [tagSize, h8])]
end
theorem zeroAlg : (#[.bool false, .int .u8 0, .int .u8 0, .int .u8 0, .int .u8 0, .int .u8 0, .int .u8 0, .int .u8 0, .int .u8 0, .int .u8 0, .int .u8 0, .int .u8 0, .int .u8 0, .int .u8 0, .int .u8 0, .int .u8 0, .int .u8 0, .int .u8 0, .int .u8 0, .int .u8 0, .int .u8 0, .int .u8 0, .int .u8 0, .int .u8 0, .int .u8 0, .int .u8 0, .int .u8 0, .int .u8 0, .int .u8 0, .int .u8 0, .int .u8 0, .int .u8 0, .int .u8 0, .int .i64 0, .slice none 0 0, .slice none 0 0] : Array Value) = alc false (List.replicate 32 0) 0 (.slice none 0 0) (.slice none 0 0) := by
  unfold alc alcl
  rw [p32_eq (by simp)]
  simp only [List.map_replicate, byt, bv_zero]
  rfl
theorem zeroTag : (#[.int .u8 0, .int .u8 0, .int .u8 0, .int .u8 0, .int .u8 0, .int .u8 0, .int .u8 0, .int .u8 0, .int .u8 0, .int .u8 0, .int .u8 0, .int .u8 0, .int .u8 0, .int .u8 0, .int .u8 0, .int .u8 0, .int .u8 0, .int .u8 0, .int .u8 0, .int .u8 0, .int .u8 0, .int .u8 0, .int .u8 0, .int .u8 0, .int .u8 0, .int .u8 0, .int .u8 0, .int .u8 0, .int .u8 0, .int .u8 0, .int .u8 0, .int .u8 0] : Array Value) = ((List.replicate 32 (0 : B8)).map byt).toArray := by
  simp only [List.map_replicate, byt, bv_zero]
  rfl
@[irreducible] def ztr : Array Value := ((List.replicate 32 (0 : B8)).map byt).toArray
@[irreducible] def zar : Array Value := alc false (List.replicate 32 0) 0 (.slice none 0 0) (.slice none 0 0)
theorem ztr_lit : (#[.int .u8 0, .int .u8 0, .int .u8 0, .int .u8 0, .int .u8 0, .int .u8 0, .int .u8 0, .int .u8 0, .int .u8 0, .int .u8 0, .int .u8 0, .int .u8 0, .int .u8 0, .int .u8 0, .int .u8 0, .int .u8 0, .int .u8 0, .int .u8 0, .int .u8 0, .int .u8 0, .int .u8 0, .int .u8 0, .int .u8 0, .int .u8 0, .int .u8 0, .int .u8 0, .int .u8 0, .int .u8 0, .int .u8 0, .int .u8 0, .int .u8 0, .int .u8 0] : Array Value) = ztr := by
  rw [zeroTag]; unfold ztr; rfl
theorem zar_lit : (#[.bool false, .int .u8 0, .int .u8 0, .int .u8 0, .int .u8 0, .int .u8 0, .int .u8 0, .int .u8 0, .int .u8 0, .int .u8 0, .int .u8 0, .int .u8 0, .int .u8 0, .int .u8 0, .int .u8 0, .int .u8 0, .int .u8 0, .int .u8 0, .int .u8 0, .int .u8 0, .int .u8 0, .int .u8 0, .int .u8 0, .int .u8 0, .int .u8 0, .int .u8 0, .int .u8 0, .int .u8 0, .int .u8 0, .int .u8 0, .int .u8 0, .int .u8 0, .int .u8 0, .int .i64 0, .slice none 0 0, .slice none 0 0] : Array Value) = zar := by
  rw [zeroAlg]; unfold zar; rfl
theorem ztr_eq : ztr = ((List.replicate 32 (0 : B8)).map byt).toArray := by unfold ztr; rfl
theorem zar_eq : zar = alc false (List.replicate 32 0) 0 (.slice none 0 0) (.slice none 0 0) := by unfold zar; rfl
theorem ztr_row {w : World} {g : Nat} (h : Whole w g 28 ztr) : TGRow w g (List.replicate 32 0) := by rw [ztr_eq] at h; exact h
theorem ztr_size : ztr.size = 32 := by rw [ztr_eq]; simp
theorem zar_size : zar.size = 36 := by rw [zar_eq]; exact alc_size _ _ _ _ _
theorem byt_cell (x : B8) : byt x = Extern.Stop.cell (UInt8.ofBitVec x) := by
  unfold byt Extern.Stop.cell bv
  rfl
theorem byt_cells (l : List B8) : l.map byt = (l.map UInt8.ofBitVec).map Extern.Stop.cell := by
  rw [List.map_map]
  exact List.map_congr_left fun x _ => byt_cell x
theorem ofBit_eq (l m : List B8) : (l.map UInt8.ofBitVec == m.map UInt8.ofBitVec) = decide (l = m) := by
  rw [Bool.eq_iff_iff, beq_iff_eq, decide_eq_true_eq]
  refine ⟨fun h => ?_, fun h => by rw [h]⟩
  have := congrArg (List.map UInt8.toBitVec) h
  have e : (UInt8.toBitVec ∘ UInt8.ofBitVec) = id := rfl
  rw [List.map_map, List.map_map, e, List.map_id, List.map_id] at this
  exact this
theorem run_eql_tag {l m : List B8} (hl : l.length = 32) (hm : m.length = 32) (w : World) : (binOp .eql 28 (.agg (l.map byt).toArray) (.agg (m.map byt).toArray)).run Tryd.prog w = .ok (.bool (decide (l = m))) w := by
  rw [byt_cells, byt_cells, run_eql_bytes w 28 5 32 (by kernel_rfl) (by kernel_rfl) (run_sizeOf_one (by kernel_rfl)) _ _ (by simpa using hl) (by simpa using hm), ofBit_eq]
theorem run_neq_tag {l m : List B8} (hl : l.length = 32) (hm : m.length = 32) (w : World) : (binOp .neq 28 (.agg (l.map byt).toArray) (.agg (m.map byt).toArray)).run Tryd.prog w = .ok (.bool (!decide (l = m))) w := by
  rw [byt_cells, byt_cells, run_neq_struct, run_equalIn_bytes w 9998 28 5 32 (by kernel_rfl) (by kernel_rfl) (run_sizeOf_one (by kernel_rfl)) _ _ (by simpa using hl) (by simpa using hm), ofBit_eq]
  rfl
end Go.Proofs.YteekdhcffiaaaaaDoor
namespace Go.Proofs.YteekdhcffiaaaaaDoor
open Go Go.RowKit Sh Leaf

theorem ex32 {α : Type} (l : List α) (h : l.length = 32) : ∃ a0 a1 a2 a3 a4 a5 a6 a7 a8 a9 a10 a11 a12 a13 a14 a15 a16 a17 a18 a19 a20 a21 a22 a23 a24 a25 a26 a27 a28 a29 a30 a31 : α, l = [a0, a1, a2, a3, a4, a5, a6, a7, a8, a9, a10, a11, a12, a13, a14, a15, a16, a17, a18, a19, a20, a21, a22, a23, a24, a25, a26, a27, a28, a29, a30, a31] := by
  match l, h with
  | [a0, a1, a2, a3, a4, a5, a6, a7, a8, a9, a10, a11, a12, a13, a14, a15, a16, a17, a18, a19, a20, a21, a22, a23, a24, a25, a26, a27, a28, a29, a30, a31], _ => exact ⟨a0, a1, a2, a3, a4, a5, a6, a7, a8, a9, a10, a11, a12, a13, a14, a15, a16, a17, a18, a19, a20, a21, a22, a23, a24, a25, a26, a27, a28, a29, a30, a31, rfl⟩
set_option maxRecDepth 100000 in
theorem built_mac {K T : List B8} (hK : K.length = 32) (hT : T.length = 32) (D : Option Addr) (n c : Nat) : Tryd.prog.built 69 [(0, .agg (K.map byt).toArray), (1, .slice D n c), (2, .agg (T.map byt).toArray)] = some ((K.map byt) ++ (.slice D n c :: T.map byt)).toArray := by
  obtain ⟨a0, a1, a2, a3, a4, a5, a6, a7, a8, a9, a10, a11, a12, a13, a14, a15, a16, a17, a18, a19, a20, a21, a22, a23, a24, a25, a26, a27, a28, a29, a30, a31, rfl⟩ := ex32 K hK
  obtain ⟨b0, b1, b2, b3, b4, b5, b6, b7, b8, b9, b10, b11, b12, b13, b14, b15, b16, b17, b18, b19, b20, b21, b22, b23, b24, b25, b26, b27, b28, b29, b30, b31, rfl⟩ := ex32 T hT
  simp only [List.map_cons, List.map_nil]
  kernel_rfl
set_option maxRecDepth 100000 in
theorem built_alg (f : Bool) {K : List B8} (hK : K.length = 32) : Tryd.prog.built 32 [(0, .bool f), (1, .agg (K.map byt).toArray)] = some (.bool f :: ((K.map byt) ++ ([.int .i64 0, .slice none 0 0, .slice none 0 0] : List Value))).toArray := by
  obtain ⟨a0, a1, a2, a3, a4, a5, a6, a7, a8, a9, a10, a11, a12, a13, a14, a15, a16, a17, a18, a19, a20, a21, a22, a23, a24, a25, a26, a27, a28, a29, a30, a31, rfl⟩ := ex32 K hK
  simp only [List.map_cons, List.map_nil]
  kernel_rfl
theorem built_alg' (f : Bool) {K : List B8} (hK : K.length = 32) : Tryd.prog.built 32 [(0, .bool f), (1, .agg (K.map byt).toArray)] = some (alc f K 0 (.slice none 0 0) (.slice none 0 0)) := by
  rw [built_alg f hK]
  unfold alc alcl
  rw [p32_eq hK]
theorem wpList_build_alg {w : World} {ops : Array Oper} {rest : List Oper} {o : Oper} {a : Act} {Q : Exit → Act → World → Prop} (hgd : o.guard = none) (x y : Operand) (ho : o.op = .build 32 #[(0, x), (1, y)])
    {f : Bool} {K : List B8} (hK : K.length = 32) (hx : a.eval x = .bool f) (hy : a.eval y = .agg (K.map byt).toArray)
    (h : wpList Tryd.prog ops Q rest (a.put o.dst (.agg (alc f K 0 (.slice none 0 0) (.slice none 0 0)))) w) : wpList Tryd.prog ops Q (o :: rest) a w := by
  refine wpList_build_as hgd 32 _ ho _ ?_ h
  have e : (#[(0, x), (1, y)].map fun (i, x) => (i, a.eval x)).toList = [(0, .bool f), (1, .agg (K.map byt).toArray)] := by simp [hx, hy]
  rw [e]
  exact built_alg' f hK
set_option maxRecDepth 100000 in
theorem built_box {K : List B8} (hK : K.length = 32) (z : Int) (D D2 : Option Addr) (n c n2 c2 : Nat) : Tryd.prog.built 72 [(0, .agg (K.map byt).toArray), (1, .int .i64 z), (2, .slice D n c), (3, .slice D2 n2 c2)] = some ((K.map byt) ++ ([.int .i64 z, .slice D n c, .slice D2 n2 c2] : List Value)).toArray := by
  obtain ⟨a0, a1, a2, a3, a4, a5, a6, a7, a8, a9, a10, a11, a12, a13, a14, a15, a16, a17, a18, a19, a20, a21, a22, a23, a24, a25, a26, a27, a28, a29, a30, a31, rfl⟩ := ex32 K hK
  simp only [List.map_cons, List.map_nil]
  kernel_rfl
end Go.Proofs.YteekdhcffiaaaaaDoor
