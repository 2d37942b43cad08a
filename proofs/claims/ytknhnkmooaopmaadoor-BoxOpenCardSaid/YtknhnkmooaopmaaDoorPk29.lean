/-
  combined.
  The law BoxSeal.
-/
import Derived.Maps.AppendAt
import Derived.Deep.DeepMust
import Derived.Test.YtknhnkmooaopmaaDoorPk27
import Derived.Test.YtknhnkmooaopmaaDoorPk22
import Derived.Test.YtknhnkmooaopmaaDoorKRnd
import Derived.Test.YtknhnkmooaopmaaDoorKAnyG
import Derived.Test.YtknhnkmooaopmaaDoorPk26
import Derived.Test.YtknhnkmooaopmaaDoorPk3
import Derived.Deep.CutBlock
import Derived.Deep.RegionHeld3
import Derived.Deep.DeepCutAuto
import Derived.Test.YtknhnkmooaopmaaDoorPk30
import Derived.Test.YtknhnkmooaopmaaDoorPk15
import Derived.Test.YtknhnkmooaopmaaDoorPk33
import Derived.Test.YtknhnkmooaopmaaDoorPk11
namespace Go.Proofs.YtknhnkmooaopmaaDoor
open Go Go.RowKit Sh Leaf
open Go.Shelf
attribute [local go_sem] Oper.semAt_some

theorem clone_own (v : Value) (l : List B8) (Q : Nat → Prop) (w : World) (hr : Bytes w Q v l) (hl : l.length ≤ 1000000000) :
    Calls Tryd.prog 29 #[v] w fun e w' => ∃ v', e = .returned v' ∧ Own w' w.heap.size v' l ∧ Below w.heap.size w w' := by
  have hr' := hr
  obtain ⟨A, c, rfl, hc1, hc2, hc3, hc4⟩ := hr'
  have he := fun (W : World) => Lib.run_eql_slice_nil (P := Tryd.prog) W 23 5 A l.length c 0 0 Tryd.underlying23
  clear hc4
  cases A with
  | none =>
    have h0 := hc3 rfl
    have hy : l = [] := List.eq_nil_of_length_eq_zero (by omega)
    subst hy
    subst h0
    simp only [List.length_nil] at he ⊢
    clear hc3 hr
    go_enter Tryd.func29, Tryd.ntmps29
    go_wp2
    go_ret
    exact ⟨_, rfl, ⟨rfl, .inl ⟨rfl, rfl⟩⟩, Below.refl _ _⟩
  | some ad =>
    clear hc3
    go_enter Tryd.func29, Tryd.ntmps29
    go_wp2_with (at_builtin; refine wpList_append_bytes rfl _ _ rfl w.heap.size (.slice (some ⟨w.heap.size, 0, none⟩) 0 0) [] rfl (own_lit w w.heap.size [] (Nat.le_refl _) (by simp)) Q _ l rfl (hr.alloc _) (by simp; omega) (by simp) ?_; intro v' w' h1 h2)
    go_ret
    exact ⟨v', rfl, (by simpa using h1), ((Below.refl _ _).alloc (Nat.le_refl _) _).trans h2⟩

theorem stream_ (n : Nat) (x : Array Value) (A : Option Addr) (b c : Nat) (z : Int) (w : World) :
    CallsIn Fence.wide n Tryd.prog 68 #[.agg x, .slice A b c, .int .i64 z] w fun e w' => e = .returned (.func (.func 74) #[] #[.pointer (some ⟨w.heap.size + 1 + 1, 0, none⟩), .pointer (some ⟨w.heap.size + 1, 0, none⟩), .pointer (some ⟨w.heap.size, 0, none⟩)]) ∧
      w' = ((w.alloc (.cells x 28)).alloc (.cells #[.slice A b c] 23)).alloc (.cells #[.int .i64 z] 3) := by
  refine callsIn_of_wp Tryd.func68 rfl trivial ?_ rfl
  simp only [Tryd.ntmps68, List.size_toArray, List.length_cons, List.length_nil, Nat.reduceAdd, Nat.reduceSub, Array.replicate_succ, Array.replicate_zero, List.push_toArray, List.append_toArray, List.nil_append, List.cons_append]
  gi_wp2
  go_ret
  exact ⟨rfl, rfl⟩

/-- One block combined; all of them. -/
def xat (f : Nat → List B8) (L : List B8) (k : Nat) : List B8 := L.mapIdx fun i x => if i / 32 = k then x ^^^ (f k).getD (i % 32) 0 else x
def xall (f : Nat → List B8) (m : List B8) (pre : List Nat) : List B8 := pre.foldl (xat f) m
theorem xat_length (f : Nat → List B8) (L : List B8) (k : Nat) : (xat f L k).length = L.length := by unfold xat; simp
theorem xall_length (f : Nat → List B8) (m : List B8) (pre : List Nat) : (xall f m pre).length = m.length := by
  unfold xall
  induction pre generalizing m with
  | nil => rfl
  | cons k t ih => rw [List.foldl_cons, ih, xat_length]
theorem xall_snoc (f : Nat → List B8) (m : List B8) (pre : List Nat) (k : Nat) : xall f m (pre ++ [k]) = xat f (xall f m pre) k := by unfold xall; rw [List.foldl_append]; rfl
theorem xall_range (f : Nat → List B8) (m : List B8) (j : Nat) : xall f m (List.range j) = m.mapIdx fun i x => if i / 32 < j then x ^^^ (f (i / 32)).getD (i % 32) 0 else x := by
  induction j with
  | zero =>
    refine List.ext_getElem? fun i => ?_
    rw [List.getElem?_mapIdx]
    unfold xall
    cases h : m[i]? <;> simp [h]
  | succ j ih =>
    rw [List.range_succ, xall_snoc, ih]
    unfold xat
    refine List.ext_getElem? fun i => ?_
    rw [List.getElem?_mapIdx, List.getElem?_mapIdx, List.getElem?_mapIdx]
    cases m[i]? with
    | none => rfl
    | some x =>
      simp only [Option.map_some]
      congr 1
      by_cases e : i / 32 = j
      · rw [if_pos e, if_neg (by omega), if_pos (by omega), e]
      · rw [if_neg e]
        by_cases q : i / 32 < j
        · rw [if_pos q, if_pos (by omega)]
        · rw [if_neg q, if_neg (by omega)]
/-- The first j bytes of a block. -/
def xpt (f : Nat → List B8) (L : List B8) (k j : Nat) : List B8 := L.mapIdx fun i x => if i / 32 = k ∧ i % 32 < j then x ^^^ (f k).getD (i % 32) 0 else x
theorem xpt_length (f : Nat → List B8) (L : List B8) (k j : Nat) : (xpt f L k j).length = L.length := by unfold xpt; simp
theorem xpt_zero (f : Nat → List B8) (L : List B8) (k : Nat) : xpt f L k 0 = L := by
  unfold xpt
  refine List.ext_getElem? fun i => ?_
  rw [List.getElem?_mapIdx]
  cases L[i]? <;> simp
theorem xpt_all (f : Nat → List B8) (L : List B8) (k j : Nat) (h : 32 ≤ j ∨ L.length ≤ k * 32 + j) : xpt f L k j = xat f L k := by
  unfold xpt xat
  refine List.ext_getElem? fun i => ?_
  rw [List.getElem?_mapIdx, List.getElem?_mapIdx]
  cases hi : L[i]? with
  | none => rfl
  | some x =>
    have := (List.getElem?_eq_some_iff.1 hi).1
    simp only [Option.map_some]
    congr 1
    by_cases e : i / 32 = k
    · rw [if_pos ⟨e, by omega⟩, if_pos e]
    · rw [if_neg (fun q => e q.1), if_neg e]
theorem xpt_set (f : Nat → List B8) (L : List B8) (k j : Nat) (hj : j < 32) (hl : k * 32 + j < L.length) : (xpt f L k j).set (k * 32 + j) (L.getD (k * 32 + j) 0 ^^^ (f k).getD j 0) = xpt f L k (j + 1) := by
  refine List.ext_getElem? fun i => ?_
  rw [List.getElem?_set, xpt_length]
  unfold xpt
  rw [List.getElem?_mapIdx, List.getElem?_mapIdx]
  by_cases e : k * 32 + j = i
  · subst e
    rw [if_pos rfl, if_pos hl, List.getElem?_eq_getElem hl]
    simp only [Option.map_some]
    rw [if_pos ⟨by omega, by omega⟩, show (k * 32 + j) % 32 = j by omega, List.getD_eq_getElem?_getD, List.getElem?_eq_getElem hl]
    rfl
  · rw [if_neg e]
    cases L[i]? with
    | none => rfl
    | some x =>
      simp only [Option.map_some]
      congr 1
      by_cases q : i / 32 = k ∧ i % 32 < j
      · rw [if_pos q, if_pos ⟨q.1, by omega⟩]
      · rw [if_neg q, if_neg (fun r => q ⟨r.1, by omega⟩)]
theorem xpt_get (f : Nat → List B8) (L : List B8) (k j : Nat) (_ : j < 32) : (xpt f L k j).getD (k * 32 + j) 0 = L.getD (k * 32 + j) 0 := by
  unfold xpt
  rw [List.getD_eq_getElem?_getD, List.getD_eq_getElem?_getD, List.getElem?_mapIdx]
  cases L[k * 32 + j]? with
  | none => rfl
  | some x =>
    simp only [Option.map_some, Option.getD_some]
    rw [if_neg (fun q => by omega)]
theorem xall_strm (K N m : List B8) (k : Nat) (hN : N.length = 8) (hk : m.length ≤ k * 32) : xall (sblk K N) m (List.range k) = strm K (beval N) m := by
  rw [xall_range]
  unfold strm
  refine List.ext_getElem? fun i => ?_
  rw [List.getElem?_mapIdx, List.getElem?_mapIdx]
  cases hi : m[i]? with
  | none => rfl
  | some x =>
    have := (List.getElem?_eq_some_iff.1 hi).1
    simp only [Option.map_some]
    rw [if_pos (by omega)]
    have e : sblk K N (i / 32) = hmac K (strw ++ (be8 (beval N) ++ be8 (i / 32))) := by rw [be8_beval _ hN, ← List.append_assoc]; unfold sblk; rfl
    unfold kstr
    rw [e]
theorem tables_keep {w W : World} (h : Tables w) (hk : ∀ g, g < w.heap.size → W.heap[g]? = w.heap[g]?) : Tables W :=
  ⟨fun j hj => (World.cell?_of_block (hk _ h.1.lt)).trans (h.1 j hj), fun j hj => (World.cell?_of_block (hk _ h.lt)).trans (h.2 j hj)⟩
/-- The row that is combined. -/
def CRow (W : World) (g0 cap : Nat) (L : List B8) : Prop := 0 < L.length → ∃ cur, W.heap[g0]? = some (.cells cur 5 (0, 0)) ∧ cur.size = cap ∧ L.length ≤ cap ∧ cur.toList.take L.length = L.map byt
theorem own_crow {W : World} {base : Nat} {v : Value} {l : List B8} (h : Own W base v l) (hb : base ≤ W.heap.size) : ∃ A0 cap g0, v = .slice A0 l.length cap ∧ (0 < l.length → A0 = some ⟨g0, 0, none⟩ ∧ g0 < W.heap.size) ∧ base ≤ g0 ∧ (g0 < W.heap.size ∨ g0 = W.heap.size + 100) ∧ CRow W g0 cap l ∧ cap ≤ maxLen ∧ l.length ≤ cap ∧ (A0 = none → cap = 0) := by
  obtain ⟨-, h | ⟨g, cap, cur, rfl, hg, hh, h1, h2, h3, h4⟩⟩ := h
  · obtain ⟨rfl, h0⟩ := h
    exact ⟨none, 0, W.heap.size + 100, by rw [h0], fun h => by omega, by omega, .inr rfl, fun h => by omega, by unfold maxLen; omega, by omega, fun _ => rfl⟩
  · have hlt := (Array.getElem?_eq_some_iff.1 hh).1
    exact ⟨some ⟨g, 0, none⟩, cap, g, rfl, fun _ => ⟨rfl, hlt⟩, hg, .inl hlt, fun _ => ⟨cur, hh, by simpa using h3, h1, by simpa using h4⟩, h2, h1, nofun⟩
theorem bytes_crow {W : World} {g0 cap : Nat} {A0 : Option Addr} {L : List B8} (h : CRow W g0 cap L) (hA : 0 < L.length → A0 = some ⟨g0, 0, none⟩) (h1 : cap ≤ maxLen) (h2 : L.length ≤ cap) (h3 : A0 = none → cap = 0) : Bytes W (fun g => g = g0 ∧ 0 < L.length) (.slice A0 L.length cap) L := by
  refine ⟨A0, cap, rfl, h2, h1, h3, fun h0 => ⟨g0, 0, hA h0, ⟨rfl, h0⟩, fun j x hj => ?_⟩⟩
  obtain ⟨cur, hh, hs, -, ht⟩ := h h0
  have hjl := (List.getElem?_eq_some_iff.1 hj).1
  have e : (cur.toList.take L.length)[j]? = some (byt x) := by rw [ht, List.getElem?_map, hj]; rfl
  rw [List.getElem?_take_of_lt hjl, Array.getElem?_toList] at e
  unfold World.cell?
  simp only [hh, Nat.zero_add]
  simpa using e
theorem crow_set {W : World} {g0 cap : Nat} {L : List B8} (h : CRow W g0 cap L) (j : Nat) (x : B8) : CRow (W.setCell ⟨g0, j, none⟩ (byt x)) g0 cap (L.set j x) := by
  intro h0
  rw [List.length_set] at h0
  obtain ⟨cur, hh, hs, h1, ht⟩ := h h0
  refine ⟨cur.setIfInBounds j (byt x), ?_, by simpa using hs, by simpa using h1, ?_⟩
  · have hlt := (Array.getElem?_eq_some_iff.1 hh).1
    have he := (Array.getElem?_eq_some_iff.1 hh).2
    simp [World.setCell, Array.getElem?_modify, hh]
  · rw [List.length_set, Array.toList_setIfInBounds, List.take_set, ht, List.map_set]
theorem crow_keep {W W' : World} {g0 cap : Nat} {L : List B8} (h : CRow W g0 cap L) (hk : 0 < L.length → W'.heap[g0]? = W.heap[g0]?) : CRow W' g0 cap L := fun h0 => by
  obtain ⟨cur, hh, r⟩ := h h0
  exact ⟨cur, (hk h0).trans hh, r⟩

theorem crow_cell {W : World} {g0 cap : Nat} {L : List B8} (h : CRow W g0 cap L) (i : Nat) (hi : i < L.length) : W.cell? ⟨g0, i, none⟩ = some (byt (L.getD i 0)) ∧ W.frozen? ⟨g0, i, none⟩ = false := by
  obtain ⟨cur, hh, hs, h1, ht⟩ := h (by omega)
  have e : (cur.toList.take L.length)[i]? = some (byt (L.getD i 0)) := by rw [ht, List.getElem?_map, List.getD_eq_getElem?_getD, List.getElem?_eq_getElem hi]; rfl
  rw [List.getElem?_take_of_lt hi, Array.getElem?_toList] at e
  refine ⟨?_, ?_⟩
  · unfold World.cell?
    simp only [hh]
    simpa using e
  · unfold World.frozen?
    simp [hh]
theorem tag_cell {W : World} {G : Nat} {E : List B8} (h : TGRow W G E) (j : Nat) (hj : j < E.length) : W.cell? ⟨G, j, none⟩ = some (byt (E.getD j 0)) := by
  have := Whole.cell h j
  rw [this, List.getElem?_toArray, List.getElem?_map, List.getD_eq_getElem?_getD, List.getElem?_eq_getElem hj]
  rfl
theorem region_round_G {P : Program} {ops : Array Oper} {l n : Nat} (C B : World → Prop) (ks : List Nat) {id : Nat} {Q : Exit → Act → World → Prop} {a : Act} {w : World} (hm : P.follows .mixedOrders = true) (hnd : noDefer ops = true)
    (h : AnyG P .any ops (OnlyN (Q .normal)) C B ks ops.size (Array.replicate ops.size false) a w.drew) : (Code.region id ops true).wpIn (Fence.wide.inRound l) n P Q a w :=
  wpIn_region_any hm (any_round hnd _ _ _ _ (wpAny_of_G (C := C) (B := B) (ks := ks) _ _ _ _ (fun k _ hl => by rw [getD_replicate_false] at hl; cases hl) h))
/-- One block has turned. -/
def OneBlk (g0 : Nat) (V W : World) : Prop := W.os = V.os ∧ W.tape = V.tape ∧ W.output = V.output ∧ W.heap.size = V.heap.size ∧ ∀ g, g ≠ g0 → W.heap[g]? = V.heap[g]?
theorem OneBlk.refl (g0 : Nat) (V : World) : OneBlk g0 V V := ⟨rfl, rfl, rfl, rfl, fun _ _ => rfl⟩
theorem OneBlk.cell {g0 : Nat} {V W : World} (h : OneBlk g0 V W) {p : Addr} (hp : p.block ≠ g0) : W.cell? p = V.cell? p := World.cell?_of_block (h.2.2.2.2 _ hp)
theorem OneBlk.set {g0 : Nat} {V W : World} (h : OneBlk g0 V W) (j : Nat) (v : Value) : OneBlk g0 V (W.drew.setCell ⟨g0, j, none⟩ v) :=
  ⟨h.1, h.2.1, h.2.2.1, by simpa using h.2.2.2.1, fun g hg => (heap_setCell_other W.drew ⟨g0, j, none⟩ g v hg).trans (h.2.2.2.2 g hg)⟩
/-- What is known between two blocks. -/
def combI (w : World) (q g0 : Nat) (A0 : Option Addr) (cap : Nat) (f : Nat → List B8) (m : List B8) (pre : List Nat) (W : World) : Prop :=
  CRow W g0 cap (xall f m pre) ∧ Below w.heap.size w W ∧ Boxed W q 23 (.slice A0 m.length cap) ∧ q + 4 ≤ W.heap.size
/-- A block that has come. -/
def combP (f : Nat → List B8) (mk : Nat → Nat → Act) (x : Nat) (a : Act) (W : World) : Prop := ∃ G, a = mk x G ∧ TGRow W G (f x)
set_option linter.unusedSimpArgs false in
set_option linter.unusedVariables false in
set_option maxRecDepth 100000 in
set_option maxHeartbeats 4000000 in
theorem combok : CombOk := by
  intro w Q Q2 K N m A B c d hK hN hNb hm hml hT
  rw [hN] at hNb ⊢
  obtain ⟨p, hp⟩ : ∃ p, p = w.alloc (.cells (K.map byt).toArray 28) := ⟨_, rfl⟩
  have hk : TGRow p w.heap.size K := by rw [hp]; exact Whole.here _ _ _
  have hb : Below w.heap.size w p := by rw [hp]; exact (Below.refl _ _).alloc (Nat.le_refl _) _
  have hsp : w.heap.size + 1 ≤ p.heap.size := by rw [hp]; simp
  have hcl := clone_own (.slice B m.length d) m _ p (hm.below hb (Nat.le_refl _)) (by omega)
  have hNp := hNb.below hb (Nat.le_refl _)
  have HT := Lib.hid hT
  have HM := Lib.hid hm
  have HNb := Lib.hid hNb
  have HK := Lib.hid hk
  have HB := Lib.hid hb
  clear hT hm hNb hk hb hNp
  refine (callsIn_wide (n := 3)).1 ?_
  refine callsIn_of_wp_marks Tryd.func56 rfl trivial ?_ rfl
  simp only [Tryd.ntmps56, List.size_toArray, List.length_cons, List.length_nil, Nat.reduceAdd, Nat.reduceSub, Array.replicate_succ, Array.replicate_zero, List.push_toArray, List.append_toArray, List.nil_append, List.cons_append]
  refine wpIn_wide.2 ?_
  go_wp2_with fail
  rw [← hp]
  refine hcl.mono ?_
  rintro e w1 ⟨v1, rfl, ho, hb1⟩
  clear hcl
  have hs1 : p.heap.size ≤ w1.heap.size := hb1.size
  obtain ⟨A0, cap, g0, rfl, hA0, hg0, hg1, hcr, hcm, hcl, hcn⟩ := own_crow ho hs1
  have HB1 := Lib.hid hb1
  have HG := Lib.hid (And.intro hA0 (And.intro hg0 (And.intro hg1 (And.intro hcm (And.intro hcl hcn)))))
  have HCR := Lib.hid hcr
  clear ho hb1 hA0 hg0 hg1 hcr hcm hcl hcn hp
  have hkr := Whole.below HK.out HB1.out (Whole.lt HK.out)
  have hcs := fun W => (callsIn_wide (n := 3)).1 (stream_ 3 (K.map byt).toArray A 8 c (m.length : Int) W)
  go_upto_region 2 with fail
  obtain ⟨q, hq⟩ : ∃ q, q = w1.heap.size := ⟨_, rfl⟩
  obtain ⟨p2, hp2⟩ : ∃ x, x = w1.alloc (.cells #[.slice A0 m.length cap] 23) := ⟨_, rfl⟩
  have hb2 : Below w1.heap.size w1 p2 := by rw [hp2]; exact (Below.refl _ _).alloc (Nat.le_refl _) _
  have hx2 : Boxed p2 q 23 (.slice A0 m.length cap) := by rw [hp2, hq]; exact Boxed.new _ _ _
  have hs2 : p2.heap.size = q + 1 := by rw [hp2, hq]; simp
  have hkr2 := Whole.below hkr hb2 (Whole.lt hkr)
  rw [← hp2, ← hq]
  have HQ := Lib.hid hq
  have HB2 := Lib.hid hb2
  have HX2 := Lib.hid hx2
  clear hp2 hkr hq hb2 hx2
  go_wp2_with (with_reducible refine wpList_load_tag rfl _ rfl rfl hkr2 (tag_size hK) ?_)
  refine (hcs p2).mono ?_
  rintro e W0 ⟨rfl, hW0⟩
  clear hcs
  rw [hs2]
  have hbW : Below p2.heap.size p2 W0 := by rw [hW0]; exact (((Below.refl _ _).alloc (Nat.le_refl _) _).alloc (by simp) _).alloc (by simp; omega) _
  have hsW : W0.heap.size = q + 4 := by rw [hW0]; simp [hs2]
  have hW1 : TGRow W0 (q + 1) K := by rw [hW0, ← hs2]; exact ((Whole.here _ _ _).alloc _).alloc _
  have hW2 : W0.cell? ⟨q + 1 + 1, 0, none⟩ = some (.slice A 8 c) := by
    have : Whole W0 (q + 1 + 1) 23 #[.slice A 8 c] := by rw [hW0]; exact (Whole.at_ _ _ _ _ (by simp [hs2])).alloc _
    exact this.cell 0
  have hW3 : W0.cell? ⟨q + 1 + 1 + 1, 0, none⟩ = some (.int .i64 (m.length : Int)) := by
    have : Whole W0 (q + 1 + 1 + 1) 3 #[.int .i64 (m.length : Int)] := by rw [hW0]; exact Whole.at_ _ _ _ _ (by simp [hs2])
    exact this.cell 0
  clear hW0
  have hbWw : Below w.heap.size w W0 := HB.out.trans ((HB1.out.mono (by omega)).trans ((HB2.out.mono (by omega)).trans (hbW.mono (by have := HQ.out; omega))))
  have hxW : Boxed W0 q 23 (.slice A0 m.length cap) := (hbW.block q (by omega)).trans HX2.out
  have hcW : CRow W0 g0 cap m := crow_keep HCR.out fun h0 => by
    have := (HG.out.1 h0).2
    exact (hbW.block g0 (by have := HQ.out; omega)).trans (HB2.out.block g0 (by omega))
  have hgq : g0 ≠ q ∧ g0 ≠ q + 1 ∧ g0 ≠ q + 1 + 1 ∧ g0 ≠ q + 1 + 1 + 1 ∧ w.heap.size < g0 := by
    have h1 := HG.out.2.1
    have h2 := HG.out.2.2.1
    have := HQ.out
    omega
  have hqw : w.heap.size < q := by have := HQ.out; omega
  have hbn0 : Bytes W0 (fun g => g < w.heap.size) (.slice A 8 c) N := (HNb.out.mono (Q' := fun g => g < w.heap.size) fun g hg _ => hg).below hbWw (Nat.le_refl _)
  have HC := Lib.hid hcW
  have HBW := Lib.hid hbWw
  have HXW := Lib.hid hxW
  have HBN := Lib.hid hbn0
  have HW1 := Lib.hid hW1
  have HW2 := Lib.hid hW2
  have HW3 := Lib.hid hW3
  clear hcW hbWw hxW hbn0 hW1 hW2 hW3 hbW hkr2
  go_wp2_with fail
  obtain ⟨mk, hmk⟩ : ∃ mk : Nat → Nat → Act, mk = fun x G => { tmps := #[.agg (K.map byt).toArray, .slice A 8 c, .slice B m.length d, .pointer (some ⟨w.heap.size, 0, none⟩), undef, undef, .slice none 0 0, .pointer (some ⟨q, 0, none⟩), .int .i64 ((x : Int) * 32), .pointer (some ⟨G, 0, none⟩), undef, .slice B m.length d, .slice A0 m.length cap, .agg (K.map byt).toArray, .slice A 8 c, .slice B m.length d, .int .i64 (m.length : Int), .func (.func 74) #[] #[.pointer (some ⟨q + 1 + 1 + 1, 0, none⟩), .pointer (some ⟨q + 1 + 1, 0, none⟩), .pointer (some ⟨q + 1, 0, none⟩)], .int .i64 ((x : Int) * 32), tagv (sblk K N x), undef, undef, undef, undef, undef, undef, undef, undef, undef, undef, undef, undef, undef, undef, undef, undef, undef, undef, undef, undef, undef], defers := [] } := ⟨_, rfl⟩
  refine (wpIn_wide (n := 3)).1 ?_
  refine wpIn_range_made (by omega) (gf := 74) (lb := #[.pointer (some ⟨q + 1 + 1 + 1, 0, none⟩), .pointer (some ⟨q + 1 + 1, 0, none⟩), .pointer (some ⟨q + 1, 0, none⟩)]) rfl (enters_of Tryd.func74 (by kernel_rfl) rfl) (encs := senc K N) (fun _ => rfl) (Mx := fun x _ => x * 32 < m.length) (Kp := KpB (q + 4) g0) (S := sdone m.length) (Sp := fun _ => True) (N := m.length + 1)
    (fun l J Jx W hW gJ _ hY h0 => ?it) (fun _ _ _ => KpB.trans) (fun W l o o' hl ho hc => ⟨by simp, fun g a b => World.putObj_heap_other (by omega)⟩)
    (fun _ _ _ _ _ h _ _ _ => h) (combI w q g0 A0 cap (sblk K N) m) (fun _ _ => False) ?hI (fun _ _ _ _ _ h _ _ _ => h) ?gI (fun _ _ _ h _ => h) ?h0
    (combP (sblk K N) mk) ?hPa (fun _ _ _ h _ => h) (fun W W' h hb => KpB.below hb (by omega)) ?assign ?body ?done ?stop
  case it =>
    have hBW := HBW.out.trans (hW.mono (by omega))
    have hsz := hW.size
    exact stream1 2 (by omega) l (q + 1 + 1 + 1) (q + 1 + 1) (q + 1) (q + 4) g0 m.length A c K N hK hN hml J Jx gJ hY W (by omega) ⟨by omega, by omega⟩ ⟨by omega, by omega⟩ ⟨by omega, by omega⟩
      ((hW.cell (p := ⟨q + 1 + 1 + 1, 0, none⟩) (by show q + 1 + 1 + 1 < W0.heap.size; omega)).trans HW3.out) ((hW.cell (p := ⟨q + 1 + 1, 0, none⟩) (by show q + 1 + 1 < W0.heap.size; omega)).trans HW2.out) (Whole.below HW1.out hW (by omega))
      ((HBN.out.below hW (Nat.le_refl _)).mono fun g _ hg => ⟨by have : g < w.heap.size := hg; omega, by have : g < w.heap.size := hg; omega⟩)
      (fun W' hk => tables_keep HT.out fun g hg => (hk.2 g (by omega) (by omega)).trans (hBW.block g hg)) h0
  case hI =>
    rintro s V l o o' ⟨h1, h2, h3, h4⟩ hl ho hc
    refine ⟨crow_keep h1 fun h0 => World.putObj_heap_other ?_, h2.trans ⟨rfl, rfl, rfl, by simp, fun k hk => World.putObj_heap_other (by have := HBW.out.size; omega)⟩, (World.putObj_heap_other (by omega)).trans h3, by simpa using h4⟩
    have := (HG.out.1 (by rwa [xall_length] at h0)).2
    have := HQ.out
    omega
  case gI =>
    rintro s V V' ⟨h1, h2, h3, h4⟩ hb
    refine ⟨crow_keep h1 fun h0 => hb.block g0 ?_, h2.trans (hb.mono h2.size), (hb.block q (by omega)).trans h3, Nat.le_trans h4 hb.size⟩
    have := (HG.out.1 (by rwa [xall_length] at h0)).2
    have := HQ.out
    omega
  case h0 => exact ⟨HC.out, HBW.out, HXW.out, by omega⟩
  case hPa =>
    rintro x a' V l o o' ⟨G, h1, h2⟩ hl ho hc
    refine ⟨G, h1, (World.putObj_heap_other fun e => ?_).trans h2⟩
    subst e
    rw [show V.heap[G]? = _ from h2] at ho
    cases ho
    cases hc
  case assign =>
    intro l x W K1 hK1
    simp only [senc]
    refine wpIn_seq ?_
    refine region_round_lit (by kernel_rfl) ?_
    go_wp2_with fail
    obtain ⟨E, hE⟩ : ∃ E, E = sblk K N x := ⟨_, rfl⟩
    have hlE : E.length = 32 := by rw [hE]; exact sblk_length _ _ _
    have HE := Lib.hid hE
    rw [← hE]
    clear hE
    show (Code.region 4 _ false).wpIn (Fence.wide.inRound l) 1 Tryd.prog (Exit.then K1 fun _ _ _ => False) _ W
    refine region_round_lit (by kernel_rfl) ?_
    go_wp2_with (with_reducible refine wpList_store_tag rfl _ _ rfl (g := W.heap.size) rfl rfl (Whole.here W _ _) rfl (tag_size hlE) (tag_one _) ?_)
    rw [ztr_lit]
    refine hK1 _ _ (below_setRow ((Below.refl _ _).alloc (Nat.le_refl _) _) (Nat.le_refl _) _) ⟨W.heap.size, ?_, ?_⟩
    · rw [hmk, HE.out]
    · rw [← HE.out]; exact Whole.setRow (Whole.here _ _ _) _
  case body =>
    rintro l pre x a' V ⟨hc, hbV, hxV, hsV⟩ hx ⟨G, rfl, hrT⟩ -
    rw [hmk]
    dsimp only
    have h0 : 0 < m.length := by omega
    obtain ⟨hA0, hg0⟩ := HG.out.1 h0
    have hGg : G ≠ g0 := by
      rintro rfl
      obtain ⟨cur, hh, -⟩ := hc (by rw [xall_length]; exact h0)
      rw [show V.heap[G]? = _ from hrT] at hh
      injection hh with hh
      injection hh with _ ht
      exact tag_ne_u8 ht
    obtain ⟨L, hL⟩ : ∃ L, L = xall (sblk K N) m pre := ⟨_, rfl⟩
    have hLl : L.length = m.length := by rw [hL, xall_length]
    rw [← hL] at hc
    have hqc := hxV.cell
    have hqf := hxV.frozen
    obtain ⟨t, hmn, ht1, ht2, ht3⟩ : ∃ t : Nat, min ((m.length : Int) - (x : Int) * 32) 32 = (t : Int) ∧ t ≤ 32 ∧ x * 32 + t ≤ m.length ∧ (32 ≤ t ∨ m.length ≤ x * 32 + t) := ⟨min (m.length - x * 32) 32, by omega, by omega, by omega, by omega⟩
    have HCV := Lib.hid hc
    have HBV := Lib.hid hbV
    have HXV := Lib.hid hxV
    have HLL := Lib.hid hL
    have HT3 := Lib.hid ht3
    clear hc hbV hL ht3
    gi_wp2
    gi_loopw [25] (fun vi wr => ∃ j : Nat, vi = .int .i64 (j : Int) ∧ j ≤ t ∧ CRow wr g0 cap (xpt (sblk K N) L x j) ∧ OneBlk g0 V wr) (fun vi _ => t - (intOf vi).toNat)
    case atStart => exact ⟨0, rfl, by omega, by rw [xpt_zero]; exact HCV.out, OneBlk.refl _ _⟩
    case round =>
      obtain ⟨j, rfl, hj, hcj, hob⟩ := hrel
      have HCJ := Lib.hid hcj
      have HOB := Lib.hid hob
      have hqc := (hob.cell (p := ⟨q, 0, none⟩) (fun e => hgq.1 e.symm)).trans hqc
      have hqf : wr.frozen? ⟨q, 0, none⟩ = false := Boxed.frozen ((hob.2.2.2.2 q (fun e => hgq.1 e.symm)).trans HXV.out)
      clear hcj hob
      by_cases hlt : j < t
      · obtain ⟨i, hi⟩ : ∃ i : Nat, i = x * 32 + j := ⟨_, rfl⟩
        have hix : (x : Int) * 32 + (j : Int) = (i : Int) := by omega
        have hil : i < m.length := by omega
        have hi0 : (0 : Int) ≤ (i : Int) := by omega
        have hil2 : (i : Int) < (m.length : Int) := by omega
        have hj0 : (0 : Int) ≤ (j : Int) := by omega
        have hj32 : (j : Int) < 32 := by omega
        obtain ⟨X, hX⟩ : ∃ X, X = L.getD i 0 := ⟨_, rfl⟩
        obtain ⟨Y, hY⟩ : ∃ Y, Y = (sblk K N x).getD j 0 := ⟨_, rfl⟩
        obtain ⟨hcx, hcf⟩ := crow_cell HCJ.out i (by rw [xpt_length]; omega)
        rw [hi, xpt_get _ _ _ _ (by omega), ← hi, ← hX] at hcx
        have hcy : wr.cell? ⟨G, j, none⟩ = some (byt Y) := by
          rw [hY]
          exact (HOB.out.cell (p := ⟨G, j, none⟩) hGg).trans (tag_cell hrT j (by rw [sblk_length]; omega))
        have hxor := bits_xor_bv X Y
        have hwi : IntKind.i64.wrap (i : Int) = (i : Int) := by rw [IntKind.wrap_i64]; omega
        have HF : Hid (CRow (wr.drew.setCell ⟨g0, i, none⟩ (byt (X ^^^ Y))) g0 cap (xpt (sblk K N) L x (j + 1)) ∧ OneBlk g0 V (wr.drew.setCell ⟨g0, i, none⟩ (byt (X ^^^ Y)))) := Lib.hid ⟨by
          have := crow_set (crow_keep (W' := wr.drew) HCJ.out fun _ => rfl) i (X ^^^ Y)
          rw [hX, hY, hi, xpt_set _ _ _ _ (by omega) (by omega)] at this
          rw [hX, hY, hi]; exact this, HOB.out.set i _⟩
        clear hX hY hi
        gi_wp2_with fail
        refine region_round_G (fun W : World => (W.cell? ⟨q, 0, none⟩ = some (.slice (some ⟨g0, 0, none⟩) m.length cap)) ∧ (W.cell? ⟨g0, i, none⟩ = some (byt X)) ∧ W.cell? ⟨G, j, none⟩ = some (byt Y)) (fun _ => True) [11] (by kernel_rfl) (by kernel_rfl) ?_
        have hHeld : (fun W : World => (W.cell? ⟨q, 0, none⟩ = some (.slice (some ⟨g0, 0, none⟩) m.length cap)) ∧ (W.cell? ⟨g0, i, none⟩ = some (byt X)) ∧ W.cell? ⟨G, j, none⟩ = some (byt Y)) wr.drew := ⟨by rw [← hA0]; exact hqc, hcx, hcy⟩
        apply AnyG_take (i := 0) rfl (by kernel_rfl) (by kernel_rfl) (by kernel_rfl) (by kernel_rfl)
        case hQ => exact fun _ _ _ h => h
        case hB => exact trivial
        case hC => exact hHeld
        case hy => (refine Or.inl ⟨by rfl, ?_⟩; intro w hSw; (try go_split_ands); go_simp; (try with_reducible rfl))
        (try simp only [List.getElem_toArray, List.getElem_cons_zero, Act.put, List.setIfInBounds_toArray, List.set_cons_zero, List.set_cons_succ])
        apply AnyG_pure (i := 1) rfl (by kernel_rfl) (by kernel_rfl) (by kernel_rfl) (by kernel_rfl)
        case hQ => exact fun _ _ _ h => h
        case hB => exact trivial
        case hC => exact .inr hHeld
        case hy => (refine Or.inl ⟨by rfl, ?_⟩; intro w hSw; (try go_split_ands); go_simp; (try with_reducible rfl))
        (try simp only [List.getElem_toArray, List.getElem_cons_succ, List.getElem_cons_zero, Act.put, List.setIfInBounds_toArray, List.set_cons_zero, List.set_cons_succ])
        apply AnyG_pure (i := 2) rfl (by kernel_rfl) (by kernel_rfl) (by kernel_rfl) (by kernel_rfl)
        case hQ => exact fun _ _ _ h => h
        case hB => exact trivial
        case hC => exact .inr hHeld
        case hy => (refine Or.inl ⟨by rfl, ?_⟩; intro w hSw; (try go_split_ands); go_simp; (try with_reducible rfl))
        (try simp only [List.getElem_toArray, List.getElem_cons_succ, List.getElem_cons_zero, Act.put, List.setIfInBounds_toArray, List.set_cons_zero, List.set_cons_succ])
        apply AnyG_pure (i := 3) rfl (by kernel_rfl) (by kernel_rfl) (by kernel_rfl) (by kernel_rfl)
        case hQ => exact fun _ _ _ h => h
        case hB => exact trivial
        case hC => exact .inr hHeld
        case hy => (refine Or.inl ⟨by rfl, ?_⟩; intro w hSw; (try go_split_ands); go_simp; (try with_reducible rfl))
        (try simp only [List.getElem_toArray, List.getElem_cons_succ, List.getElem_cons_zero, Act.put, List.setIfInBounds_toArray, List.set_cons_zero, List.set_cons_succ])
        apply AnyG_pure (i := 4) rfl (by kernel_rfl) (by kernel_rfl) (by kernel_rfl) (by kernel_rfl)
        case hQ => exact fun _ _ _ h => h
        case hB => exact trivial
        case hC => exact .inr hHeld
        case hy => (refine Or.inl ⟨by rfl, ?_⟩; intro w hSw; (try go_split_ands); go_simp; (try with_reducible rfl))
        (try simp only [List.getElem_toArray, List.getElem_cons_succ, List.getElem_cons_zero, Act.put, List.setIfInBounds_toArray, List.set_cons_zero, List.set_cons_succ])
        apply AnyG_take (i := 5) rfl (by kernel_rfl) (by kernel_rfl) (by kernel_rfl) (by kernel_rfl)
        case hQ => exact fun _ _ _ h => h
        case hB => exact trivial
        case hC => exact hHeld
        case hy => (refine Or.inl ⟨by rfl, ?_⟩; intro w hSw; (try go_split_ands); go_simp; (try with_reducible rfl))
        (try simp only [List.getElem_toArray, List.getElem_cons_succ, List.getElem_cons_zero, Act.put, List.setIfInBounds_toArray, List.set_cons_zero, List.set_cons_succ])
        apply AnyG_pure (i := 6) rfl (by kernel_rfl) (by kernel_rfl) (by kernel_rfl) (by kernel_rfl)
        case hQ => exact fun _ _ _ h => h
        case hB => exact trivial
        case hC => exact .inr hHeld
        case hy => (refine Or.inl ⟨by rfl, ?_⟩; intro w hSw; (try go_split_ands); go_simp; (try with_reducible rfl))
        (try simp only [List.getElem_toArray, List.getElem_cons_succ, List.getElem_cons_zero, Act.put, List.setIfInBounds_toArray, List.set_cons_zero, List.set_cons_succ])
        apply AnyG_pure (i := 7) rfl (by kernel_rfl) (by kernel_rfl) (by kernel_rfl) (by kernel_rfl)
        case hQ => exact fun _ _ _ h => h
        case hB => exact trivial
        case hC => exact .inr hHeld
        case hy => (refine Or.inl ⟨by rfl, ?_⟩; intro w hSw; (try go_split_ands); go_simp; (try with_reducible rfl))
        (try simp only [List.getElem_toArray, List.getElem_cons_succ, List.getElem_cons_zero, Act.put, List.setIfInBounds_toArray, List.set_cons_zero, List.set_cons_succ])
        apply AnyG_take (i := 8) rfl (by kernel_rfl) (by kernel_rfl) (by kernel_rfl) (by kernel_rfl)
        case hQ => exact fun _ _ _ h => h
        case hB => exact trivial
        case hC => exact hHeld
        case hy => (refine Or.inl ⟨by rfl, ?_⟩; intro w hSw; (try go_split_ands); go_simp; (try with_reducible rfl))
        (try simp only [List.getElem_toArray, List.getElem_cons_succ, List.getElem_cons_zero, Act.put, List.setIfInBounds_toArray, List.set_cons_zero, List.set_cons_succ])
        apply AnyG_pure (i := 9) rfl (by kernel_rfl) (by kernel_rfl) (by kernel_rfl) (by kernel_rfl)
        case hQ => exact fun _ _ _ h => h
        case hB => exact trivial
        case hC => exact .inr hHeld
        case hy => (refine Or.inl ⟨by rfl, ?_⟩; intro w hSw; (try go_split_ands); go_simp; (try with_reducible rfl))
        (try simp only [List.getElem_toArray, List.getElem_cons_succ, List.getElem_cons_zero, Act.put, List.setIfInBounds_toArray, List.set_cons_zero, List.set_cons_succ])
        apply AnyG_pure (i := 10) rfl (by kernel_rfl) (by kernel_rfl) (by kernel_rfl) (by kernel_rfl)
        case hQ => exact fun _ _ _ h => h
        case hB => exact trivial
        case hC => exact .inr hHeld
        case hy => (refine Or.inl ⟨by rfl, ?_⟩; intro w hSw; (try go_split_ands); go_simp; (try with_reducible rfl))
        (try simp only [List.getElem_toArray, List.getElem_cons_succ, List.getElem_cons_zero, Act.put, List.setIfInBounds_toArray, List.set_cons_zero, List.set_cons_succ])
        refine AnyG_one (i := 11) (by kernel_rfl) rfl (fun KK hKK => ?_)
        (try simp only [List.getElem_toArray, List.getElem_cons_succ, List.getElem_cons_zero])
        go_simp
        change KK _ (wr.drew.setCell ⟨g0, i, none⟩ (byt (X ^^^ Y)))
        obtain ⟨W5, hW5⟩ : ∃ x, x = wr.drew.setCell ⟨g0, i, none⟩ (byt (X ^^^ Y)) := ⟨_, rfl⟩
        rw [← hW5] at HF ⊢
        clear hW5
        refine hKK.out _ _ (.inl (by kernel_rfl)) trivial ?_
        clear hKK KK
        (try simp only [List.getElem_toArray, List.getElem_cons_succ, List.getElem_cons_zero, Act.put, List.setIfInBounds_toArray, List.set_cons_zero, List.set_cons_succ])
        refine AnyG_done (by kernel_rfl) ?_ _
        dsimp only [OnlyN]
        gi_wp2
        go_roundw
        case rel => exact ⟨j + 1, by go_num, by omega, HF.out.1, HF.out.2⟩
        case measure => simp [intOf]; omega
      · obtain rfl : j = t := by omega
        have HE1 : Hid (CRow wr g0 cap (xall (sblk K N) m (pre ++ [x]))) := Lib.hid (by
          rw [xall_snoc, ← HLL.out, ← xpt_all _ L x j (by have := HT3.out; omega)]
          exact HCJ.out)
        gi_wp2
        have hob := HOB.out
        have hgl := HQ.out
        have hszz := hob.2.2.2.1
        refine ⟨⟨by omega, fun k o hk ho _ => (hob.2.2.2.2 k (by omega)).trans ho⟩, ⟨by omega, fun g _ hg => hob.2.2.2.2 g hg⟩, HE1.out, HBV.out.trans ⟨hob.1, hob.2.1, hob.2.2.1, by omega, fun k hk => hob.2.2.2.2 k (by omega)⟩, (hob.2.2.2.2 q (by omega)).trans HXV.out, by omega⟩
  case done =>
    rintro D xs W hD ⟨k, rfl, hk1, hk2⟩ ⟨h1, h2, h3, h4⟩ hdef
    have hqc := h3.cell
    have hqf := h3.frozen
    have HV : Hid (Bytes W (fun g => w.heap.size ≤ g ∧ g < q) (.slice A0 m.length cap) (strm K (beval N) m)) := Lib.hid (by
      rw [xall_strm K N m k hN hk1] at h1
      have hg := HG.out
      have := bytes_crow (A0 := A0) h1 (fun h => (hg.1 (by rwa [strm_length] at h)).1) hg.2.2.2.1 (by rw [strm_length]; exact hg.2.2.2.2.1) hg.2.2.2.2.2
      rw [strm_length] at this
      refine this.mono fun g _ e => ?_
      obtain ⟨rfl, e⟩ := e
      have := (hg.1 e).2
      have := HQ.out
      omega)
    have HBF := Lib.hid h2
    clear h1 h2 h3
    go_wp2_with fail
    refine ⟨by simp, .inl ⟨_, _, rfl, run_takeDeferred hdef, ?_⟩⟩
    have HV2 : Hid (Bytes (W.putObj D (.deferred none)) (fun g => w.heap.size ≤ g) (.slice A0 m.length cap) (strm K (beval N) m)) := Lib.hid ((HV.out.keep fun g _ hg => World.putObj_heap_other (by omega)).mono fun g _ hg => hg.1)
    have HB2 : Hid (Below w.heap.size w (W.putObj D (.deferred none))) := Lib.hid ⟨HBF.out.os, HBF.out.tape, HBF.out.output, by rw [World.putObj_size]; exact HBF.out.size, fun k hk => (World.putObj_heap_other (by omega)).trans (HBF.out.block k hk)⟩
    refine ⟨.slice A0 m.length cap, ?_, ⟨_, rfl, HV2.out⟩, HB2.out⟩
    simp [results, Tryd.results56, go_sem]
  case stop => exact fun _ _ _ _ _ h _ => h.elim
end Go.Proofs.YtknhnkmooaopmaaDoor
namespace Go.Proofs.YtknhnkmooaopmaaDoor
open Go Go.RowKit Sh Leaf

/-- Behind a region that seals. -/
def SlP (P : World) (R : Alg × List B8 × Int) (s16 s17 s18 : Value) (wx : World) : Prop := ∃ (G : Nat) (Am : Option Addr) (cm : Nat) (Ab : Option Addr) (cb : Nat) (Az : Option Addr) (cz : Nat), s16 = .pointer (some ⟨G, 0, none⟩) ∧ s17 = .slice Az R.2.1.length cz ∧ s18 = .int .i64 R.2.2 ∧
  ALRow wx G R.1.free R.1.seed R.1.fresh (.slice Am R.1.macs.length cm) (.slice Ab R.1.boxes.length cb) ∧ AlV wx (fun _ => True) (.agg (alc R.1.free R.1.seed R.1.fresh (.slice Am R.1.macs.length cm) (.slice Ab R.1.boxes.length cb))) R.1 ∧ Bytes wx (fun _ => True) (.slice Az R.2.1.length cz) R.2.1 ∧ Below P.heap.size P wx
theorem range_at {w : World} {g o : Nat} {X : BxM} (h : w.rangeAt g o (bcl X)) : w.cell? ⟨g, o + 33, none⟩ = some (.slice X.A X.e.plain.length X.c) := by
  refine h 33 _ ?_
  unfold bcl
  rw [List.getElem?_append_right (by rw [p32_cells]; omega), p32_cells]
  rfl
theorem seal_len {a : Alg} {K m : List B8} {z : Int} (h : ∀ b ∈ a.boxes, b.box.length ≤ 5000) : (aSeal a K z m).2.1.length ≤ 5000 := by
  unfold aSeal
  split
  · simp
  split
  · simp
  split
  · rename_i b hb
    unfold fndb at hb
    rw [Option.map_eq_some_iff] at hb
    obtain ⟨e, he, rfl⟩ := hb
    exact h e (List.mem_of_find?_eq_some he)
  · split
    · simp
    · show (boxb a K z m).length ≤ 5000
      rw [boxb_length]; omega
set_option linter.unusedSimpArgs false in
set_option linter.unusedVariables false in
set_option maxRecDepth 100000 in
set_option maxHeartbeats 8000000 in
theorem bseal_law (A0 : Option Addr) (l0 : List Int) (c0 : Nat) {Q1 : Nat → Prop} (A1 : Option Addr) (x : List B8) (c1 : Nat) (z : Int) (m : Nat) (w : World) (hT : Tables w) (hI0 : Ints w (fun b => b < w.heap.size) A0 c0 l0) (hB1 : Bytes w Q1 (.slice A1 x.length c1) x) (hi2 : i64q z) (hi3 : m < 256) :
    Calls Tryd.prog 4 #[.slice A0 l0.length c0, .slice A1 x.length c1, .int .i64 z, .int .u8 (m : Int)] w fun e w' => e = .returned (.bool true) ∧ Below w.heap.size w w' := by
  have HT := Lib.hid hT
  clear hT
  have H1 : Hid (Below w.heap.size w w) := Lib.hid (Below.refl _ _)
  obtain ⟨n0, hn0⟩ : ∃ n, n = l0.length := ⟨_, rfl⟩
  rw [← hn0]
  have HI0 := Lib.hid hI0
  have HN0 := Lib.hid hn0
  clear hI0 hn0
  have H2 : Hid (Bytes w (Off []) (.slice A1 x.length c1) x) := Lib.hid (hB1.mono fun _ _ _ => by intro y hy; cases hy)
  clear hB1
  have HC := H2.out.cut 200
  have E : min (x.length : Int) 200 = ((x.take 200).length : Int) := by rw [List.length_take]; omega
  have hqX : (x.take 200).length ≤ 200 := by simp; omega
  obtain ⟨A9, c9, e9, h1X, h2X, h3X, -⟩ := id HC
  cases e9
  generalize x.take 200 = X at *
  clear H2
  go_enter Tryd.func4, Tryd.ntmps4
  have H3 : Hid (Bytes w (Off []) (.slice A1 X.length c1) X) := Lib.hid (HC)
  clear HC h3X
  go_upto_region 2 with fail
  clear E h1X h2X
  have hcl := dnew A0 _ c0 l0 w HN0.out ((HI0.out.below H1.out).mono (Below.size H1.out))
  go_wp2_with fail
  refine hcl.mono ?_
  rintro e d0 ⟨rfl, hdk, hbu⟩
  clear hcl
  have hsd0 : w.heap.size < d0.heap.size := hdk.lt
  have H4 : Hid (Bytes w (Off [w.heap.size]) (.slice A1 X.length c1) X) := Lib.hid (Bytes.grow H3.out (by omega))
  clear H3
  have H5 : Hid (Below w.heap.size w d0) := Lib.hid ((Below.trans H1.out (Below.mono hbu (Below.size H1.out))))
  have H6 : Hid (Bytes d0 (Off [w.heap.size]) (.slice A1 X.length c1) X) := Lib.hid ((Bytes.below H4.out hbu (Nat.le_refl _)))
  clear H1 H4
  have H7 : Hid (Deck w.heap.size d0) := Lib.hid (hdk)
  clear hdk hbu HI0 HN0
  have hcl := dalg w.heap.size d0 H7.out
  go_wp2_with fail
  refine hcl.mono ?_
  rintro e u1 ⟨⟨v, a, rfl, hv, h4a, hb4a, hf4a, hgd⟩, ht⟩
  clear hcl
  have HGa := Lib.hid hgd
  obtain ⟨Ama, cma, Aba, cba, rfl, hM, hBx, hA⟩ := hv
  have hsla : a.seed.length = 32 := hA.seed
  have hfra : 0 ≤ a.fresh := hA.lo
  have hsu1 : d0.heap.size ≤ u1.heap.size := Turn.size ht
  have H8 : Hid (Below w.heap.size w u1) := Lib.hid ((base_turn H5.out ht (by omega)))
  have H9 : Hid (Bytes u1 (Off [w.heap.size]) (.slice A1 X.length c1) X) := Lib.hid ((Bytes.turn H6.out ht (by simp)))
  have H10 : Hid (Deck w.heap.size u1) := Lib.hid ((ht).1)
  clear H5 H6 H7
  have H11 : Hid (AlV u1 (Off [w.heap.size]) (.agg (alc a.free a.seed a.fresh (.slice Ama a.macs.length cma) (.slice Aba a.boxes.length cba))) a) := Lib.hid (AlV.mono ⟨Ama, cma, Aba, cba, rfl, hM, hBx, hA⟩ (fun _ _ h => off_one h))
  clear hM hBx hA ht hgd
  have ks0 : ∀ z0 : Array Value, Whole (u1.alloc (.cells z0 32)) u1.heap.size 32 z0 := fun _ => (Whole.here _ _ _)
  go_upto_region 4 with (with_reducible refine wpList_store_alg rfl _ _ rfl (g := u1.heap.size) rfl rfl (ks0 _) rfl (alc_size _ _ _ _ _) (alc_one _ _ _ _ _ _ _ _ _) ?_)
  clear ks0
  rw [zar_lit]
  obtain ⟨q2, hq⟩ : ∃ q, q = ((u1.alloc (.cells zar 32)).setRow u1.heap.size (alc a.free a.seed a.fresh (.slice Ama a.macs.length cma) (.slice Aba a.boxes.length cba))) := ⟨_, rfl⟩
  rw [← hq]
  have hsq2 : u1.heap.size + 1 ≤ q2.heap.size := by rw [hq]; simp
  have H12 : Hid (Below w.heap.size w q2) := Lib.hid (by rw [hq]; exact (below_setRow (Below.trans H8.out (Below.mono (Below.alloc (Below.refl _ _) (Nat.le_refl _) _) (Below.size H8.out))) (by omega) _))
  have H13 : Hid (Bytes q2 (Off [u1.heap.size, w.heap.size]) (.slice A1 X.length c1) X) := Lib.hid (by rw [hq]; exact (Bytes.store (Bytes.below (Bytes.grow H9.out (by omega)) (Below.alloc (Below.refl _ _) (Nat.le_refl _) _) (Nat.le_refl _)) (by simp) _))
  have H14 : Hid (Deck w.heap.size q2) := Lib.hid (by rw [hq]; exact (Deck.store (Deck.below H10.out (Below.alloc (Below.refl _ _) (Nat.le_refl _) _) (Deck.lt H10.out)) (by omega) _))
  have H15 : Hid (AlV q2 (Off [u1.heap.size, w.heap.size]) (.agg (alc a.free a.seed a.fresh (.slice Ama a.macs.length cma) (.slice Aba a.boxes.length cba))) a) := Lib.hid (by rw [hq]; exact (AlV.store (AlV.below (AlV.grow H11.out (by omega)) (Below.alloc (Below.refl _ _) (Nat.le_refl _) _) (Nat.le_refl _)) (by simp) _))
  clear H8 H9 H10 H11
  have H16 : Hid (ALRow q2 u1.heap.size a.free a.seed a.fresh (.slice Ama a.macs.length cma) (.slice Aba a.boxes.length cba)) := Lib.hid (by rw [hq]; exact (Whole.setRow (Whole.here _ _ _) _))
  clear hq
  have hcl := dknown w.heap.size q2 H14.out H15.out (fun b h => h _ (by simp))
  go_wp2_with (with_reducible refine wpList_load_alg rfl _ rfl rfl H16.out (alc_size _ _ _ _ _) ?_)
  refine hcl.mono ?_
  rintro e u3 ⟨⟨K, hlK, rfl⟩, ht⟩
  clear hcl
  have hsu3 : q2.heap.size ≤ u3.heap.size := Turn.size ht
  have H17 : Hid (Below w.heap.size w u3) := Lib.hid ((base_turn H12.out ht (by omega)))
  have H18 : Hid (Bytes u3 (Off [u1.heap.size, w.heap.size]) (.slice A1 X.length c1) X) := Lib.hid ((Bytes.turn H13.out ht (by simp)))
  have H19 : Hid (Deck w.heap.size u3) := Lib.hid ((ht).1)
  have H20 : Hid (AlV u3 (Off [u1.heap.size, w.heap.size]) (.agg (alc a.free a.seed a.fresh (.slice Ama a.macs.length cma) (.slice Aba a.boxes.length cba))) a) := Lib.hid ((AlV.turn H15.out ht (by simp) (Turn.size ht)))
  have H21 : Hid (ALRow u3 u1.heap.size a.free a.seed a.fresh (.slice Ama a.macs.length cma) (.slice Aba a.boxes.length cba)) := Lib.hid (((ht).2.2.oth _ _ _ (by omega) H16.out))
  clear H12 H13 H14 H15 H16
  clear ht
  have ks0 : ∀ z0 : Array Value, Whole (u3.alloc (.cells z0 28)) u3.heap.size 28 z0 := fun _ => (Whole.here _ _ _)
  go_upto_region 5 with (with_reducible refine wpList_store_tag rfl _ _ rfl (g := u3.heap.size) rfl rfl (ks0 _) rfl (tag_size hlK) (tag_one _) ?_)
  clear ks0
  rw [ztr_lit]
  obtain ⟨q4, hq⟩ : ∃ q, q = ((u3.alloc (.cells ztr 28)).setRow u3.heap.size (K.map byt).toArray) := ⟨_, rfl⟩
  rw [← hq]
  have hsq4 : u3.heap.size + 1 ≤ q4.heap.size := by rw [hq]; simp
  have H22 : Hid (Below w.heap.size w q4) := Lib.hid (by rw [hq]; exact (below_setRow (Below.trans H17.out (Below.mono (Below.alloc (Below.refl _ _) (Nat.le_refl _) _) (Below.size H17.out))) (by omega) _))
  have H23 : Hid (Bytes q4 (Off [u3.heap.size, u1.heap.size, w.heap.size]) (.slice A1 X.length c1) X) := Lib.hid (by rw [hq]; exact (Bytes.store (Bytes.below (Bytes.grow H18.out (by omega)) (Below.alloc (Below.refl _ _) (Nat.le_refl _) _) (Nat.le_refl _)) (by simp) _))
  have H24 : Hid (Deck w.heap.size q4) := Lib.hid (by rw [hq]; exact (Deck.store (Deck.below H19.out (Below.alloc (Below.refl _ _) (Nat.le_refl _) _) (Deck.lt H19.out)) (by omega) _))
  have H25 : Hid (AlV q4 (Off [u3.heap.size, u1.heap.size, w.heap.size]) (.agg (alc a.free a.seed a.fresh (.slice Ama a.macs.length cma) (.slice Aba a.boxes.length cba))) a) := Lib.hid (by rw [hq]; exact (AlV.store (AlV.below (AlV.grow H20.out (by omega)) (Below.alloc (Below.refl _ _) (Nat.le_refl _) _) (Nat.le_refl _)) (by simp) _))
  have H26 : Hid (ALRow q4 u1.heap.size a.free a.seed a.fresh (.slice Ama a.macs.length cma) (.slice Aba a.boxes.length cba)) := Lib.hid (by rw [hq]; exact (Whole.setRow_far (Whole.below H21.out (Below.alloc (Below.refl _ _) (Nat.le_refl _) _) (Whole.lt H21.out)) (by omega) _))
  clear H17 H18 H19 H20 H21
  have H27 : Hid (TGRow q4 u3.heap.size K) := Lib.hid (by rw [hq]; exact (Whole.setRow (Whole.here _ _ _) _))
  clear hq
  clear H24
  obtain ⟨m3, hm3⟩ : ∃ q : Nat, q = 255 + m % 3 := ⟨_, rfl⟩
  have hm4 : m3 ≤ 257 := by omega
  have hmk := make_bytes (255 + (m : Int) % 3) m3 (by omega) (by omega)
  clear hm3
  obtain ⟨W0, hW0⟩ : ∃ q, q = q4.alloc (.cells (brow m3 fun _ => 0#8) 5) := ⟨_, rfl⟩
  have hz0 : Bytes W0 (fun b => b = q4.heap.size) (.slice (some ⟨q4.heap.size, 0, none⟩) m3 m3) (List.replicate m3 (0 : B8)) := by rw [hW0]; exact made_bytes _ m3 (by omega)
  have hb0 : Below q4.heap.size q4 W0 := by rw [hW0]; exact (Below.refl _ _).alloc (Nat.le_refl _) _
  have hsz : q4.heap.size + 1 = W0.heap.size := by rw [hW0]; simp
  obtain ⟨W1, hW1⟩ : ∃ q, q = W0.alloc (.cells #[.slice A1 X.length c1, .slice (some ⟨q4.heap.size, 0, none⟩) m3 m3, .slice none 0 0] 23) := ⟨_, rfl⟩
  have hb1 : Below W0.heap.size W0 W1 := by rw [hW1]; exact (Below.refl _ _).alloc (Nat.le_refl _) _
  have hX0 := (H23.out.below hb0 (Nat.le_refl _)).elem
  have he0 : Each W0 W0.heap.size [.slice A1 X.length c1, .slice (some ⟨q4.heap.size, 0, none⟩) m3 m3, .slice none 0 0] [X, List.replicate m3 0, []] := (((Each.nil W0 W0.heap.size).snoc hX0).snoc hz0.elem).snoc (Elem.nil _ _)
  have he1 : Each W1 W0.heap.size [.slice A1 X.length c1, .slice (some ⟨q4.heap.size, 0, none⟩) m3 m3, .slice none 0 0] [X, List.replicate m3 0, []] := he0.keep hb1 (by rw [hW1]; exact Kb.alloc _ _)
  have ho1 : W1.ownsRow W0.heap.size 23 1 (.slice (some ⟨W0.heap.size, 0, none⟩) 3 3) 3 [.slice A1 X.length c1, .slice (some ⟨q4.heap.size, 0, none⟩) m3 m3, .slice none 0 0] := ⟨by simp, .inr ⟨W0.heap.size, 3, #[.slice A1 X.length c1, .slice (some ⟨q4.heap.size, 0, none⟩) m3 m3, .slice none 0 0], rfl, Nat.le_refl _, by rw [hW1]; exact heap_alloc_new W0 _, Nat.le_refl _, by unfold maxLen; omega, by simp, by simp⟩⟩
  obtain ⟨us, hus⟩ : ∃ us : List Value, us = [.slice A1 X.length c1, .slice (some ⟨q4.heap.size, 0, none⟩) m3 m3, .slice none 0 0] := ⟨_, rfl⟩
  have hul : us.length = 3 := by rw [hus]; rfl
  obtain ⟨L0, hL0⟩ : ∃ L : List (List B8), L = [X, List.replicate m3 0, []] := ⟨_, rfl⟩
  rw [← hus, ← hL0] at he1
  rw [← hus] at ho1
  have HL0 : Hid ((∀ x ∈ L0, x.length ≤ 5000) ∧ L0.length = 3) := Lib.hid (by
    rw [hL0]
    refine ⟨fun x hx => ?_, rfl⟩
    simp at hx
    rcases hx with rfl | rfl | rfl
    · omega
    · simp; omega
    · simp)
  have HOW : Hid (W1.ownsRow W0.heap.size 23 1 (.slice (some ⟨W0.heap.size, 0, none⟩) us.length us.length) us.length us ∧ Each W1 W0.heap.size us L0 ∧ us.length = 3) := Lib.hid ⟨by rw [hul]; exact ho1, he1, hul⟩
  have HBP := Lib.hid hb0
  have HB1 := Lib.hid hb1
  have hsW0 : q4.heap.size ≤ W0.heap.size := hb0.size
  have HW0 := Lib.hid hW0
  have HW1 := Lib.hid hW1
  have HSZ := Lib.hid hsz
  have HUL := Lib.hid hul
  clear hz0 hb0 hb1 hX0 he0 he1 ho1 hus hL0 hW0 hW1 hsz hul
  go_upto_region 6 with fail
  rw [← HW0.out, ← HW1.out]
  rw [HSZ.out, ← HUL.out]
  clear hmk HW1 HW0 HSZ HUL
  have H28 : Hid (Below w.heap.size w W0) := Lib.hid ((Below.trans H22.out (Below.mono HBP.out (Below.size H22.out))))
  have H29 : Hid (Bytes W0 (Off [u3.heap.size, u1.heap.size, w.heap.size]) (.slice A1 X.length c1) X) := Lib.hid ((Bytes.below H23.out HBP.out (Nat.le_refl _)))
  have H30 : Hid (AlV W0 (Off [u3.heap.size, u1.heap.size, w.heap.size]) (.agg (alc a.free a.seed a.fresh (.slice Ama a.macs.length cma) (.slice Aba a.boxes.length cba))) a) := Lib.hid ((AlV.below H25.out HBP.out (Nat.le_refl _)))
  have H31 : Hid (ALRow W0 u1.heap.size a.free a.seed a.fresh (.slice Ama a.macs.length cma) (.slice Aba a.boxes.length cba)) := Lib.hid ((Whole.below H26.out HBP.out (Whole.lt H26.out)))
  have H32 : Hid (TGRow W0 u3.heap.size K) := Lib.hid ((Whole.below H27.out HBP.out (Whole.lt H27.out)))
  clear H22 H23 H25 H26 H27
  clear H29
  have HBB := Lib.hid (AlV.parts (AlV.mono (Q' := fun b => b < W0.heap.size) H30.out fun b hb _ => hb)).2
  have hla : a.boxes.length ≤ 4 := hb4a
  go_wp2_with fail
  go_loopw [12, 13] (fun vl v wr => ∃ (j : Nat) (us : List Value), v = .int .i64 j ∧ j ≤ a.boxes.length ∧ Below W0.heap.size W0 wr ∧ wr.ownsRow W0.heap.size 23 1 vl us.length us ∧ Each wr W0.heap.size us (L0 ++ (a.boxes.take j).map (·.plain))) (fun _ v _ => a.boxes.length - (intOf v).toNat)
  case atStart => exact ⟨0, us, rfl, by omega, HB1.out, HOW.out.1, by rw [List.take_zero, List.map_nil, List.append_nil]; exact HOW.out.2.1⟩
  case round =>
    clear HOW
    obtain ⟨j, us, rfl, hj, hbw, hown, heach⟩ := hrel
    have hswr : W0.heap.size ≤ wr.heap.size := hbw.size
    have husl : us.length ≤ 8 := by rw [heach.1, List.length_append, List.length_map, List.length_take, HL0.out.2]; omega
    have HBW := Lib.hid hbw
    have HOW := Lib.hid (And.intro hown heach)
    have H33 : Hid (Below w.heap.size w wr) := Lib.hid ((Below.trans H28.out (Below.mono hbw (Below.size H28.out))))
    have H34 : Hid (AlV wr (Off [u3.heap.size, u1.heap.size, w.heap.size]) (.agg (alc a.free a.seed a.fresh (.slice Ama a.macs.length cma) (.slice Aba a.boxes.length cba))) a) := Lib.hid ((AlV.below H30.out hbw (Nat.le_refl _)))
    have H35 : Hid (ALRow wr u1.heap.size a.free a.seed a.fresh (.slice Ama a.macs.length cma) (.slice Aba a.boxes.length cba)) := Lib.hid ((Whole.below H31.out hbw (Whole.lt H31.out)))
    have H36 : Hid (TGRow wr u3.heap.size K) := Lib.hid ((Whole.below H32.out hbw (Whole.lt H32.out)))
    clear H28 H30 H31 H32
    clear hbw
    have c35 := (ALRow.cells H35.out).2.2.2
    by_cases hlt : j < a.boxes.length
    case pos =>
      obtain ⟨e, he⟩ : ∃ e, a.boxes[j]? = some e := ⟨_, List.getElem?_eq_getElem hlt⟩
      obtain ⟨g0, o, D, dc, D1, dc1, hAm, hq, hg, hrow, -, hby, -, hk32, -, hm5, -⟩ := Bxs.get (HBB.out.below HBW.out (Nat.le_refl _)) j e he
      have hsl : wr.cell? ⟨g0, o + j * 35 + 33, none⟩ = some (.slice D e.plain.length dc) := range_at hrow
      rw [hAm] at c35
      clear hAm hrow
      have j0 : (0 : Int) ≤ (j : Int) := by omega
      have jn : (j : Int) < (a.boxes.length : Int) := by omega
      obtain ⟨wa, hwa⟩ : ∃ x, x = wr.alloc (.cells #[.slice D e.plain.length dc] 23) := ⟨_, rfl⟩
      have hba : Below wr.heap.size wr wa := by rw [hwa]; exact (Below.refl _ _).alloc (Nat.le_refl _) _
      have hoa := own_below hown hba (Nat.le_refl _)
      have hga : wa.cell? ⟨wr.heap.size, 0, none⟩ = some (.slice D e.plain.length dc) := by rw [hwa]; exact cell_of_row _ _ _ _ _ _ (heap_alloc_new wr _)
      have hsa : W0.heap.size ≤ wa.heap.size := Nat.le_trans hswr hba.size
      have hea := heach.keep (hba.mono hswr) (Kb.below hba)
      have hla2 := (Elem.of_low hby).keep (hba.mono hswr) (Kb.below hba)
      have HX := Lib.hid (And.intro hea hla2)
      have HE := Lib.hid he
      have HBA := Lib.hid (Below.trans HBW.out (Below.mono hba hswr))
      clear hown heach hby hea hla2 he hba hq hm5
      rw [hwa] at hoa hga
      rw [hwa] at hsa
      go_wp2_with (at_builtin; go_must (refine wpList_append_elem (by rfl) _ _ rfl W0.heap.size _ us rfl hoa _ rfl wr.heap.size 1 rfl hga (by omega) hsa ?_; intro v2 w2 hown2 hbe2 hkb2 hgr2))
      go_roundw
      case rel =>
        rw [← hwa] at hbe2 hkb2
        refine ⟨j + 1, _, by go_num, by omega, HBA.out.trans hbe2, hown2, ?_⟩
        rw [List.take_add_one, HE.out, Option.toList_some, List.map_append, List.map_cons, List.map_nil, ← List.append_assoc]
        exact (HX.out.1.keep hbe2 hkb2).snoc (HX.out.2.keep hbe2 hkb2)
      case measure => simp [intOf]; omega
    case neg =>
      rename World => wv
      obtain rfl : j = a.boxes.length := by omega
      have hLs := Lists.of_own hown heach
      have hLL : ∀ x ∈ L0 ++ (a.boxes.take a.boxes.length).map (·.plain), x.length ≤ 5000 := by
        intro x hx
        rcases List.mem_append.1 hx with hx | hx
        · exact HL0.out.1 x hx
        · obtain ⟨e, he, rfl⟩ := List.mem_map.1 hx
          have := HGa.out.lb e (List.mem_of_mem_take he)
          omega
      obtain ⟨LL, hLLe⟩ : ∃ L, L = L0 ++ (a.boxes.take a.boxes.length).map (·.plain) := ⟨_, rfl⟩
      rw [← hLLe] at hLs hLL
      have HLS := Lib.hid hLs
      have HLL := Lib.hid hLL
      have hLsl : LL.length ≤ 1000000000 := by rw [hLLe, List.length_append, List.length_map, List.length_take, HL0.out.2]; omega
      obtain ⟨Al, cl, us2, hvl, hLr⟩ := hLs
      subst hvl
      clear hLr hLL hLLe hown heach
      clear HOW
      go_wp2_with fail
      clear c35
      go_loopw [14] (fun v wr => ∃ i : Nat, v = .int .i64 i ∧ i ≤ LL.length ∧ Below wv.heap.size wv wr) (fun v _ => LL.length - (intOf v).toNat)
      case atStart => exact ⟨0, rfl, by omega, Below.refl _ _⟩
      case round =>
        obtain ⟨i, rfl, hi, hbw⟩ := hrel
        have hsw2 : wv.heap.size ≤ wr.heap.size := hbw.size
        have H37 : Hid (Below wv.heap.size wv wv) := Lib.hid (Below.refl _ _)
        have H38 : Hid (Below w.heap.size w wr) := Lib.hid ((Below.trans H33.out (Below.mono hbw (Below.size H33.out))))
        have H39 : Hid (AlV wr (Off [u3.heap.size, u1.heap.size, w.heap.size]) (.agg (alc a.free a.seed a.fresh (.slice Ama a.macs.length cma) (.slice Aba a.boxes.length cba))) a) := Lib.hid ((AlV.below H34.out hbw (Nat.le_refl _)))
        have H40 : Hid (ALRow wr u1.heap.size a.free a.seed a.fresh (.slice Ama a.macs.length cma) (.slice Aba a.boxes.length cba)) := Lib.hid ((Whole.below H35.out hbw (Whole.lt H35.out)))
        have H41 : Hid (TGRow wr u3.heap.size K) := Lib.hid ((Whole.below H36.out hbw (Whole.lt H36.out)))
        have H42 : Hid (Below wv.heap.size wv wr) := Lib.hid ((Below.trans H37.out (Below.mono hbw (Below.size H37.out))))
        clear H33 H34 H35 H36 H37
        have hLs := HLS.out.below hbw (Nat.le_refl _)
        clear hbw
        by_cases hlt2 : i < LL.length
        case neg =>
          obtain rfl : i = LL.length := by omega
          have hcl := bawk wr (Tables.below HT.out (Nat.le_refl _) H38.out)
          go_wp2_with fail
          refine hcl.mono ?_
          rintro e w9 ⟨rfl, hb9⟩
          clear hcl
          have HG := Lib.hid (Below.trans H38.out (Below.mono hb9 (Below.size H38.out)))
          go_wp2
          go_ret
          exact ⟨rfl, HG.out⟩
        case pos =>
          obtain ⟨-, -, -, hget⟩ := Lists.get hLs
          obtain ⟨g1, o1, A3, c3, hAl, hcl3, hb3, hg1⟩ := hget i hlt2
          clear hget hLs
          have hM5 : (LL[i]).length ≤ 5000 := HLL.out _ (List.getElem_mem hlt2)
          obtain ⟨M, hM⟩ : ∃ M, M = LL[i] := ⟨_, rfl⟩
          rw [← hM] at hM5 hb3 hcl3
          have HALL := Lib.hid hAl
          subst hAl
          have i0 : (0 : Int) ≤ (i : Int) := by omega
          have inn : (i : Int) < (LL.length : Int) := by omega
          have HB3 := Lib.hid hb3
          clear hM hb3
          have HZ := Lib.hid (show -9223372036854775808 ≤ z ∧ z ≤ 9223372036854775807 from hi2)
          have hcl := within_ z 5 (by omega) (by omega) HZ.out wr
          go_wp2_with fail
          refine hcl.mono ?_
          rintro e W9 ⟨⟨q, hq, rfl⟩, hw⟩
          replace hw := hw.symm
          subst hw
          clear hcl
          go_upto_if 66 with fail
          go_cut [15] (fun s15 wx => ∃ y : Int, s15 = .int .i64 y ∧ i64q y ∧ wx = wr)
          case first =>
            by_cases hi0 : i = 0
            · have hi1 : (i : Int) = 0 := by omega
              clear hlt2 inn i0 hi
              go_wp2_with fail
              go_meet
              exact ⟨_, rfl, ⟨HZ.out.1, HZ.out.2⟩, rfl⟩
            · have hi1 : ¬ (i : Int) = 0 := by omega
              clear hlt2 inn i0 hi
              go_wp2_with fail
              go_meet
              exact ⟨_, rfl, ⟨by omega, by omega⟩, rfl⟩
          case rest =>
            obtain ⟨y, rfl, hyq, hwc⟩ := hcut
            replace hwc := hwc.symm
            subst hwc
            have HYQ := Lib.hid hyq
            clear hyq
            go_upto_region 16 with fail
            have hav0 := AlV.mono (Q' := fun q => q < wr.heap.size) H39.out fun q hq _ => hq
            obtain ⟨R, hR⟩ : ∃ R, R = aSeal a K y M := ⟨_, rfl⟩
            have hcl : ∀ W, Below wr.heap.size wr W → Calls Tryd.prog 16 #[.agg (alc a.free a.seed a.fresh (.slice Ama a.macs.length cma) (.slice Aba a.boxes.length cba)), .agg (K.map byt).toArray, .int .i64 y, .slice A3 M.length c3] W fun e w' => SeR w' (fun q => q < wr.heap.size ∨ W.heap.size ≤ q) (fun q => W.heap.size ≤ q) e R ∧ Below W.heap.size W w' := fun W hb => by
              rw [hR]
              have := pseal (z := y) (AlV.below hav0 hb (Nat.le_refl _)) (by omega) hlK HYQ.out (HB3.out.below hb (Nat.le_refl _)) (by omega) (Tables.below (Tables.below HT.out (Nat.le_refl _) H38.out) (Nat.le_refl _) hb) (fun h0 h1 h2 => by
                by_cases hf : a.free = true
                · exact newb_free hf hlK (by omega)
                · exact newb_comp combok (by simpa using hf) hlK (by omega) h1 h2)
              refine this.mono ?_
              rintro e w2 ⟨⟨x, v, h1, h2, h3⟩, h4⟩
              exact ⟨⟨x, v, h1, h2, h3⟩, h4⟩
            have HCL := Lib.hid hcl
            clear hcl hav0
            obtain ⟨b, Z, eZ⟩ := R
            have HEb := Lib.hid hR
            clear hR
            (try simp only [Act.put])
            go_cut [16, 17, 18] (fun s16 s17 s18 wx => SlP wr (b, Z, eZ) s16 s17 s18 wx)
            case first =>
              have hcl := HCL.out
              clear HYQ
              have hcc : ∀ W, Below wr.heap.size wr W → (fun W : World => W.rangeAt u1.heap.size 0 (alcl a.free a.seed a.fresh (.slice Ama a.macs.length cma) (.slice Aba a.boxes.length cba)) ∧ W.rangeAt u3.heap.size 0 (K.map byt) ∧ W.cell? ⟨g1, o1 + i, none⟩ = some (.slice A3 M.length c3)) W := fun W hb => ⟨Whole.range (Whole.below H40.out hb (Whole.lt H40.out)), TGRow.range (Whole.below H41.out hb (Whole.lt H41.out)), (hb.cell (p := ⟨g1, o1 + i, none⟩) hg1).trans hcl3⟩
              have HCC := Lib.hid hcc
              clear hcc
              have hb0 : Below wr.heap.size wr wr.drew := Below.drew (Below.refl _ _)
              refine wp_region_held_drew (S := fun W : World => W.rangeAt u1.heap.size 0 (alcl a.free a.seed a.fresh (.slice Ama a.macs.length cma) (.slice Aba a.boxes.length cba)) ∧ W.rangeAt u3.heap.size 0 (K.map byt) ∧ W.cell? ⟨g1, o1 + i, none⟩ = some (.slice A3 M.length c3)) (by kernel_rfl) (HCC.out _ hb0) (fun hHeld => ?_)
              apply wpAnyH_take (i := 0) rfl (by kernel_rfl) (by kernel_rfl) (by kernel_rfl)
              case hQ => exact fun _ _ _ h => h
              case hS => exact hHeld
              case hy => exact yieldsIf_load_mid (by rfl) 32 _ rfl u1.heap.size (0) rfl ((alcl a.free a.seed a.fresh (.slice Ama a.macs.length cma) (.slice Aba a.boxes.length cba))) _ (fun w hS => hS.1) Tryd.underlying32 rfl (by rw [algSize, alcl_length])
              (try simp only [List.getElem_toArray, List.getElem_cons_zero, Act.put, List.setIfInBounds_toArray, List.set_cons_zero, List.set_cons_succ])
              apply wpAnyH_take (i := 1) rfl (by kernel_rfl) (by kernel_rfl) (by kernel_rfl)
              case hQ => exact fun _ _ _ h => h
              case hS => exact hHeld
              case hy => exact yieldsIf_load_mid (by rfl) 28 _ rfl u3.heap.size (0) rfl ((K.map byt)) _ (fun w hS => hS.2.1) Tryd.underlying28 rfl (by rw [tagSize, List.length_map, hlK])
              (try simp only [List.getElem_toArray, List.getElem_cons_succ, List.getElem_cons_zero, Act.put, List.setIfInBounds_toArray, List.set_cons_zero, List.set_cons_succ])
              apply wpAnyH_take (i := 2) rfl (by kernel_rfl) (by kernel_rfl) (by kernel_rfl)
              case hQ => exact fun _ _ _ h => h
              case hS => exact hHeld
              case hy => (refine Or.inl ⟨by rfl, ?_⟩; intro w hSw; (try go_split_ands); go_simp; (try with_reducible rfl))
              (try simp only [List.getElem_toArray, List.getElem_cons_succ, List.getElem_cons_zero, Act.put, List.setIfInBounds_toArray, List.set_cons_zero, List.set_cons_succ])
              apply wpAnyH_take (i := 3) rfl (by kernel_rfl) (by kernel_rfl) (by kernel_rfl)
              case hQ => exact fun _ _ _ h => h
              case hS => exact hHeld
              case hy => (refine Or.inl ⟨by rfl, ?_⟩; intro w hSw; (try go_split_ands); go_simp; (try with_reducible rfl))
              (try simp only [List.getElem_toArray, List.getElem_cons_succ, List.getElem_cons_zero, Act.put, List.setIfInBounds_toArray, List.set_cons_zero, List.set_cons_succ])
              apply wpAnyH_take (i := 4) rfl (by kernel_rfl) (by kernel_rfl) (by kernel_rfl)
              case hQ => exact fun _ _ _ h => h
              case hS => exact hHeld
              case hy => (refine Or.inl ⟨by rfl, ?_⟩; intro w hSw; (try go_split_ands); go_simp; (try with_reducible rfl))
              (try simp only [List.getElem_toArray, List.getElem_cons_succ, List.getElem_cons_zero, Act.put, List.setIfInBounds_toArray, List.set_cons_zero, List.set_cons_succ])
              apply wpAnyH_take (i := 5) rfl (by kernel_rfl) (by kernel_rfl) (by kernel_rfl)
              case hQ => exact fun _ _ _ h => h
              case hS => exact hHeld
              case hy => (refine Or.inl ⟨by rfl, ?_⟩; intro w hSw; (try go_split_ands); go_simp; (try with_reducible rfl))
              (try simp only [List.getElem_toArray, List.getElem_cons_succ, List.getElem_cons_zero, Act.put, List.setIfInBounds_toArray, List.set_cons_zero, List.set_cons_succ])
              apply wpAnyH_take (i := 6) rfl (by kernel_rfl) (by kernel_rfl) (by kernel_rfl)
              case hQ => exact fun _ _ _ h => h
              case hS => exact hHeld
              case hy => (refine Or.inl ⟨by rfl, ?_⟩; intro w hSw; (try go_split_ands); go_simp; (try with_reducible rfl))
              (try simp only [List.getElem_toArray, List.getElem_cons_succ, List.getElem_cons_zero, Act.put, List.setIfInBounds_toArray, List.set_cons_zero, List.set_cons_succ])
              refine wpAnyH_ready (rs := [7, 12]) (by kernel_rfl) (by simp) ?_
              refine AllReadyH.cons rfl (fun KK hKK => ?_) (AllReadyH.cons rfl (fun KK hKK => ?_) AllReadyH.nil)
              · (try simp only [List.getElem_toArray, List.getElem_cons_succ, List.getElem_cons_zero])
                go_simp
                go_at_call 16
                refine (hcl _ hb0).mono ?_
                rintro e V1 ⟨⟨x, v, rfl, hx, hy⟩, hv1⟩
                have hb1 := Below.trans hb0 (Below.mono hv1 (Below.size hb0))
                obtain ⟨AZ, cZ, rfl, -⟩ := id hy
                obtain ⟨Amb, cmb, Abb, cbb, rfl, hM, hBx, hA⟩ := hx
                have hav1 : AlV V1 (Off []) (.agg (alc b.free b.seed b.fresh (.slice Amb b.macs.length cmb) (.slice Abb b.boxes.length cbb))) b := AlV.mono (Q := fun q => q < wr.heap.size ∨ wr.drew.heap.size ≤ q) ⟨Amb, cmb, Abb, cbb, rfl, hM, hBx, hA⟩ fun q _ hq y hy => by cases hy
                have hbz1 : Bytes V1 (Off []) (.slice AZ Z.length cZ) Z := Bytes.mono hy fun q _ hq y hy => by cases hy
                clear hM hBx hA hy
                refine hKK.out _ _ (HCC.out _ hb1) (fun hHeld => ?_)
                clear hKK KK
                (try simp only [List.getElem_toArray, List.getElem_cons_succ, List.getElem_cons_zero, Act.put, List.setIfInBounds_toArray, List.set_cons_zero, List.set_cons_succ])
                apply wpAnyH_take (i := 8) rfl (by kernel_rfl) (by kernel_rfl) (by kernel_rfl)
                case hQ => exact fun _ _ _ h => h
                case hS => exact hHeld
                case hy => (refine Or.inl ⟨by rfl, ?_⟩; intro w hSw; (try go_split_ands); go_simp; (try with_reducible rfl))
                (try simp only [List.getElem_toArray, List.getElem_cons_succ, List.getElem_cons_zero, Act.put, List.setIfInBounds_toArray, List.set_cons_zero, List.set_cons_succ])
                apply wpAnyH_take (i := 9) rfl (by kernel_rfl) (by kernel_rfl) (by kernel_rfl)
                case hQ => exact fun _ _ _ h => h
                case hS => exact hHeld
                case hy => (refine Or.inl ⟨by rfl, ?_⟩; intro w hSw; (try go_split_ands); go_simp; (try with_reducible rfl))
                (try simp only [List.getElem_toArray, List.getElem_cons_succ, List.getElem_cons_zero, Act.put, List.setIfInBounds_toArray, List.set_cons_zero, List.set_cons_succ])
                apply wpAnyH_take (i := 10) rfl (by kernel_rfl) (by kernel_rfl) (by kernel_rfl)
                case hQ => exact fun _ _ _ h => h
                case hS => exact hHeld
                case hy => (refine Or.inl ⟨by rfl, ?_⟩; intro w hSw; (try go_split_ands); go_simp; (try with_reducible rfl))
                (try simp only [List.getElem_toArray, List.getElem_cons_succ, List.getElem_cons_zero, Act.put, List.setIfInBounds_toArray, List.set_cons_zero, List.set_cons_succ])
                apply wpAnyH_take (i := 11) rfl (by kernel_rfl) (by kernel_rfl) (by kernel_rfl)
                case hQ => exact fun _ _ _ h => h
                case hS => exact hHeld
                case hy => (refine Or.inl ⟨by rfl, ?_⟩; intro w hSw; (try go_split_ands); go_simp; (try with_reducible rfl))
                (try simp only [List.getElem_toArray, List.getElem_cons_succ, List.getElem_cons_zero, Act.put, List.setIfInBounds_toArray, List.set_cons_zero, List.set_cons_succ])
                refine wpAnyH_ready (rs := [12]) (by kernel_rfl) (by simp) ?_
                refine AllReadyH.cons rfl (fun KK hKK => ?_) AllReadyH.nil
                (try simp only [List.getElem_toArray, List.getElem_cons_succ, List.getElem_cons_zero])
                go_simp
                rw [zar_lit]
                obtain ⟨V2, hV2⟩ : ∃ x, x = (V1).alloc (.cells zar 32) := ⟨_, rfl⟩
                have hv2 : Below V1.heap.size V1 V2 := by rw [hV2]; exact (Below.refl _ _).alloc (Nat.le_refl _) _
                have hb2 : Below wr.heap.size wr V2 := Below.trans hb1 (Below.mono hv2 (Below.size hb1))
                have nb2 : Whole V2 V1.heap.size 32 zar := by rw [hV2]; exact Whole.here _ _ _
                have pb2 : wr.heap.size ≤ V1.heap.size := Below.size hb1
                rw [← hV2]
                clear hV2
                have hav2 : AlV V2 (Off [V1.heap.size]) (.agg (alc b.free b.seed b.fresh (.slice Amb b.macs.length cmb) (.slice Abb b.boxes.length cbb))) b := AlV.below (AlV.grow hav1 (Nat.le_refl _)) hv2 (Nat.le_refl _)
                have hbz2 : Bytes V2 (Off [V1.heap.size]) (.slice AZ Z.length cZ) Z := Bytes.below (Bytes.grow hbz1 (Nat.le_refl _)) hv2 (Nat.le_refl _)
                refine hKK.out _ _ (HCC.out _ hb2) (fun hHeld => ?_)
                clear hKK KK
                (try simp only [List.getElem_toArray, List.getElem_cons_succ, List.getElem_cons_zero, Act.put, List.setIfInBounds_toArray, List.set_cons_zero, List.set_cons_succ])
                refine wpAnyH_ready (rs := [13]) (by kernel_rfl) (by simp) ?_
                refine AllReadyH.cons rfl (fun KK hKK => ?_) AllReadyH.nil
                obtain ⟨V3, hV3⟩ : ∃ x, x = (V2).setRow (V1.heap.size) (alc b.free b.seed b.fresh (.slice Amb b.macs.length cmb) (.slice Abb b.boxes.length cbb)) := ⟨_, rfl⟩
                have nb3 : Whole V3 (V1.heap.size) 32 (alc b.free b.seed b.fresh (.slice Amb b.macs.length cmb) (.slice Abb b.boxes.length cbb)) := by rw [hV3]; exact Whole.setRow nb2 _
                have hb3 : Below wr.heap.size wr V3 := by rw [hV3]; exact below_setRow hb2 pb2 _
                have hav3 : AlV V3 (Off [V1.heap.size]) (.agg (alc b.free b.seed b.fresh (.slice Amb b.macs.length cmb) (.slice Abb b.boxes.length cbb))) b := by rw [hV3]; exact AlV.store hav2 (by simp) _
                have hbz3 : Bytes V3 (Off [V1.heap.size]) (.slice AZ Z.length cZ) Z := by rw [hV3]; exact Bytes.store hbz2 (by simp) _
                rw [if_pos (by kernel_rfl)]
                refine wp_store_row 32 _ _ rfl (V1.heap.size) _ rfl rfl 32 _ nb2 (by rw [algSize, alc_size]) (by rw [zar_size, alc_size]) (alc_one _ _ _ _ _ _ _ _ _) ?_
                rw [← hV3]
                clear hV3
                refine hKK.out _ _ (HCC.out _ hb3) (fun hHeld => ?_)
                clear hKK KK
                (try simp only [List.getElem_toArray, List.getElem_cons_succ, List.getElem_cons_zero, Act.put, List.setIfInBounds_toArray, List.set_cons_zero, List.set_cons_succ])
                apply wpAnyH_take (i := 14) rfl (by kernel_rfl) (by kernel_rfl) (by kernel_rfl)
                case hQ => exact fun _ _ _ h => h
                case hS => exact hHeld
                case hy => (refine Or.inl ⟨by rfl, ?_⟩; intro w hSw; (try go_split_ands); go_simp; (try with_reducible rfl))
                (try simp only [List.getElem_toArray, List.getElem_cons_succ, List.getElem_cons_zero, Act.put, List.setIfInBounds_toArray, List.set_cons_zero, List.set_cons_succ])
                apply wpAnyH_take (i := 15) rfl (by kernel_rfl) (by kernel_rfl) (by kernel_rfl)
                case hQ => exact fun _ _ _ h => h
                case hS => exact hHeld
                case hy => (refine Or.inl ⟨by rfl, ?_⟩; intro w hSw; (try go_split_ands); go_simp; (try with_reducible rfl))
                (try simp only [List.getElem_toArray, List.getElem_cons_succ, List.getElem_cons_zero, Act.put, List.setIfInBounds_toArray, List.set_cons_zero, List.set_cons_succ])
                refine wpAnyH_done (by kernel_rfl) ?_ _
                go_wp2_with fail
                go_meet
                exact ⟨_, Amb, cmb, Abb, cbb, AZ, cZ, rfl, rfl, rfl, nb3, hav3.mono fun _ _ _ => trivial, hbz3.mono fun _ _ _ => trivial, hb3⟩
              · (try simp only [List.getElem_toArray, List.getElem_cons_succ, List.getElem_cons_zero])
                go_simp
                rw [zar_lit]
                obtain ⟨V4, hV4⟩ : ∃ x, x = (wr.alloc (.cells zar 32)).drew := ⟨_, rfl⟩
                have hv4 : Below wr.heap.size wr V4 := by rw [hV4]; exact ((Below.refl _ _).alloc (Nat.le_refl _) _).drew
                have hb4 : Below wr.heap.size wr V4 := hv4
                have nb4 : Whole V4 wr.heap.size 32 zar := by rw [hV4]; exact Whole.here _ _ _
                have pb4 : wr.heap.size ≤ wr.heap.size := Nat.le_refl _
                rw [← hV4]
                clear hV4
                refine hKK.out _ _ (HCC.out _ hb4) (fun hHeld => ?_)
                clear hKK KK
                (try simp only [List.getElem_toArray, List.getElem_cons_succ, List.getElem_cons_zero, Act.put, List.setIfInBounds_toArray, List.set_cons_zero, List.set_cons_succ])
                refine wpAnyH_ready (rs := [7]) (by kernel_rfl) (by simp) ?_
                refine AllReadyH.cons rfl (fun KK hKK => ?_) AllReadyH.nil
                (try simp only [List.getElem_toArray, List.getElem_cons_succ, List.getElem_cons_zero])
                go_simp
                go_at_call 16
                refine (hcl _ hb4).mono ?_
                rintro e V5 ⟨⟨x, v, rfl, hx, hy⟩, hv5⟩
                have hb5 := Below.trans hb4 (Below.mono hv5 (Below.size hb4))
                have rb5 := Whole.below nb4 hv5 (Whole.lt nb4)
                obtain ⟨AZ, cZ, rfl, -⟩ := id hy
                obtain ⟨Amb, cmb, Abb, cbb, rfl, hM, hBx, hA⟩ := hx
                have hav5 : AlV V5 (Off [wr.heap.size]) (.agg (alc b.free b.seed b.fresh (.slice Amb b.macs.length cmb) (.slice Abb b.boxes.length cbb))) b := AlV.mono (Q := fun q => q < wr.heap.size ∨ V4.heap.size ≤ q) ⟨Amb, cmb, Abb, cbb, rfl, hM, hBx, hA⟩ fun q _ hq y hy => by have h1b := Whole.lt nb4; have h2b := pb4; simp at hy; rcases hq with hq | hq <;> omega
                have hbz5 : Bytes V5 (Off [wr.heap.size]) (.slice AZ Z.length cZ) Z := Bytes.mono hy fun q _ hq y hy => by have hq : V4.heap.size ≤ q := hq; have h1b := Whole.lt nb4; have h2b := pb4; simp at hy; omega
                clear hM hBx hA hy
                refine hKK.out _ _ (HCC.out _ hb5) (fun hHeld => ?_)
                clear hKK KK
                (try simp only [List.getElem_toArray, List.getElem_cons_succ, List.getElem_cons_zero, Act.put, List.setIfInBounds_toArray, List.set_cons_zero, List.set_cons_succ])
                apply wpAnyH_take (i := 8) rfl (by kernel_rfl) (by kernel_rfl) (by kernel_rfl)
                case hQ => exact fun _ _ _ h => h
                case hS => exact hHeld
                case hy => (refine Or.inl ⟨by rfl, ?_⟩; intro w hSw; (try go_split_ands); go_simp; (try with_reducible rfl))
                (try simp only [List.getElem_toArray, List.getElem_cons_succ, List.getElem_cons_zero, Act.put, List.setIfInBounds_toArray, List.set_cons_zero, List.set_cons_succ])
                apply wpAnyH_take (i := 9) rfl (by kernel_rfl) (by kernel_rfl) (by kernel_rfl)
                case hQ => exact fun _ _ _ h => h
                case hS => exact hHeld
                case hy => (refine Or.inl ⟨by rfl, ?_⟩; intro w hSw; (try go_split_ands); go_simp; (try with_reducible rfl))
                (try simp only [List.getElem_toArray, List.getElem_cons_succ, List.getElem_cons_zero, Act.put, List.setIfInBounds_toArray, List.set_cons_zero, List.set_cons_succ])
                apply wpAnyH_take (i := 10) rfl (by kernel_rfl) (by kernel_rfl) (by kernel_rfl)
                case hQ => exact fun _ _ _ h => h
                case hS => exact hHeld
                case hy => (refine Or.inl ⟨by rfl, ?_⟩; intro w hSw; (try go_split_ands); go_simp; (try with_reducible rfl))
                (try simp only [List.getElem_toArray, List.getElem_cons_succ, List.getElem_cons_zero, Act.put, List.setIfInBounds_toArray, List.set_cons_zero, List.set_cons_succ])
                apply wpAnyH_take (i := 11) rfl (by kernel_rfl) (by kernel_rfl) (by kernel_rfl)
                case hQ => exact fun _ _ _ h => h
                case hS => exact hHeld
                case hy => (refine Or.inl ⟨by rfl, ?_⟩; intro w hSw; (try go_split_ands); go_simp; (try with_reducible rfl))
                (try simp only [List.getElem_toArray, List.getElem_cons_succ, List.getElem_cons_zero, Act.put, List.setIfInBounds_toArray, List.set_cons_zero, List.set_cons_succ])
                refine wpAnyH_ready (rs := [13]) (by kernel_rfl) (by simp) ?_
                refine AllReadyH.cons rfl (fun KK hKK => ?_) AllReadyH.nil
                obtain ⟨V6, hV6⟩ : ∃ x, x = (V5).setRow (wr.heap.size) (alc b.free b.seed b.fresh (.slice Amb b.macs.length cmb) (.slice Abb b.boxes.length cbb)) := ⟨_, rfl⟩
                have nb6 : Whole V6 (wr.heap.size) 32 (alc b.free b.seed b.fresh (.slice Amb b.macs.length cmb) (.slice Abb b.boxes.length cbb)) := by rw [hV6]; exact Whole.setRow rb5 _
                have hb6 : Below wr.heap.size wr V6 := by rw [hV6]; exact below_setRow hb5 pb4 _
                have hav6 : AlV V6 (Off [wr.heap.size]) (.agg (alc b.free b.seed b.fresh (.slice Amb b.macs.length cmb) (.slice Abb b.boxes.length cbb))) b := by rw [hV6]; exact AlV.store hav5 (by simp) _
                have hbz6 : Bytes V6 (Off [wr.heap.size]) (.slice AZ Z.length cZ) Z := by rw [hV6]; exact Bytes.store hbz5 (by simp) _
                rw [if_pos (by kernel_rfl)]
                refine wp_store_row 32 _ _ rfl (wr.heap.size) _ rfl rfl 32 _ rb5 (by rw [algSize, alc_size]) (by rw [zar_size, alc_size]) (alc_one _ _ _ _ _ _ _ _ _) ?_
                rw [← hV6]
                clear hV6
                refine hKK.out _ _ (HCC.out _ hb6) (fun hHeld => ?_)
                clear hKK KK
                (try simp only [List.getElem_toArray, List.getElem_cons_succ, List.getElem_cons_zero, Act.put, List.setIfInBounds_toArray, List.set_cons_zero, List.set_cons_succ])
                apply wpAnyH_take (i := 14) rfl (by kernel_rfl) (by kernel_rfl) (by kernel_rfl)
                case hQ => exact fun _ _ _ h => h
                case hS => exact hHeld
                case hy => (refine Or.inl ⟨by rfl, ?_⟩; intro w hSw; (try go_split_ands); go_simp; (try with_reducible rfl))
                (try simp only [List.getElem_toArray, List.getElem_cons_succ, List.getElem_cons_zero, Act.put, List.setIfInBounds_toArray, List.set_cons_zero, List.set_cons_succ])
                apply wpAnyH_take (i := 15) rfl (by kernel_rfl) (by kernel_rfl) (by kernel_rfl)
                case hQ => exact fun _ _ _ h => h
                case hS => exact hHeld
                case hy => (refine Or.inl ⟨by rfl, ?_⟩; intro w hSw; (try go_split_ands); go_simp; (try with_reducible rfl))
                (try simp only [List.getElem_toArray, List.getElem_cons_succ, List.getElem_cons_zero, Act.put, List.setIfInBounds_toArray, List.set_cons_zero, List.set_cons_succ])
                refine wpAnyH_done (by kernel_rfl) ?_ _
                go_wp2_with fail
                go_meet
                exact ⟨_, Amb, cmb, Abb, cbb, AZ, cZ, rfl, rfl, rfl, nb6, hav6.mono fun _ _ _ => trivial, hbz6.mono fun _ _ _ => trivial, hb6⟩
            case rest =>
              obtain ⟨Gb, Amb, cmb, Abb, cbb, AZ, cZ, rfl, rfl, rfl, hr1, hav, hbz, hbu⟩ := hcut
              clear HCL
              rename World => wx1
              have hswx1 : wr.heap.size ≤ wx1.heap.size := hbu.size
              dsimp only at hr1 hav hbz
              have H43 : Hid (Below w.heap.size w wx1) := Lib.hid ((Below.trans H38.out (Below.mono hbu (Below.size H38.out))))
              have H44 : Hid (AlV wx1 (Off [u3.heap.size, u1.heap.size, w.heap.size]) (.agg (alc a.free a.seed a.fresh (.slice Ama a.macs.length cma) (.slice Aba a.boxes.length cba))) a) := Lib.hid ((AlV.below H39.out hbu (Nat.le_refl _)))
              have H45 : Hid (ALRow wx1 u1.heap.size a.free a.seed a.fresh (.slice Ama a.macs.length cma) (.slice Aba a.boxes.length cba)) := Lib.hid ((Whole.below H40.out hbu (Whole.lt H40.out)))
              have H46 : Hid (TGRow wx1 u3.heap.size K) := Lib.hid ((Whole.below H41.out hbu (Whole.lt H41.out)))
              have H47 : Hid (Below wv.heap.size wv wx1) := Lib.hid ((Below.trans H42.out (Below.mono hbu (Below.size H42.out))))
              clear H38 H39 H40 H41 H42
              have H48 : Hid (ALRow wx1 Gb b.free b.seed b.fresh (.slice Amb b.macs.length cmb) (.slice Abb b.boxes.length cbb)) := Lib.hid (hr1)
              have H49 : Hid (AlV wx1 (fun _ => True) (.agg (alc b.free b.seed b.fresh (.slice Amb b.macs.length cmb) (.slice Abb b.boxes.length cbb))) b) := Lib.hid (hav)
              have H50 : Hid (Bytes wx1 (fun _ => True) (.slice AZ Z.length cZ) Z) := Lib.hid (hbz)
              have hcl3 : wx1.cell? ⟨g1, o1 + i, none⟩ = some (.slice A3 M.length c3) := (hbu.cell (p := ⟨g1, o1 + i, none⟩) hg1).trans hcl3
              have hg1 : g1 < wx1.heap.size := by omega
              have HB3 := Lib.hid (HB3.out.below hbu (Nat.le_refl _))
              clear hr1 hav hbz hbu
              go_upto_region 17 with fail
              have hav0 := AlV.mono (Q' := fun q => q < wx1.heap.size) H44.out fun q hq _ => hq
              obtain ⟨R, hR⟩ : ∃ R, R = aSeal a K y M := ⟨_, rfl⟩
              have hcl : ∀ W, Below wx1.heap.size wx1 W → Calls Tryd.prog 17 #[.agg (alc a.free a.seed a.fresh (.slice Ama a.macs.length cma) (.slice Aba a.boxes.length cba)), .agg (K.map byt).toArray, .int .i64 y, .slice A3 M.length c3] W fun e w' => SeR w' (fun q => q < wx1.heap.size ∨ W.heap.size ≤ q) (fun q => W.heap.size ≤ q) e R ∧ Below W.heap.size W w' := fun W hb => by
                rw [hR]
                have := rseal (z := y) (AlV.below hav0 hb (Nat.le_refl _)) (by omega) hlK HYQ.out (HB3.out.below hb (Nat.le_refl _)) (by omega)
                refine this.mono ?_
                rintro e w2 ⟨⟨x, v, h1, h2, h3⟩, h4⟩
                exact ⟨⟨x, v, h1, h2, h3⟩, h4⟩
              have HCL := Lib.hid hcl
              clear hcl hav0
              obtain ⟨c, Y, eY⟩ := R
              have HEc := Lib.hid hR
              clear hR
              (try simp only [Act.put])
              go_cut [19, 20, 21] (fun s16 s17 s18 wx => SlP wx1 (c, Y, eY) s16 s17 s18 wx)
              case first =>
                have hcl := HCL.out
                clear HYQ
                have hcc : ∀ W, Below wx1.heap.size wx1 W → (fun W : World => W.rangeAt u1.heap.size 0 (alcl a.free a.seed a.fresh (.slice Ama a.macs.length cma) (.slice Aba a.boxes.length cba)) ∧ W.rangeAt u3.heap.size 0 (K.map byt) ∧ W.cell? ⟨g1, o1 + i, none⟩ = some (.slice A3 M.length c3)) W := fun W hb => ⟨Whole.range (Whole.below H45.out hb (Whole.lt H45.out)), TGRow.range (Whole.below H46.out hb (Whole.lt H46.out)), (hb.cell (p := ⟨g1, o1 + i, none⟩) hg1).trans hcl3⟩
                have HCC := Lib.hid hcc
                clear hcc
                have hb0 : Below wx1.heap.size wx1 wx1.drew := Below.drew (Below.refl _ _)
                refine wp_region_held_drew (S := fun W : World => W.rangeAt u1.heap.size 0 (alcl a.free a.seed a.fresh (.slice Ama a.macs.length cma) (.slice Aba a.boxes.length cba)) ∧ W.rangeAt u3.heap.size 0 (K.map byt) ∧ W.cell? ⟨g1, o1 + i, none⟩ = some (.slice A3 M.length c3)) (by kernel_rfl) (HCC.out _ hb0) (fun hHeld => ?_)
                apply wpAnyH_take (i := 0) rfl (by kernel_rfl) (by kernel_rfl) (by kernel_rfl)
                case hQ => exact fun _ _ _ h => h
                case hS => exact hHeld
                case hy => exact yieldsIf_load_mid (by rfl) 32 _ rfl u1.heap.size (0) rfl ((alcl a.free a.seed a.fresh (.slice Ama a.macs.length cma) (.slice Aba a.boxes.length cba))) _ (fun w hS => hS.1) Tryd.underlying32 rfl (by rw [algSize, alcl_length])
                (try simp only [List.getElem_toArray, List.getElem_cons_zero, Act.put, List.setIfInBounds_toArray, List.set_cons_zero, List.set_cons_succ])
                apply wpAnyH_take (i := 1) rfl (by kernel_rfl) (by kernel_rfl) (by kernel_rfl)
                case hQ => exact fun _ _ _ h => h
                case hS => exact hHeld
                case hy => exact yieldsIf_load_mid (by rfl) 28 _ rfl u3.heap.size (0) rfl ((K.map byt)) _ (fun w hS => hS.2.1) Tryd.underlying28 rfl (by rw [tagSize, List.length_map, hlK])
                (try simp only [List.getElem_toArray, List.getElem_cons_succ, List.getElem_cons_zero, Act.put, List.setIfInBounds_toArray, List.set_cons_zero, List.set_cons_succ])
                apply wpAnyH_take (i := 2) rfl (by kernel_rfl) (by kernel_rfl) (by kernel_rfl)
                case hQ => exact fun _ _ _ h => h
                case hS => exact hHeld
                case hy => (refine Or.inl ⟨by rfl, ?_⟩; intro w hSw; (try go_split_ands); go_simp; (try with_reducible rfl))
                (try simp only [List.getElem_toArray, List.getElem_cons_succ, List.getElem_cons_zero, Act.put, List.setIfInBounds_toArray, List.set_cons_zero, List.set_cons_succ])
                apply wpAnyH_take (i := 3) rfl (by kernel_rfl) (by kernel_rfl) (by kernel_rfl)
                case hQ => exact fun _ _ _ h => h
                case hS => exact hHeld
                case hy => (refine Or.inl ⟨by rfl, ?_⟩; intro w hSw; (try go_split_ands); go_simp; (try with_reducible rfl))
                (try simp only [List.getElem_toArray, List.getElem_cons_succ, List.getElem_cons_zero, Act.put, List.setIfInBounds_toArray, List.set_cons_zero, List.set_cons_succ])
                apply wpAnyH_take (i := 4) rfl (by kernel_rfl) (by kernel_rfl) (by kernel_rfl)
                case hQ => exact fun _ _ _ h => h
                case hS => exact hHeld
                case hy => (refine Or.inl ⟨by rfl, ?_⟩; intro w hSw; (try go_split_ands); go_simp; (try with_reducible rfl))
                (try simp only [List.getElem_toArray, List.getElem_cons_succ, List.getElem_cons_zero, Act.put, List.setIfInBounds_toArray, List.set_cons_zero, List.set_cons_succ])
                apply wpAnyH_take (i := 5) rfl (by kernel_rfl) (by kernel_rfl) (by kernel_rfl)
                case hQ => exact fun _ _ _ h => h
                case hS => exact hHeld
                case hy => (refine Or.inl ⟨by rfl, ?_⟩; intro w hSw; (try go_split_ands); go_simp; (try with_reducible rfl))
                (try simp only [List.getElem_toArray, List.getElem_cons_succ, List.getElem_cons_zero, Act.put, List.setIfInBounds_toArray, List.set_cons_zero, List.set_cons_succ])
                apply wpAnyH_take (i := 6) rfl (by kernel_rfl) (by kernel_rfl) (by kernel_rfl)
                case hQ => exact fun _ _ _ h => h
                case hS => exact hHeld
                case hy => (refine Or.inl ⟨by rfl, ?_⟩; intro w hSw; (try go_split_ands); go_simp; (try with_reducible rfl))
                (try simp only [List.getElem_toArray, List.getElem_cons_succ, List.getElem_cons_zero, Act.put, List.setIfInBounds_toArray, List.set_cons_zero, List.set_cons_succ])
                refine wpAnyH_ready (rs := [7, 12]) (by kernel_rfl) (by simp) ?_
                refine AllReadyH.cons rfl (fun KK hKK => ?_) (AllReadyH.cons rfl (fun KK hKK => ?_) AllReadyH.nil)
                · (try simp only [List.getElem_toArray, List.getElem_cons_succ, List.getElem_cons_zero])
                  go_simp
                  go_at_call 17
                  refine (hcl _ hb0).mono ?_
                  rintro e V1 ⟨⟨x, v, rfl, hx, hy⟩, hv1⟩
                  have hb1 := Below.trans hb0 (Below.mono hv1 (Below.size hb0))
                  obtain ⟨AZ, cZ, rfl, -⟩ := id hy
                  obtain ⟨Amc, cmc, Abc, cbc, rfl, hM, hBx, hA⟩ := hx
                  have hav1 : AlV V1 (Off []) (.agg (alc c.free c.seed c.fresh (.slice Amc c.macs.length cmc) (.slice Abc c.boxes.length cbc))) c := AlV.mono (Q := fun q => q < wx1.heap.size ∨ wx1.drew.heap.size ≤ q) ⟨Amc, cmc, Abc, cbc, rfl, hM, hBx, hA⟩ fun q _ hq y hy => by cases hy
                  have hbz1 : Bytes V1 (Off []) (.slice AZ Y.length cZ) Y := Bytes.mono hy fun q _ hq y hy => by cases hy
                  clear hM hBx hA hy
                  refine hKK.out _ _ (HCC.out _ hb1) (fun hHeld => ?_)
                  clear hKK KK
                  (try simp only [List.getElem_toArray, List.getElem_cons_succ, List.getElem_cons_zero, Act.put, List.setIfInBounds_toArray, List.set_cons_zero, List.set_cons_succ])
                  apply wpAnyH_take (i := 8) rfl (by kernel_rfl) (by kernel_rfl) (by kernel_rfl)
                  case hQ => exact fun _ _ _ h => h
                  case hS => exact hHeld
                  case hy => (refine Or.inl ⟨by rfl, ?_⟩; intro w hSw; (try go_split_ands); go_simp; (try with_reducible rfl))
                  (try simp only [List.getElem_toArray, List.getElem_cons_succ, List.getElem_cons_zero, Act.put, List.setIfInBounds_toArray, List.set_cons_zero, List.set_cons_succ])
                  apply wpAnyH_take (i := 9) rfl (by kernel_rfl) (by kernel_rfl) (by kernel_rfl)
                  case hQ => exact fun _ _ _ h => h
                  case hS => exact hHeld
                  case hy => (refine Or.inl ⟨by rfl, ?_⟩; intro w hSw; (try go_split_ands); go_simp; (try with_reducible rfl))
                  (try simp only [List.getElem_toArray, List.getElem_cons_succ, List.getElem_cons_zero, Act.put, List.setIfInBounds_toArray, List.set_cons_zero, List.set_cons_succ])
                  apply wpAnyH_take (i := 10) rfl (by kernel_rfl) (by kernel_rfl) (by kernel_rfl)
                  case hQ => exact fun _ _ _ h => h
                  case hS => exact hHeld
                  case hy => (refine Or.inl ⟨by rfl, ?_⟩; intro w hSw; (try go_split_ands); go_simp; (try with_reducible rfl))
                  (try simp only [List.getElem_toArray, List.getElem_cons_succ, List.getElem_cons_zero, Act.put, List.setIfInBounds_toArray, List.set_cons_zero, List.set_cons_succ])
                  apply wpAnyH_take (i := 11) rfl (by kernel_rfl) (by kernel_rfl) (by kernel_rfl)
                  case hQ => exact fun _ _ _ h => h
                  case hS => exact hHeld
                  case hy => (refine Or.inl ⟨by rfl, ?_⟩; intro w hSw; (try go_split_ands); go_simp; (try with_reducible rfl))
                  (try simp only [List.getElem_toArray, List.getElem_cons_succ, List.getElem_cons_zero, Act.put, List.setIfInBounds_toArray, List.set_cons_zero, List.set_cons_succ])
                  refine wpAnyH_ready (rs := [12]) (by kernel_rfl) (by simp) ?_
                  refine AllReadyH.cons rfl (fun KK hKK => ?_) AllReadyH.nil
                  (try simp only [List.getElem_toArray, List.getElem_cons_succ, List.getElem_cons_zero])
                  go_simp
                  rw [zar_lit]
                  obtain ⟨V2, hV2⟩ : ∃ x, x = (V1).alloc (.cells zar 32) := ⟨_, rfl⟩
                  have hv2 : Below V1.heap.size V1 V2 := by rw [hV2]; exact (Below.refl _ _).alloc (Nat.le_refl _) _
                  have hb2 : Below wx1.heap.size wx1 V2 := Below.trans hb1 (Below.mono hv2 (Below.size hb1))
                  have nb2 : Whole V2 V1.heap.size 32 zar := by rw [hV2]; exact Whole.here _ _ _
                  have pb2 : wx1.heap.size ≤ V1.heap.size := Below.size hb1
                  rw [← hV2]
                  clear hV2
                  have hav2 : AlV V2 (Off [V1.heap.size]) (.agg (alc c.free c.seed c.fresh (.slice Amc c.macs.length cmc) (.slice Abc c.boxes.length cbc))) c := AlV.below (AlV.grow hav1 (Nat.le_refl _)) hv2 (Nat.le_refl _)
                  have hbz2 : Bytes V2 (Off [V1.heap.size]) (.slice AZ Y.length cZ) Y := Bytes.below (Bytes.grow hbz1 (Nat.le_refl _)) hv2 (Nat.le_refl _)
                  refine hKK.out _ _ (HCC.out _ hb2) (fun hHeld => ?_)
                  clear hKK KK
                  (try simp only [List.getElem_toArray, List.getElem_cons_succ, List.getElem_cons_zero, Act.put, List.setIfInBounds_toArray, List.set_cons_zero, List.set_cons_succ])
                  refine wpAnyH_ready (rs := [13]) (by kernel_rfl) (by simp) ?_
                  refine AllReadyH.cons rfl (fun KK hKK => ?_) AllReadyH.nil
                  obtain ⟨V3, hV3⟩ : ∃ x, x = (V2).setRow (V1.heap.size) (alc c.free c.seed c.fresh (.slice Amc c.macs.length cmc) (.slice Abc c.boxes.length cbc)) := ⟨_, rfl⟩
                  have nb3 : Whole V3 (V1.heap.size) 32 (alc c.free c.seed c.fresh (.slice Amc c.macs.length cmc) (.slice Abc c.boxes.length cbc)) := by rw [hV3]; exact Whole.setRow nb2 _
                  have hb3 : Below wx1.heap.size wx1 V3 := by rw [hV3]; exact below_setRow hb2 pb2 _
                  have hav3 : AlV V3 (Off [V1.heap.size]) (.agg (alc c.free c.seed c.fresh (.slice Amc c.macs.length cmc) (.slice Abc c.boxes.length cbc))) c := by rw [hV3]; exact AlV.store hav2 (by simp) _
                  have hbz3 : Bytes V3 (Off [V1.heap.size]) (.slice AZ Y.length cZ) Y := by rw [hV3]; exact Bytes.store hbz2 (by simp) _
                  rw [if_pos (by kernel_rfl)]
                  refine wp_store_row 32 _ _ rfl (V1.heap.size) _ rfl rfl 32 _ nb2 (by rw [algSize, alc_size]) (by rw [zar_size, alc_size]) (alc_one _ _ _ _ _ _ _ _ _) ?_
                  rw [← hV3]
                  clear hV3
                  refine hKK.out _ _ (HCC.out _ hb3) (fun hHeld => ?_)
                  clear hKK KK
                  (try simp only [List.getElem_toArray, List.getElem_cons_succ, List.getElem_cons_zero, Act.put, List.setIfInBounds_toArray, List.set_cons_zero, List.set_cons_succ])
                  apply wpAnyH_take (i := 14) rfl (by kernel_rfl) (by kernel_rfl) (by kernel_rfl)
                  case hQ => exact fun _ _ _ h => h
                  case hS => exact hHeld
                  case hy => (refine Or.inl ⟨by rfl, ?_⟩; intro w hSw; (try go_split_ands); go_simp; (try with_reducible rfl))
                  (try simp only [List.getElem_toArray, List.getElem_cons_succ, List.getElem_cons_zero, Act.put, List.setIfInBounds_toArray, List.set_cons_zero, List.set_cons_succ])
                  apply wpAnyH_take (i := 15) rfl (by kernel_rfl) (by kernel_rfl) (by kernel_rfl)
                  case hQ => exact fun _ _ _ h => h
                  case hS => exact hHeld
                  case hy => (refine Or.inl ⟨by rfl, ?_⟩; intro w hSw; (try go_split_ands); go_simp; (try with_reducible rfl))
                  (try simp only [List.getElem_toArray, List.getElem_cons_succ, List.getElem_cons_zero, Act.put, List.setIfInBounds_toArray, List.set_cons_zero, List.set_cons_succ])
                  refine wpAnyH_done (by kernel_rfl) ?_ _
                  go_wp2_with fail
                  go_meet
                  exact ⟨_, Amc, cmc, Abc, cbc, AZ, cZ, rfl, rfl, rfl, nb3, hav3.mono fun _ _ _ => trivial, hbz3.mono fun _ _ _ => trivial, hb3⟩
                · (try simp only [List.getElem_toArray, List.getElem_cons_succ, List.getElem_cons_zero])
                  go_simp
                  rw [zar_lit]
                  obtain ⟨V4, hV4⟩ : ∃ x, x = (wx1.alloc (.cells zar 32)).drew := ⟨_, rfl⟩
                  have hv4 : Below wx1.heap.size wx1 V4 := by rw [hV4]; exact ((Below.refl _ _).alloc (Nat.le_refl _) _).drew
                  have hb4 : Below wx1.heap.size wx1 V4 := hv4
                  have nb4 : Whole V4 wx1.heap.size 32 zar := by rw [hV4]; exact Whole.here _ _ _
                  have pb4 : wx1.heap.size ≤ wx1.heap.size := Nat.le_refl _
                  rw [← hV4]
                  clear hV4
                  refine hKK.out _ _ (HCC.out _ hb4) (fun hHeld => ?_)
                  clear hKK KK
                  (try simp only [List.getElem_toArray, List.getElem_cons_succ, List.getElem_cons_zero, Act.put, List.setIfInBounds_toArray, List.set_cons_zero, List.set_cons_succ])
                  refine wpAnyH_ready (rs := [7]) (by kernel_rfl) (by simp) ?_
                  refine AllReadyH.cons rfl (fun KK hKK => ?_) AllReadyH.nil
                  (try simp only [List.getElem_toArray, List.getElem_cons_succ, List.getElem_cons_zero])
                  go_simp
                  go_at_call 17
                  refine (hcl _ hb4).mono ?_
                  rintro e V5 ⟨⟨x, v, rfl, hx, hy⟩, hv5⟩
                  have hb5 := Below.trans hb4 (Below.mono hv5 (Below.size hb4))
                  have rb5 := Whole.below nb4 hv5 (Whole.lt nb4)
                  obtain ⟨AZ, cZ, rfl, -⟩ := id hy
                  obtain ⟨Amc, cmc, Abc, cbc, rfl, hM, hBx, hA⟩ := hx
                  have hav5 : AlV V5 (Off [wx1.heap.size]) (.agg (alc c.free c.seed c.fresh (.slice Amc c.macs.length cmc) (.slice Abc c.boxes.length cbc))) c := AlV.mono (Q := fun q => q < wx1.heap.size ∨ V4.heap.size ≤ q) ⟨Amc, cmc, Abc, cbc, rfl, hM, hBx, hA⟩ fun q _ hq y hy => by have h1b := Whole.lt nb4; have h2b := pb4; simp at hy; rcases hq with hq | hq <;> omega
                  have hbz5 : Bytes V5 (Off [wx1.heap.size]) (.slice AZ Y.length cZ) Y := Bytes.mono hy fun q _ hq y hy => by have hq : V4.heap.size ≤ q := hq; have h1b := Whole.lt nb4; have h2b := pb4; simp at hy; omega
                  clear hM hBx hA hy
                  refine hKK.out _ _ (HCC.out _ hb5) (fun hHeld => ?_)
                  clear hKK KK
                  (try simp only [List.getElem_toArray, List.getElem_cons_succ, List.getElem_cons_zero, Act.put, List.setIfInBounds_toArray, List.set_cons_zero, List.set_cons_succ])
                  apply wpAnyH_take (i := 8) rfl (by kernel_rfl) (by kernel_rfl) (by kernel_rfl)
                  case hQ => exact fun _ _ _ h => h
                  case hS => exact hHeld
                  case hy => (refine Or.inl ⟨by rfl, ?_⟩; intro w hSw; (try go_split_ands); go_simp; (try with_reducible rfl))
                  (try simp only [List.getElem_toArray, List.getElem_cons_succ, List.getElem_cons_zero, Act.put, List.setIfInBounds_toArray, List.set_cons_zero, List.set_cons_succ])
                  apply wpAnyH_take (i := 9) rfl (by kernel_rfl) (by kernel_rfl) (by kernel_rfl)
                  case hQ => exact fun _ _ _ h => h
                  case hS => exact hHeld
                  case hy => (refine Or.inl ⟨by rfl, ?_⟩; intro w hSw; (try go_split_ands); go_simp; (try with_reducible rfl))
                  (try simp only [List.getElem_toArray, List.getElem_cons_succ, List.getElem_cons_zero, Act.put, List.setIfInBounds_toArray, List.set_cons_zero, List.set_cons_succ])
                  apply wpAnyH_take (i := 10) rfl (by kernel_rfl) (by kernel_rfl) (by kernel_rfl)
                  case hQ => exact fun _ _ _ h => h
                  case hS => exact hHeld
                  case hy => (refine Or.inl ⟨by rfl, ?_⟩; intro w hSw; (try go_split_ands); go_simp; (try with_reducible rfl))
                  (try simp only [List.getElem_toArray, List.getElem_cons_succ, List.getElem_cons_zero, Act.put, List.setIfInBounds_toArray, List.set_cons_zero, List.set_cons_succ])
                  apply wpAnyH_take (i := 11) rfl (by kernel_rfl) (by kernel_rfl) (by kernel_rfl)
                  case hQ => exact fun _ _ _ h => h
                  case hS => exact hHeld
                  case hy => (refine Or.inl ⟨by rfl, ?_⟩; intro w hSw; (try go_split_ands); go_simp; (try with_reducible rfl))
                  (try simp only [List.getElem_toArray, List.getElem_cons_succ, List.getElem_cons_zero, Act.put, List.setIfInBounds_toArray, List.set_cons_zero, List.set_cons_succ])
                  refine wpAnyH_ready (rs := [13]) (by kernel_rfl) (by simp) ?_
                  refine AllReadyH.cons rfl (fun KK hKK => ?_) AllReadyH.nil
                  obtain ⟨V6, hV6⟩ : ∃ x, x = (V5).setRow (wx1.heap.size) (alc c.free c.seed c.fresh (.slice Amc c.macs.length cmc) (.slice Abc c.boxes.length cbc)) := ⟨_, rfl⟩
                  have nb6 : Whole V6 (wx1.heap.size) 32 (alc c.free c.seed c.fresh (.slice Amc c.macs.length cmc) (.slice Abc c.boxes.length cbc)) := by rw [hV6]; exact Whole.setRow rb5 _
                  have hb6 : Below wx1.heap.size wx1 V6 := by rw [hV6]; exact below_setRow hb5 pb4 _
                  have hav6 : AlV V6 (Off [wx1.heap.size]) (.agg (alc c.free c.seed c.fresh (.slice Amc c.macs.length cmc) (.slice Abc c.boxes.length cbc))) c := by rw [hV6]; exact AlV.store hav5 (by simp) _
                  have hbz6 : Bytes V6 (Off [wx1.heap.size]) (.slice AZ Y.length cZ) Y := by rw [hV6]; exact Bytes.store hbz5 (by simp) _
                  rw [if_pos (by kernel_rfl)]
                  refine wp_store_row 32 _ _ rfl (wx1.heap.size) _ rfl rfl 32 _ rb5 (by rw [algSize, alc_size]) (by rw [zar_size, alc_size]) (alc_one _ _ _ _ _ _ _ _ _) ?_
                  rw [← hV6]
                  clear hV6
                  refine hKK.out _ _ (HCC.out _ hb6) (fun hHeld => ?_)
                  clear hKK KK
                  (try simp only [List.getElem_toArray, List.getElem_cons_succ, List.getElem_cons_zero, Act.put, List.setIfInBounds_toArray, List.set_cons_zero, List.set_cons_succ])
                  apply wpAnyH_take (i := 14) rfl (by kernel_rfl) (by kernel_rfl) (by kernel_rfl)
                  case hQ => exact fun _ _ _ h => h
                  case hS => exact hHeld
                  case hy => (refine Or.inl ⟨by rfl, ?_⟩; intro w hSw; (try go_split_ands); go_simp; (try with_reducible rfl))
                  (try simp only [List.getElem_toArray, List.getElem_cons_succ, List.getElem_cons_zero, Act.put, List.setIfInBounds_toArray, List.set_cons_zero, List.set_cons_succ])
                  apply wpAnyH_take (i := 15) rfl (by kernel_rfl) (by kernel_rfl) (by kernel_rfl)
                  case hQ => exact fun _ _ _ h => h
                  case hS => exact hHeld
                  case hy => (refine Or.inl ⟨by rfl, ?_⟩; intro w hSw; (try go_split_ands); go_simp; (try with_reducible rfl))
                  (try simp only [List.getElem_toArray, List.getElem_cons_succ, List.getElem_cons_zero, Act.put, List.setIfInBounds_toArray, List.set_cons_zero, List.set_cons_succ])
                  refine wpAnyH_done (by kernel_rfl) ?_ _
                  go_wp2_with fail
                  go_meet
                  exact ⟨_, Amc, cmc, Abc, cbc, AZ, cZ, rfl, rfl, rfl, nb6, hav6.mono fun _ _ _ => trivial, hbz6.mono fun _ _ _ => trivial, hb6⟩
              case rest =>
                obtain ⟨Gc, Amc, cmc, Abc, cbc, AY, cY, rfl, rfl, rfl, hr1, hav, hbz, hbu⟩ := hcut
                clear HCL
                rename World => wx2
                have hswx2 : wx1.heap.size ≤ wx2.heap.size := hbu.size
                dsimp only at hr1 hav hbz
                have H51 : Hid (Below w.heap.size w wx2) := Lib.hid ((Below.trans H43.out (Below.mono hbu (Below.size H43.out))))
                have H52 : Hid (AlV wx2 (Off [u3.heap.size, u1.heap.size, w.heap.size]) (.agg (alc a.free a.seed a.fresh (.slice Ama a.macs.length cma) (.slice Aba a.boxes.length cba))) a) := Lib.hid ((AlV.below H44.out hbu (Nat.le_refl _)))
                have H53 : Hid (ALRow wx2 u1.heap.size a.free a.seed a.fresh (.slice Ama a.macs.length cma) (.slice Aba a.boxes.length cba)) := Lib.hid ((Whole.below H45.out hbu (Whole.lt H45.out)))
                have H54 : Hid (TGRow wx2 u3.heap.size K) := Lib.hid ((Whole.below H46.out hbu (Whole.lt H46.out)))
                have H55 : Hid (Below wv.heap.size wv wx2) := Lib.hid ((Below.trans H47.out (Below.mono hbu (Below.size H47.out))))
                have H56 : Hid (ALRow wx2 Gb b.free b.seed b.fresh (.slice Amb b.macs.length cmb) (.slice Abb b.boxes.length cbb)) := Lib.hid ((Whole.below H48.out hbu (Whole.lt H48.out)))
                have H57 : Hid (AlV wx2 (fun _ => True) (.agg (alc b.free b.seed b.fresh (.slice Amb b.macs.length cmb) (.slice Abb b.boxes.length cbb))) b) := Lib.hid ((AlV.below H49.out hbu (Nat.le_refl _)))
                have H58 : Hid (Bytes wx2 (fun _ => True) (.slice AZ Z.length cZ) Z) := Lib.hid ((Bytes.below H50.out hbu (Nat.le_refl _)))
                clear H43 H44 H45 H46 H47 H48 H49 H50
                have H59 : Hid (ALRow wx2 Gc c.free c.seed c.fresh (.slice Amc c.macs.length cmc) (.slice Abc c.boxes.length cbc)) := Lib.hid (hr1)
                have H60 : Hid (AlV wx2 (fun _ => True) (.agg (alc c.free c.seed c.fresh (.slice Amc c.macs.length cmc) (.slice Abc c.boxes.length cbc))) c) := Lib.hid (hav)
                have H61 : Hid (Bytes wx2 (fun _ => True) (.slice AY Y.length cY) Y) := Lib.hid (hbz)
                have hcl3 : wx2.cell? ⟨g1, o1 + i, none⟩ = some (.slice A3 M.length c3) := (hbu.cell (p := ⟨g1, o1 + i, none⟩) hg1).trans hcl3
                have hg1 : g1 < wx2.heap.size := by omega
                have HB3 := Lib.hid (HB3.out.below hbu (Nat.le_refl _))
                clear hr1 hav hbz hbu
                have hlz : Z.length ≤ 5000 := by
                  have := seal_len (a := a) (K := K) (m := M) (z := y) (by
                    intro e he
                    obtain ⟨j, hj⟩ := List.mem_iff_getElem?.1 he
                    obtain ⟨_, _, _, _, _, _, -, -, -, -, -, -, -, -, -, -, h⟩ := Bxs.get HBB.out j e hj
                    exact h)
                  rw [← HEb.out] at this
                  exact this
                have hTU := HEb.out.trans HEc.out.symm
                injection hTU with e1 e2
                injection e2 with e2 e3
                subst e1 e2 e3
                have hcl := rsamea H57.out H60.out
                go_wp2_with (first
                  | (with_reducible refine wpList_load_alg rfl _ rfl rfl H56.out (alc_size _ _ _ _ _) ?_)
                  | (with_reducible refine wpList_load_alg rfl _ rfl rfl H59.out (alc_size _ _ _ _ _) ?_))
                refine hcl.mono ?_
                rintro e u5 ⟨rfl, hbu⟩
                clear hcl
                have hsu5 : wx2.heap.size ≤ u5.heap.size := hbu.size
                have H62 : Hid (Below w.heap.size w u5) := Lib.hid ((Below.trans H51.out (Below.mono hbu (Below.size H51.out))))
                have H63 : Hid (AlV u5 (Off [u3.heap.size, u1.heap.size, w.heap.size]) (.agg (alc a.free a.seed a.fresh (.slice Ama a.macs.length cma) (.slice Aba a.boxes.length cba))) a) := Lib.hid ((AlV.below H52.out hbu (Nat.le_refl _)))
                have H64 : Hid (ALRow u5 u1.heap.size a.free a.seed a.fresh (.slice Ama a.macs.length cma) (.slice Aba a.boxes.length cba)) := Lib.hid ((Whole.below H53.out hbu (Whole.lt H53.out)))
                have H65 : Hid (TGRow u5 u3.heap.size K) := Lib.hid ((Whole.below H54.out hbu (Whole.lt H54.out)))
                have H66 : Hid (Below wv.heap.size wv u5) := Lib.hid ((Below.trans H55.out (Below.mono hbu (Below.size H55.out))))
                have H67 : Hid (ALRow u5 Gb b.free b.seed b.fresh (.slice Amb b.macs.length cmb) (.slice Abb b.boxes.length cbb)) := Lib.hid ((Whole.below H56.out hbu (Whole.lt H56.out)))
                have H68 : Hid (AlV u5 (fun _ => True) (.agg (alc b.free b.seed b.fresh (.slice Amb b.macs.length cmb) (.slice Abb b.boxes.length cbb))) b) := Lib.hid ((AlV.below H57.out hbu (Nat.le_refl _)))
                have H69 : Hid (Bytes u5 (fun _ => True) (.slice AZ Z.length cZ) Z) := Lib.hid ((Bytes.below H58.out hbu (Nat.le_refl _)))
                have H70 : Hid (ALRow u5 Gc b.free b.seed b.fresh (.slice Amc b.macs.length cmc) (.slice Abc b.boxes.length cbc)) := Lib.hid ((Whole.below H59.out hbu (Whole.lt H59.out)))
                have H71 : Hid (AlV u5 (fun _ => True) (.agg (alc b.free b.seed b.fresh (.slice Amc b.macs.length cmc) (.slice Abc b.boxes.length cbc))) b) := Lib.hid ((AlV.below H60.out hbu (Nat.le_refl _)))
                have H72 : Hid (Bytes u5 (fun _ => True) (.slice AY Z.length cY) Z) := Lib.hid ((Bytes.below H61.out hbu (Nat.le_refl _)))
                clear H51 H52 H53 H54 H55 H56 H57 H58 H59 H60 H61
                clear hbu
                have hcl := same_ _ _ Z Z _ _ u5 H69.out H72.out (by omega) (by omega)
                rw [decide_eq_true rfl] at hcl
                have kb : (eZ != eZ) = false := by simp
                go_wp2_with fail
                refine hcl.mono ?_
                rintro e u6 ⟨rfl, hbu⟩
                clear hcl
                have hsu6 : u5.heap.size ≤ u6.heap.size := hbu.size
                have H73 : Hid (Below w.heap.size w u6) := Lib.hid ((Below.trans H62.out (Below.mono hbu (Below.size H62.out))))
                have H74 : Hid (AlV u6 (Off [u3.heap.size, u1.heap.size, w.heap.size]) (.agg (alc a.free a.seed a.fresh (.slice Ama a.macs.length cma) (.slice Aba a.boxes.length cba))) a) := Lib.hid ((AlV.below H63.out hbu (Nat.le_refl _)))
                have H75 : Hid (ALRow u6 u1.heap.size a.free a.seed a.fresh (.slice Ama a.macs.length cma) (.slice Aba a.boxes.length cba)) := Lib.hid ((Whole.below H64.out hbu (Whole.lt H64.out)))
                have H76 : Hid (TGRow u6 u3.heap.size K) := Lib.hid ((Whole.below H65.out hbu (Whole.lt H65.out)))
                have H77 : Hid (Below wv.heap.size wv u6) := Lib.hid ((Below.trans H66.out (Below.mono hbu (Below.size H66.out))))
                have H78 : Hid (ALRow u6 Gb b.free b.seed b.fresh (.slice Amb b.macs.length cmb) (.slice Abb b.boxes.length cbb)) := Lib.hid ((Whole.below H67.out hbu (Whole.lt H67.out)))
                have H79 : Hid (AlV u6 (fun _ => True) (.agg (alc b.free b.seed b.fresh (.slice Amb b.macs.length cmb) (.slice Abb b.boxes.length cbb))) b) := Lib.hid ((AlV.below H68.out hbu (Nat.le_refl _)))
                have H80 : Hid (Bytes u6 (fun _ => True) (.slice AZ Z.length cZ) Z) := Lib.hid ((Bytes.below H69.out hbu (Nat.le_refl _)))
                have H81 : Hid (ALRow u6 Gc b.free b.seed b.fresh (.slice Amc b.macs.length cmc) (.slice Abc b.boxes.length cbc)) := Lib.hid ((Whole.below H70.out hbu (Whole.lt H70.out)))
                have H82 : Hid (AlV u6 (fun _ => True) (.agg (alc b.free b.seed b.fresh (.slice Amc b.macs.length cmc) (.slice Abc b.boxes.length cbc))) b) := Lib.hid ((AlV.below H71.out hbu (Nat.le_refl _)))
                have H83 : Hid (Bytes u6 (fun _ => True) (.slice AY Z.length cY) Z) := Lib.hid ((Bytes.below H72.out hbu (Nat.le_refl _)))
                clear H62 H63 H64 H65 H66 H67 H68 H69 H70 H71 H72
                clear hbu
                go_wp2_with fail
                go_roundw
                case rel => exact ⟨i + 1, by go_num, by omega, H77.out⟩
                case measure => simp [intOf]; omega
end Go.Proofs.YtknhnkmooaopmaaDoor
