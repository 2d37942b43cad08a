/-
  BxComb
-/
import Derived.Maps.AppendAt
import Derived.Deep.DeepMust
import Derived.Test.YteekdhcffiaaaaaDoorPk39
import Derived.Test.YteekdhcffiaaaaaDoorPk34
import Derived.Test.YteekdhcffiaaaaaDoorKRnd
import Derived.Test.YteekdhcffiaaaaaDoorKAnyG
import Derived.Test.YteekdhcffiaaaaaDoorPk38
import Derived.Test.YteekdhcffiaaaaaDoorPk3
namespace Go.Proofs.YteekdhcffiaaaaaDoor
open Go Go.RowKit Sh Leaf
open Go.Shelf
attribute [local go_sem] Oper.semAt_some

theorem clone_ownb (v : Value) (l : List B8) (Q : Nat → Prop) (w : World) (hr : Bytes w Q v l) (hl : l.length ≤ 1000000000) :
    Calls Tryd.prog 48 #[v] w fun e w' => ∃ v', e = .returned v' ∧ Own w' w.heap.size v' l ∧ Below w.heap.size w w' := by
  have hr' := hr
  obtain ⟨A, c, rfl, hc1, hc2, hc3, hc4⟩ := hr'
  have he := fun (W : World) => Lib.run_eql_slice_nil (P := Tryd.prog) W 39 5 A l.length c 0 0 Tryd.underlying39
  clear hc4
  cases A with
  | none =>
    have h0 := hc3 rfl
    have hy : l = [] := List.eq_nil_of_length_eq_zero (by omega)
    subst hy
    subst h0
    simp only [List.length_nil] at he ⊢
    clear hc3 hr
    go_enter Tryd.func48, Tryd.ntmps48
    go_wp2
    go_ret
    exact ⟨_, rfl, ⟨rfl, .inl ⟨rfl, rfl⟩⟩, Below.refl _ _⟩
  | some ad =>
    clear hc3
    go_enter Tryd.func48, Tryd.ntmps48
    go_wp2_with (at_builtin; refine wpList_append_bytes rfl _ _ rfl w.heap.size (.slice (some ⟨w.heap.size, 0, none⟩) 0 0) [] rfl (own_lit w w.heap.size [] (Nat.le_refl _) (by simp)) Q _ l rfl (hr.alloc _) (by simp; omega) (by simp) ?_; intro v' w' h1 h2)
    go_ret
    exact ⟨v', rfl, (by simpa using h1), ((Below.refl _ _).alloc (Nat.le_refl _) _).trans h2⟩

theorem stream_ (n : Nat) (x : Array Value) (A : Option Addr) (b c : Nat) (z : Int) (w : World) :
    CallsIn Fence.wide n Tryd.prog 78 #[.agg x, .slice A b c, .int .i64 z] w fun e w' => e = .returned (.func (.func 86) #[] #[.pointer (some ⟨w.heap.size + 1 + 1, 0, none⟩), .pointer (some ⟨w.heap.size + 1, 0, none⟩), .pointer (some ⟨w.heap.size, 0, none⟩)]) ∧
      w' = ((w.alloc (.cells x 28)).alloc (.cells #[.slice A b c] 39)).alloc (.cells #[.int .i64 z] 3) := by
  refine callsIn_of_wp Tryd.func78 rfl trivial ?_ rfl
  simp only [Tryd.ntmps78, List.size_toArray, List.length_cons, List.length_nil, Nat.reduceAdd, Nat.reduceSub, Array.replicate_succ, Array.replicate_zero, List.push_toArray, List.append_toArray, List.nil_append, List.cons_append]
  gi_wp2
  go_ret
  exact ⟨rfl, rfl⟩

def xat (f : Nat → List B8) (L : List B8) (k : Nat) : List B8 := L.mapIdx fun i x => if i / 32 = k then x ^^^ (f k).getD (i % 32) 0 else x
def xall (f : Nat → List B8) (m : List B8) (pre : List Nat) : List B8 := pre.foldl (xat f) m
theorem xat_length (f : Nat → List B8) (L : List B8) (k : Nat) : (xat f L k).length = L.length := by unfold xat; simp
theorem xall_length (f : Nat → List B8) (m : List B8) (pre : List Nat) : (xall f m pre).length = m.length := by
  unfold xall
  induction pre generalizing m with
  | nil => rfl
  | cons k t ih => rw [List.foldl_cons, ih, xat_length]
theorem xall_snoc (f : Nat → List B8) (m : List B8) (pre : List Nat) (k : Nat) : xall f m (pre ++ [k]) = xat f (xall f m pre) k := by unfold xall; rw [List.foldl_append]; rfl
theorem xall_range (f : Nat → List B8) (m : List B8) (j : Nat) : xall f m (List.range j) = m.mapIdx fun i x => if i / 32 < j then x ^^^ (f (i / 32)).getD (i % 32) 0 else x := by
  induction j with
  | zero =>
    refine List.ext_getElem? fun i => ?_
    rw [List.getElem?_mapIdx]
    unfold xall
    cases h : m[i]? <;> simp [h]
  | succ j ih =>
    rw [List.range_succ, xall_snoc, ih]
    unfold xat
    refine List.ext_getElem? fun i => ?_
    rw [List.getElem?_mapIdx, List.getElem?_mapIdx, List.getElem?_mapIdx]
    cases m[i]? with
    | none => rfl
    | some x =>
      simp only [Option.map_some]
      congr 1
      by_cases e : i / 32 = j
      · rw [if_pos e, if_neg (by omega), if_pos (by omega), e]
      · rw [if_neg e]
        by_cases q : i / 32 < j
        · rw [if_pos q, if_pos (by omega)]
        · rw [if_neg q, if_neg (by omega)]
def xpt (f : Nat → List B8) (L : List B8) (k j : Nat) : List B8 := L.mapIdx fun i x => if i / 32 = k ∧ i % 32 < j then x ^^^ (f k).getD (i % 32) 0 else x
theorem xpt_length (f : Nat → List B8) (L : List B8) (k j : Nat) : (xpt f L k j).length = L.length := by unfold xpt; simp
theorem xpt_zero (f : Nat → List B8) (L : List B8) (k : Nat) : xpt f L k 0 = L := by
  unfold xpt
  refine List.ext_getElem? fun i => ?_
  rw [List.getElem?_mapIdx]
  cases L[i]? <;> simp
theorem xpt_all (f : Nat → List B8) (L : List B8) (k j : Nat) (h : 32 ≤ j ∨ L.length ≤ k * 32 + j) : xpt f L k j = xat f L k := by
  unfold xpt xat
  refine List.ext_getElem? fun i => ?_
  rw [List.getElem?_mapIdx, List.getElem?_mapIdx]
  cases hi : L[i]? with
  | none => rfl
  | some x =>
    have := (List.getElem?_eq_some_iff.1 hi).1
    simp only [Option.map_some]
    congr 1
    by_cases e : i / 32 = k
    · rw [if_pos ⟨e, by omega⟩, if_pos e]
    · rw [if_neg (fun q => e q.1), if_neg e]
theorem xpt_set (f : Nat → List B8) (L : List B8) (k j : Nat) (hj : j < 32) (hl : k * 32 + j < L.length) : (xpt f L k j).set (k * 32 + j) (L.getD (k * 32 + j) 0 ^^^ (f k).getD j 0) = xpt f L k (j + 1) := by
  refine List.ext_getElem? fun i => ?_
  rw [List.getElem?_set, xpt_length]
  unfold xpt
  rw [List.getElem?_mapIdx, List.getElem?_mapIdx]
  by_cases e : k * 32 + j = i
  · subst e
    rw [if_pos rfl, if_pos hl, List.getElem?_eq_getElem hl]
    simp only [Option.map_some]
    rw [if_pos ⟨by omega, by omega⟩, show (k * 32 + j) % 32 = j by omega, List.getD_eq_getElem?_getD, List.getElem?_eq_getElem hl]
    rfl
  · rw [if_neg e]
    cases L[i]? with
    | none => rfl
    | some x =>
      simp only [Option.map_some]
      congr 1
      by_cases q : i / 32 = k ∧ i % 32 < j
      · rw [if_pos q, if_pos ⟨q.1, by omega⟩]
      · rw [if_neg q, if_neg (fun r => q ⟨r.1, by omega⟩)]
theorem xpt_get (f : Nat → List B8) (L : List B8) (k j : Nat) (_ : j < 32) : (xpt f L k j).getD (k * 32 + j) 0 = L.getD (k * 32 + j) 0 := by
  unfold xpt
  rw [List.getD_eq_getElem?_getD, List.getD_eq_getElem?_getD, List.getElem?_mapIdx]
  cases L[k * 32 + j]? with
  | none => rfl
  | some x =>
    simp only [Option.map_some, Option.getD_some]
    rw [if_neg (fun q => by omega)]
theorem xall_strm (K N m : List B8) (k : Nat) (hN : N.length = 8) (hk : m.length ≤ k * 32) : xall (sblk K N) m (List.range k) = strm K (beval N) m := by
  rw [xall_range]
  unfold strm
  refine List.ext_getElem? fun i => ?_
  rw [List.getElem?_mapIdx, List.getElem?_mapIdx]
  cases hi : m[i]? with
  | none => rfl
  | some x =>
    have := (List.getElem?_eq_some_iff.1 hi).1
    simp only [Option.map_some]
    rw [if_pos (by omega)]
    have e : sblk K N (i / 32) = hmac K (strw ++ (be8 (beval N) ++ be8 (i / 32))) := by rw [be8_beval _ hN, ← List.append_assoc]; unfold sblk; rfl
    unfold kstr
    rw [e]
theorem tables_keep {w W : World} (h : Tables w) (hk : ∀ g, g < w.heap.size → W.heap[g]? = w.heap[g]?) : Tables W :=
  ⟨fun j hj => (World.cell?_of_block (hk _ h.1.lt)).trans (h.1 j hj), fun j hj => (World.cell?_of_block (hk _ h.lt)).trans (h.2 j hj)⟩
def CRow (W : World) (g0 cap : Nat) (L : List B8) : Prop := 0 < L.length → ∃ cur, W.heap[g0]? = some (.cells cur 5 (0, 0)) ∧ cur.size = cap ∧ L.length ≤ cap ∧ cur.toList.take L.length = L.map byt
theorem own_crow {W : World} {base : Nat} {v : Value} {l : List B8} (h : Own W base v l) (hb : base ≤ W.heap.size) : ∃ A0 cap g0, v = .slice A0 l.length cap ∧ (0 < l.length → A0 = some ⟨g0, 0, none⟩ ∧ g0 < W.heap.size) ∧ base ≤ g0 ∧ (g0 < W.heap.size ∨ g0 = W.heap.size + 100) ∧ CRow W g0 cap l ∧ cap ≤ maxLen ∧ l.length ≤ cap ∧ (A0 = none → cap = 0) := by
  obtain ⟨-, h | ⟨g, cap, cur, rfl, hg, hh, h1, h2, h3, h4⟩⟩ := h
  · obtain ⟨rfl, h0⟩ := h
    exact ⟨none, 0, W.heap.size + 100, by rw [h0], fun h => by omega, by omega, .inr rfl, fun h => by omega, by unfold maxLen; omega, by omega, fun _ => rfl⟩
  · have hlt := (Array.getElem?_eq_some_iff.1 hh).1
    exact ⟨some ⟨g, 0, none⟩, cap, g, rfl, fun _ => ⟨rfl, hlt⟩, hg, .inl hlt, fun _ => ⟨cur, hh, by simpa using h3, h1, by simpa using h4⟩, h2, h1, nofun⟩
theorem bytes_crow {W : World} {g0 cap : Nat} {A0 : Option Addr} {L : List B8} (h : CRow W g0 cap L) (hA : 0 < L.length → A0 = some ⟨g0, 0, none⟩) (h1 : cap ≤ maxLen) (h2 : L.length ≤ cap) (h3 : A0 = none → cap = 0) : Bytes W (fun g => g = g0 ∧ 0 < L.length) (.slice A0 L.length cap) L := by
  refine ⟨A0, cap, rfl, h2, h1, h3, fun h0 => ⟨g0, 0, hA h0, ⟨rfl, h0⟩, fun j x hj => ?_⟩⟩
  obtain ⟨cur, hh, hs, -, ht⟩ := h h0
  have hjl := (List.getElem?_eq_some_iff.1 hj).1
  have e : (cur.toList.take L.length)[j]? = some (byt x) := by rw [ht, List.getElem?_map, hj]; rfl
  rw [List.getElem?_take_of_lt hjl, Array.getElem?_toList] at e
  unfold World.cell?
  simp only [hh, Nat.zero_add]
  simpa using e
theorem crow_set {W : World} {g0 cap : Nat} {L : List B8} (h : CRow W g0 cap L) (j : Nat) (x : B8) : CRow (W.setCell ⟨g0, j, none⟩ (byt x)) g0 cap (L.set j x) := by
  intro h0
  rw [List.length_set] at h0
  obtain ⟨cur, hh, hs, h1, ht⟩ := h h0
  refine ⟨cur.setIfInBounds j (byt x), ?_, by simpa using hs, by simpa using h1, ?_⟩
  · have hlt := (Array.getElem?_eq_some_iff.1 hh).1
    have he := (Array.getElem?_eq_some_iff.1 hh).2
    simp [World.setCell, Array.getElem?_modify, hh]
  · rw [List.length_set, Array.toList_setIfInBounds, List.take_set, ht, List.map_set]
theorem crow_keep {W W' : World} {g0 cap : Nat} {L : List B8} (h : CRow W g0 cap L) (hk : 0 < L.length → W'.heap[g0]? = W.heap[g0]?) : CRow W' g0 cap L := fun h0 => by
  obtain ⟨cur, hh, r⟩ := h h0
  exact ⟨cur, (hk h0).trans hh, r⟩

theorem crow_cell {W : World} {g0 cap : Nat} {L : List B8} (h : CRow W g0 cap L) (i : Nat) (hi : i < L.length) : W.cell? ⟨g0, i, none⟩ = some (byt (L.getD i 0)) ∧ W.frozen? ⟨g0, i, none⟩ = false := by
  obtain ⟨cur, hh, hs, h1, ht⟩ := h (by omega)
  have e : (cur.toList.take L.length)[i]? = some (byt (L.getD i 0)) := by rw [ht, List.getElem?_map, List.getD_eq_getElem?_getD, List.getElem?_eq_getElem hi]; rfl
  rw [List.getElem?_take_of_lt hi, Array.getElem?_toList] at e
  refine ⟨?_, ?_⟩
  · unfold World.cell?
    simp only [hh]
    simpa using e
  · unfold World.frozen?
    simp [hh]
theorem tag_cell {W : World} {G : Nat} {E : List B8} (h : TGRow W G E) (j : Nat) (hj : j < E.length) : W.cell? ⟨G, j, none⟩ = some (byt (E.getD j 0)) := by
  have := Whole.cell h j
  rw [this, List.getElem?_toArray, List.getElem?_map, List.getD_eq_getElem?_getD, List.getElem?_eq_getElem hj]
  rfl
theorem region_round_G {P : Program} {ops : Array Oper} {l n : Nat} (C B : World → Prop) (ks : List Nat) {id : Nat} {Q : Exit → Act → World → Prop} {a : Act} {w : World} (hm : P.follows .mixedOrders = true) (hnd : noDefer ops = true)
    (h : AnyG P .any ops (OnlyN (Q .normal)) C B ks ops.size (Array.replicate ops.size false) a w.drew) : (Code.region id ops true).wpIn (Fence.wide.inRound l) n P Q a w :=
  wpIn_region_any hm (any_round hnd _ _ _ _ (wpAny_of_G (C := C) (B := B) (ks := ks) _ _ _ _ (fun k _ hl => by rw [getD_replicate_false] at hl; cases hl) h))
def OneBlk (g0 : Nat) (V W : World) : Prop := W.os = V.os ∧ W.tape = V.tape ∧ W.output = V.output ∧ W.heap.size = V.heap.size ∧ ∀ g, g ≠ g0 → W.heap[g]? = V.heap[g]?
theorem OneBlk.refl (g0 : Nat) (V : World) : OneBlk g0 V V := ⟨rfl, rfl, rfl, rfl, fun _ _ => rfl⟩
theorem OneBlk.cell {g0 : Nat} {V W : World} (h : OneBlk g0 V W) {p : Addr} (hp : p.block ≠ g0) : W.cell? p = V.cell? p := World.cell?_of_block (h.2.2.2.2 _ hp)
theorem OneBlk.set {g0 : Nat} {V W : World} (h : OneBlk g0 V W) (j : Nat) (v : Value) : OneBlk g0 V (W.drew.setCell ⟨g0, j, none⟩ v) :=
  ⟨h.1, h.2.1, h.2.2.1, by simpa using h.2.2.2.1, fun g hg => (heap_setCell_other W.drew ⟨g0, j, none⟩ g v hg).trans (h.2.2.2.2 g hg)⟩
def combI (w : World) (q g0 : Nat) (A0 : Option Addr) (cap : Nat) (f : Nat → List B8) (m : List B8) (pre : List Nat) (W : World) : Prop :=
  CRow W g0 cap (xall f m pre) ∧ Below w.heap.size w W ∧ Boxed W q 39 (.slice A0 m.length cap) ∧ q + 4 ≤ W.heap.size
def combP (f : Nat → List B8) (mk : Nat → Nat → Act) (x : Nat) (a : Act) (W : World) : Prop := ∃ G, a = mk x G ∧ TGRow W G (f x)
set_option linter.unusedSimpArgs false in
set_option linter.unusedVariables false in
set_option maxRecDepth 100000 in
set_option maxHeartbeats 4000000 in
theorem combok : CombOk := by
  intro w Q Q2 K N m A B c d hK hN hNb hm hml hT
  rw [hN] at hNb ⊢
  obtain ⟨p, hp⟩ : ∃ p, p = w.alloc (.cells (K.map byt).toArray 28) := ⟨_, rfl⟩
  have hk : TGRow p w.heap.size K := by rw [hp]; exact Whole.here _ _ _
  have hb : Below w.heap.size w p := by rw [hp]; exact (Below.refl _ _).alloc (Nat.le_refl _) _
  have hsp : w.heap.size + 1 ≤ p.heap.size := by rw [hp]; simp
  have hcl := clone_ownb (.slice B m.length d) m _ p (hm.below hb (Nat.le_refl _)) (by omega)
  have hNp := hNb.below hb (Nat.le_refl _)
  have HT := Lib.hid hT
  have HM := Lib.hid hm
  have HNb := Lib.hid hNb
  have HK := Lib.hid hk
  have HB := Lib.hid hb
  clear hT hm hNb hk hb hNp
  refine (callsIn_wide (n := 3)).1 ?_
  refine callsIn_of_wp_marks Tryd.func67 rfl trivial ?_ rfl
  simp only [Tryd.ntmps67, List.size_toArray, List.length_cons, List.length_nil, Nat.reduceAdd, Nat.reduceSub, Array.replicate_succ, Array.replicate_zero, List.push_toArray, List.append_toArray, List.nil_append, List.cons_append]
  refine wpIn_wide.2 ?_
  go_wp2_with fail
  rw [← hp]
  refine hcl.mono ?_
  rintro e w1 ⟨v1, rfl, ho, hb1⟩
  clear hcl
  have hs1 : p.heap.size ≤ w1.heap.size := hb1.size
  obtain ⟨A0, cap, g0, rfl, hA0, hg0, hg1, hcr, hcm, hcl, hcn⟩ := own_crow ho hs1
  have HB1 := Lib.hid hb1
  have HG := Lib.hid (And.intro hA0 (And.intro hg0 (And.intro hg1 (And.intro hcm (And.intro hcl hcn)))))
  have HCR := Lib.hid hcr
  clear ho hb1 hA0 hg0 hg1 hcr hcm hcl hcn hp
  have hkr := Whole.below HK.out HB1.out (Whole.lt HK.out)
  have hcs := fun W => (callsIn_wide (n := 3)).1 (stream_ 3 (K.map byt).toArray A 8 c (m.length : Int) W)
  go_upto_region 2 with fail
  obtain ⟨q, hq⟩ : ∃ q, q = w1.heap.size := ⟨_, rfl⟩
  obtain ⟨p2, hp2⟩ : ∃ x, x = w1.alloc (.cells #[.slice A0 m.length cap] 39) := ⟨_, rfl⟩
  have hb2 : Below w1.heap.size w1 p2 := by rw [hp2]; exact (Below.refl _ _).alloc (Nat.le_refl _) _
  have hx2 : Boxed p2 q 39 (.slice A0 m.length cap) := by rw [hp2, hq]; exact Boxed.new _ _ _
  have hs2 : p2.heap.size = q + 1 := by rw [hp2, hq]; simp
  have hkr2 := Whole.below hkr hb2 (Whole.lt hkr)
  rw [← hp2, ← hq]
  have HQ := Lib.hid hq
  have HB2 := Lib.hid hb2
  have HX2 := Lib.hid hx2
  clear hp2 hkr hq hb2 hx2
  go_wp2_with (with_reducible refine wpList_load_tag rfl _ rfl rfl hkr2 (tag_size hK) ?_)
  refine (hcs p2).mono ?_
  rintro e W0 ⟨rfl, hW0⟩
  clear hcs
  rw [hs2]
  have hbW : Below p2.heap.size p2 W0 := by rw [hW0]; exact (((Below.refl _ _).alloc (Nat.le_refl _) _).alloc (by simp) _).alloc (by simp; omega) _
  have hsW : W0.heap.size = q + 4 := by rw [hW0]; simp [hs2]
  have hW1 : TGRow W0 (q + 1) K := by rw [hW0, ← hs2]; exact ((Whole.here _ _ _).alloc _).alloc _
  have hW2 : W0.cell? ⟨q + 1 + 1, 0, none⟩ = some (.slice A 8 c) := by
    have : Whole W0 (q + 1 + 1) 39 #[.slice A 8 c] := by rw [hW0]; exact (Whole.at_ _ _ _ _ (by simp [hs2])).alloc _
    exact this.cell 0
  have hW3 : W0.cell? ⟨q + 1 + 1 + 1, 0, none⟩ = some (.int .i64 (m.length : Int)) := by
    have : Whole W0 (q + 1 + 1 + 1) 3 #[.int .i64 (m.length : Int)] := by rw [hW0]; exact Whole.at_ _ _ _ _ (by simp [hs2])
    exact this.cell 0
  clear hW0
  have hbWw : Below w.heap.size w W0 := HB.out.trans ((HB1.out.mono (by omega)).trans ((HB2.out.mono (by omega)).trans (hbW.mono (by have := HQ.out; omega))))
  have hxW : Boxed W0 q 39 (.slice A0 m.length cap) := (hbW.block q (by omega)).trans HX2.out
  have hcW : CRow W0 g0 cap m := crow_keep HCR.out fun h0 => by
    have := (HG.out.1 h0).2
    exact (hbW.block g0 (by have := HQ.out; omega)).trans (HB2.out.block g0 (by omega))
  have hgq : g0 ≠ q ∧ g0 ≠ q + 1 ∧ g0 ≠ q + 1 + 1 ∧ g0 ≠ q + 1 + 1 + 1 ∧ w.heap.size < g0 := by
    have h1 := HG.out.2.1
    have h2 := HG.out.2.2.1
    have := HQ.out
    omega
  have hqw : w.heap.size < q := by have := HQ.out; omega
  have hbn0 : Bytes W0 (fun g => g < w.heap.size) (.slice A 8 c) N := (HNb.out.mono (Q' := fun g => g < w.heap.size) fun g hg _ => hg).below hbWw (Nat.le_refl _)
  have HC := Lib.hid hcW
  have HBW := Lib.hid hbWw
  have HXW := Lib.hid hxW
  have HBN := Lib.hid hbn0
  have HW1 := Lib.hid hW1
  have HW2 := Lib.hid hW2
  have HW3 := Lib.hid hW3
  clear hcW hbWw hxW hbn0 hW1 hW2 hW3 hbW hkr2
  go_wp2_with fail
  obtain ⟨mk, hmk⟩ : ∃ mk : Nat → Nat → Act, mk = fun x G => { tmps := #[.agg (K.map byt).toArray, .slice A 8 c, .slice B m.length d, .pointer (some ⟨w.heap.size, 0, none⟩), undef, undef, .slice none 0 0, .pointer (some ⟨q, 0, none⟩), .int .i64 ((x : Int) * 32), .pointer (some ⟨G, 0, none⟩), undef, .slice B m.length d, .slice A0 m.length cap, .agg (K.map byt).toArray, .slice A 8 c, .slice B m.length d, .int .i64 (m.length : Int), .func (.func 86) #[] #[.pointer (some ⟨q + 1 + 1 + 1, 0, none⟩), .pointer (some ⟨q + 1 + 1, 0, none⟩), .pointer (some ⟨q + 1, 0, none⟩)], .int .i64 ((x : Int) * 32), tagv (sblk K N x), undef, undef, undef, undef, undef, undef, undef, undef, undef, undef, undef, undef, undef, undef, undef, undef, undef, undef, undef, undef, undef], defers := [] } := ⟨_, rfl⟩
  refine (wpIn_wide (n := 3)).1 ?_
  refine wpIn_range_made (by omega) (gf := 86) (lb := #[.pointer (some ⟨q + 1 + 1 + 1, 0, none⟩), .pointer (some ⟨q + 1 + 1, 0, none⟩), .pointer (some ⟨q + 1, 0, none⟩)]) rfl (enters_of Tryd.func86 (by kernel_rfl) rfl) (encs := senc K N) (fun _ => rfl) (Mx := fun x _ => x * 32 < m.length) (Kp := KpB (q + 4) g0) (S := sdone m.length) (Sp := fun _ => True) (N := m.length + 1)
    (fun l J Jx W hW gJ _ hY h0 => ?it) (fun _ _ _ => KpB.trans) (fun W l o o' hl ho hc => ⟨by simp, fun g a b => World.putObj_heap_other (by omega)⟩)
    (fun _ _ _ _ _ h _ _ _ => h) (combI w q g0 A0 cap (sblk K N) m) (fun _ _ => False) ?hI (fun _ _ _ _ _ h _ _ _ => h) ?gI (fun _ _ _ h _ => h) ?h0
    (combP (sblk K N) mk) ?hPa (fun _ _ _ h _ => h) (fun W W' h hb => KpB.below hb (by omega)) ?assign ?body ?done ?stop
  case it =>
    have hBW := HBW.out.trans (hW.mono (by omega))
    have hsz := hW.size
    exact stream1 2 (by omega) l (q + 1 + 1 + 1) (q + 1 + 1) (q + 1) (q + 4) g0 m.length A c K N hK hN hml J Jx gJ hY W (by omega) ⟨by omega, by omega⟩ ⟨by omega, by omega⟩ ⟨by omega, by omega⟩
      ((hW.cell (p := ⟨q + 1 + 1 + 1, 0, none⟩) (by show q + 1 + 1 + 1 < W0.heap.size; omega)).trans HW3.out) ((hW.cell (p := ⟨q + 1 + 1, 0, none⟩) (by show q + 1 + 1 < W0.heap.size; omega)).trans HW2.out) (Whole.below HW1.out hW (by omega))
      ((HBN.out.below hW (Nat.le_refl _)).mono fun g _ hg => ⟨by have : g < w.heap.size := hg; omega, by have : g < w.heap.size := hg; omega⟩)
      (fun W' hk => tables_keep HT.out fun g hg => (hk.2 g (by omega) (by omega)).trans (hBW.block g hg)) h0
  case hI =>
    rintro s V l o o' ⟨h1, h2, h3, h4⟩ hl ho hc
    refine ⟨crow_keep h1 fun h0 => World.putObj_heap_other ?_, h2.trans ⟨rfl, rfl, rfl, by simp, fun k hk => World.putObj_heap_other (by have := HBW.out.size; omega)⟩, (World.putObj_heap_other (by omega)).trans h3, by simpa using h4⟩
    have := (HG.out.1 (by rwa [xall_length] at h0)).2
    have := HQ.out
    omega
  case gI =>
    rintro s V V' ⟨h1, h2, h3, h4⟩ hb
    refine ⟨crow_keep h1 fun h0 => hb.block g0 ?_, h2.trans (hb.mono h2.size), (hb.block q (by omega)).trans h3, Nat.le_trans h4 hb.size⟩
    have := (HG.out.1 (by rwa [xall_length] at h0)).2
    have := HQ.out
    omega
  case h0 => exact ⟨HC.out, HBW.out, HXW.out, by omega⟩
  case hPa =>
    rintro x a' V l o o' ⟨G, h1, h2⟩ hl ho hc
    refine ⟨G, h1, (World.putObj_heap_other fun e => ?_).trans h2⟩
    subst e
    rw [show V.heap[G]? = _ from h2] at ho
    cases ho
    cases hc
  case assign =>
    intro l x W K1 hK1
    simp only [senc]
    refine wpIn_seq ?_
    refine region_round_lit (by kernel_rfl) ?_
    go_wp2_with fail
    obtain ⟨E, hE⟩ : ∃ E, E = sblk K N x := ⟨_, rfl⟩
    have hlE : E.length = 32 := by rw [hE]; exact sblk_length _ _ _
    have HE := Lib.hid hE
    rw [← hE]
    clear hE
    show (Code.region 4 _ false).wpIn (Fence.wide.inRound l) 1 Tryd.prog (Exit.then K1 fun _ _ _ => False) _ W
    refine region_round_lit (by kernel_rfl) ?_
    go_wp2_with (with_reducible refine wpList_store_tag rfl _ _ rfl (g := W.heap.size) rfl rfl (Whole.here W _ _) rfl (tag_size hlE) (tag_one _) ?_)
    rw [ztr_lit]
    refine hK1 _ _ (below_setRow ((Below.refl _ _).alloc (Nat.le_refl _) _) (Nat.le_refl _) _) ⟨W.heap.size, ?_, ?_⟩
    · rw [hmk, HE.out]
    · rw [← HE.out]; exact Whole.setRow (Whole.here _ _ _) _
  case body =>
    rintro l pre x a' V ⟨hc, hbV, hxV, hsV⟩ hx ⟨G, rfl, hrT⟩ -
    rw [hmk]
    dsimp only
    have h0 : 0 < m.length := by omega
    obtain ⟨hA0, hg0⟩ := HG.out.1 h0
    have hGg : G ≠ g0 := by
      rintro rfl
      obtain ⟨cur, hh, -⟩ := hc (by rw [xall_length]; exact h0)
      rw [show V.heap[G]? = _ from hrT] at hh
      injection hh with hh
      injection hh with _ ht
      exact tag_ne_u8 ht
    obtain ⟨L, hL⟩ : ∃ L, L = xall (sblk K N) m pre := ⟨_, rfl⟩
    have hLl : L.length = m.length := by rw [hL, xall_length]
    rw [← hL] at hc
    have hqc := hxV.cell
    have hqf := hxV.frozen
    obtain ⟨t, hmn, ht1, ht2, ht3⟩ : ∃ t : Nat, min ((m.length : Int) - (x : Int) * 32) 32 = (t : Int) ∧ t ≤ 32 ∧ x * 32 + t ≤ m.length ∧ (32 ≤ t ∨ m.length ≤ x * 32 + t) := ⟨min (m.length - x * 32) 32, by omega, by omega, by omega, by omega⟩
    have HCV := Lib.hid hc
    have HBV := Lib.hid hbV
    have HXV := Lib.hid hxV
    have HLL := Lib.hid hL
    have HT3 := Lib.hid ht3
    clear hc hbV hL ht3
    gi_wp2
    gi_loopw [25] (fun vi wr => ∃ j : Nat, vi = .int .i64 (j : Int) ∧ j ≤ t ∧ CRow wr g0 cap (xpt (sblk K N) L x j) ∧ OneBlk g0 V wr) (fun vi _ => t - (intOf vi).toNat)
    case atStart => exact ⟨0, rfl, by omega, by rw [xpt_zero]; exact HCV.out, OneBlk.refl _ _⟩
    case round =>
      obtain ⟨j, rfl, hj, hcj, hob⟩ := hrel
      have HCJ := Lib.hid hcj
      have HOB := Lib.hid hob
      have hqc := (hob.cell (p := ⟨q, 0, none⟩) (fun e => hgq.1 e.symm)).trans hqc
      have hqf : wr.frozen? ⟨q, 0, none⟩ = false := Boxed.frozen ((hob.2.2.2.2 q (fun e => hgq.1 e.symm)).trans HXV.out)
      clear hcj hob
      by_cases hlt : j < t
      · obtain ⟨i, hi⟩ : ∃ i : Nat, i = x * 32 + j := ⟨_, rfl⟩
        have hix : (x : Int) * 32 + (j : Int) = (i : Int) := by omega
        have hil : i < m.length := by omega
        have hi0 : (0 : Int) ≤ (i : Int) := by omega
        have hil2 : (i : Int) < (m.length : Int) := by omega
        have hj0 : (0 : Int) ≤ (j : Int) := by omega
        have hj32 : (j : Int) < 32 := by omega
        obtain ⟨X, hX⟩ : ∃ X, X = L.getD i 0 := ⟨_, rfl⟩
        obtain ⟨Y, hY⟩ : ∃ Y, Y = (sblk K N x).getD j 0 := ⟨_, rfl⟩
        obtain ⟨hcx, hcf⟩ := crow_cell HCJ.out i (by rw [xpt_length]; omega)
        rw [hi, xpt_get _ _ _ _ (by omega), ← hi, ← hX] at hcx
        have hcy : wr.cell? ⟨G, j, none⟩ = some (byt Y) := by
          rw [hY]
          exact (HOB.out.cell (p := ⟨G, j, none⟩) hGg).trans (tag_cell hrT j (by rw [sblk_length]; omega))
        have hxor := bits_xor_bv X Y
        have hwi : IntKind.i64.wrap (i : Int) = (i : Int) := by rw [IntKind.wrap_i64]; omega
        have HF : Hid (CRow (wr.drew.setCell ⟨g0, i, none⟩ (byt (X ^^^ Y))) g0 cap (xpt (sblk K N) L x (j + 1)) ∧ OneBlk g0 V (wr.drew.setCell ⟨g0, i, none⟩ (byt (X ^^^ Y)))) := Lib.hid ⟨by
          have := crow_set (crow_keep (W' := wr.drew) HCJ.out fun _ => rfl) i (X ^^^ Y)
          rw [hX, hY, hi, xpt_set _ _ _ _ (by omega) (by omega)] at this
          rw [hX, hY, hi]; exact this, HOB.out.set i _⟩
        clear hX hY hi
        gi_wp2_with fail
        refine region_round_G (fun W : World => (W.cell? ⟨q, 0, none⟩ = some (.slice (some ⟨g0, 0, none⟩) m.length cap)) ∧ (W.cell? ⟨g0, i, none⟩ = some (byt X)) ∧ W.cell? ⟨G, j, none⟩ = some (byt Y)) (fun _ => True) [11] (by kernel_rfl) (by kernel_rfl) ?_
        have hHeld : (fun W : World => (W.cell? ⟨q, 0, none⟩ = some (.slice (some ⟨g0, 0, none⟩) m.length cap)) ∧ (W.cell? ⟨g0, i, none⟩ = some (byt X)) ∧ W.cell? ⟨G, j, none⟩ = some (byt Y)) wr.drew := ⟨by rw [← hA0]; exact hqc, hcx, hcy⟩
        apply AnyG_take (i := 0) rfl (by kernel_rfl) (by kernel_rfl) (by kernel_rfl) (by kernel_rfl)
        case hQ => exact fun _ _ _ h => h
        case hB => exact trivial
        case hC => exact hHeld
        case hy => (refine Or.inl ⟨by rfl, ?_⟩; intro w hSw; (try go_split_ands); go_simp; (try with_reducible rfl))
        (try simp only [List.getElem_toArray, List.getElem_cons_zero, Act.put, List.setIfInBounds_toArray, List.set_cons_zero, List.set_cons_succ])
        apply AnyG_pure (i := 1) rfl (by kernel_rfl) (by kernel_rfl) (by kernel_rfl) (by kernel_rfl)
        case hQ => exact fun _ _ _ h => h
        case hB => exact trivial
        case hC => exact .inr hHeld
        case hy => (refine Or.inl ⟨by rfl, ?_⟩; intro w hSw; (try go_split_ands); go_simp; (try with_reducible rfl))
        (try simp only [List.getElem_toArray, List.getElem_cons_succ, List.getElem_cons_zero, Act.put, List.setIfInBounds_toArray, List.set_cons_zero, List.set_cons_succ])
        apply AnyG_pure (i := 2) rfl (by kernel_rfl) (by kernel_rfl) (by kernel_rfl) (by kernel_rfl)
        case hQ => exact fun _ _ _ h => h
        case hB => exact trivial
        case hC => exact .inr hHeld
        case hy => (refine Or.inl ⟨by rfl, ?_⟩; intro w hSw; (try go_split_ands); go_simp; (try with_reducible rfl))
        (try simp only [List.getElem_toArray, List.getElem_cons_succ, List.getElem_cons_zero, Act.put, List.setIfInBounds_toArray, List.set_cons_zero, List.set_cons_succ])
        apply AnyG_pure (i := 3) rfl (by kernel_rfl) (by kernel_rfl) (by kernel_rfl) (by kernel_rfl)
        case hQ => exact fun _ _ _ h => h
        case hB => exact trivial
        case hC => exact .inr hHeld
        case hy => (refine Or.inl ⟨by rfl, ?_⟩; intro w hSw; (try go_split_ands); go_simp; (try with_reducible rfl))
        (try simp only [List.getElem_toArray, List.getElem_cons_succ, List.getElem_cons_zero, Act.put, List.setIfInBounds_toArray, List.set_cons_zero, List.set_cons_succ])
        apply AnyG_pure (i := 4) rfl (by kernel_rfl) (by kernel_rfl) (by kernel_rfl) (by kernel_rfl)
        case hQ => exact fun _ _ _ h => h
        case hB => exact trivial
        case hC => exact .inr hHeld
        case hy => (refine Or.inl ⟨by rfl, ?_⟩; intro w hSw; (try go_split_ands); go_simp; (try with_reducible rfl))
        (try simp only [List.getElem_toArray, List.getElem_cons_succ, List.getElem_cons_zero, Act.put, List.setIfInBounds_toArray, List.set_cons_zero, List.set_cons_succ])
        apply AnyG_take (i := 5) rfl (by kernel_rfl) (by kernel_rfl) (by kernel_rfl) (by kernel_rfl)
        case hQ => exact fun _ _ _ h => h
        case hB => exact trivial
        case hC => exact hHeld
        case hy => (refine Or.inl ⟨by rfl, ?_⟩; intro w hSw; (try go_split_ands); go_simp; (try with_reducible rfl))
        (try simp only [List.getElem_toArray, List.getElem_cons_succ, List.getElem_cons_zero, Act.put, List.setIfInBounds_toArray, List.set_cons_zero, List.set_cons_succ])
        apply AnyG_pure (i := 6) rfl (by kernel_rfl) (by kernel_rfl) (by kernel_rfl) (by kernel_rfl)
        case hQ => exact fun _ _ _ h => h
        case hB => exact trivial
        case hC => exact .inr hHeld
        case hy => (refine Or.inl ⟨by rfl, ?_⟩; intro w hSw; (try go_split_ands); go_simp; (try with_reducible rfl))
        (try simp only [List.getElem_toArray, List.getElem_cons_succ, List.getElem_cons_zero, Act.put, List.setIfInBounds_toArray, List.set_cons_zero, List.set_cons_succ])
        apply AnyG_pure (i := 7) rfl (by kernel_rfl) (by kernel_rfl) (by kernel_rfl) (by kernel_rfl)
        case hQ => exact fun _ _ _ h => h
        case hB => exact trivial
        case hC => exact .inr hHeld
        case hy => (refine Or.inl ⟨by rfl, ?_⟩; intro w hSw; (try go_split_ands); go_simp; (try with_reducible rfl))
        (try simp only [List.getElem_toArray, List.getElem_cons_succ, List.getElem_cons_zero, Act.put, List.setIfInBounds_toArray, List.set_cons_zero, List.set_cons_succ])
        apply AnyG_take (i := 8) rfl (by kernel_rfl) (by kernel_rfl) (by kernel_rfl) (by kernel_rfl)
        case hQ => exact fun _ _ _ h => h
        case hB => exact trivial
        case hC => exact hHeld
        case hy => (refine Or.inl ⟨by rfl, ?_⟩; intro w hSw; (try go_split_ands); go_simp; (try with_reducible rfl))
        (try simp only [List.getElem_toArray, List.getElem_cons_succ, List.getElem_cons_zero, Act.put, List.setIfInBounds_toArray, List.set_cons_zero, List.set_cons_succ])
        apply AnyG_pure (i := 9) rfl (by kernel_rfl) (by kernel_rfl) (by kernel_rfl) (by kernel_rfl)
        case hQ => exact fun _ _ _ h => h
        case hB => exact trivial
        case hC => exact .inr hHeld
        case hy => (refine Or.inl ⟨by rfl, ?_⟩; intro w hSw; (try go_split_ands); go_simp; (try with_reducible rfl))
        (try simp only [List.getElem_toArray, List.getElem_cons_succ, List.getElem_cons_zero, Act.put, List.setIfInBounds_toArray, List.set_cons_zero, List.set_cons_succ])
        apply AnyG_pure (i := 10) rfl (by kernel_rfl) (by kernel_rfl) (by kernel_rfl) (by kernel_rfl)
        case hQ => exact fun _ _ _ h => h
        case hB => exact trivial
        case hC => exact .inr hHeld
        case hy => (refine Or.inl ⟨by rfl, ?_⟩; intro w hSw; (try go_split_ands); go_simp; (try with_reducible rfl))
        (try simp only [List.getElem_toArray, List.getElem_cons_succ, List.getElem_cons_zero, Act.put, List.setIfInBounds_toArray, List.set_cons_zero, List.set_cons_succ])
        refine AnyG_one (i := 11) (by kernel_rfl) rfl (fun KK hKK => ?_)
        (try simp only [List.getElem_toArray, List.getElem_cons_succ, List.getElem_cons_zero])
        go_simp
        change KK _ (wr.drew.setCell ⟨g0, i, none⟩ (byt (X ^^^ Y)))
        obtain ⟨W5, hW5⟩ : ∃ x, x = wr.drew.setCell ⟨g0, i, none⟩ (byt (X ^^^ Y)) := ⟨_, rfl⟩
        rw [← hW5] at HF ⊢
        clear hW5
        refine hKK.out _ _ (.inl (by kernel_rfl)) trivial ?_
        clear hKK KK
        (try simp only [List.getElem_toArray, List.getElem_cons_succ, List.getElem_cons_zero, Act.put, List.setIfInBounds_toArray, List.set_cons_zero, List.set_cons_succ])
        refine AnyG_done (by kernel_rfl) ?_ _
        dsimp only [OnlyN]
        gi_wp2
        go_roundw
        case rel => exact ⟨j + 1, by go_num, by omega, HF.out.1, HF.out.2⟩
        case measure => simp [intOf]; omega
      · obtain rfl : j = t := by omega
        have HE1 : Hid (CRow wr g0 cap (xall (sblk K N) m (pre ++ [x]))) := Lib.hid (by
          rw [xall_snoc, ← HLL.out, ← xpt_all _ L x j (by have := HT3.out; omega)]
          exact HCJ.out)
        gi_wp2
        have hob := HOB.out
        have hgl := HQ.out
        have hszz := hob.2.2.2.1
        refine ⟨⟨by omega, fun k o hk ho _ => (hob.2.2.2.2 k (by omega)).trans ho⟩, ⟨by omega, fun g _ hg => hob.2.2.2.2 g hg⟩, HE1.out, HBV.out.trans ⟨hob.1, hob.2.1, hob.2.2.1, by omega, fun k hk => hob.2.2.2.2 k (by omega)⟩, (hob.2.2.2.2 q (by omega)).trans HXV.out, by omega⟩
  case done =>
    rintro D xs W hD ⟨k, rfl, hk1, hk2⟩ ⟨h1, h2, h3, h4⟩ hdef
    have hqc := h3.cell
    have hqf := h3.frozen
    have HV : Hid (Bytes W (fun g => w.heap.size ≤ g ∧ g < q) (.slice A0 m.length cap) (strm K (beval N) m)) := Lib.hid (by
      rw [xall_strm K N m k hN hk1] at h1
      have hg := HG.out
      have := bytes_crow (A0 := A0) h1 (fun h => (hg.1 (by rwa [strm_length] at h)).1) hg.2.2.2.1 (by rw [strm_length]; exact hg.2.2.2.2.1) hg.2.2.2.2.2
      rw [strm_length] at this
      refine this.mono fun g _ e => ?_
      obtain ⟨rfl, e⟩ := e
      have := (hg.1 e).2
      have := HQ.out
      omega)
    have HBF := Lib.hid h2
    clear h1 h2 h3
    go_wp2_with fail
    refine ⟨by simp, .inl ⟨_, _, rfl, run_takeDeferred hdef, ?_⟩⟩
    have HV2 : Hid (Bytes (W.putObj D (.deferred none)) (fun g => w.heap.size ≤ g) (.slice A0 m.length cap) (strm K (beval N) m)) := Lib.hid ((HV.out.keep fun g _ hg => World.putObj_heap_other (by omega)).mono fun g _ hg => hg.1)
    have HB2 : Hid (Below w.heap.size w (W.putObj D (.deferred none))) := Lib.hid ⟨HBF.out.os, HBF.out.tape, HBF.out.output, by rw [World.putObj_size]; exact HBF.out.size, fun k hk => (World.putObj_heap_other (by omega)).trans (HBF.out.block k hk)⟩
    refine ⟨.slice A0 m.length cap, ?_, ⟨_, rfl, HV2.out⟩, HB2.out⟩
    simp [results, Tryd.results67, go_sem]
  case stop => exact fun _ _ _ _ _ h _ => h.elim
end Go.Proofs.YteekdhcffiaaaaaDoor
