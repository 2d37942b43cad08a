/-
  What a parameter is: a predicate, a ride, a slice of predicates.
  What a parameter is: an authority.
-/
import Derived.Deep.Slices
import Derived.Test.YtgbcncfhmnhljaaDoorPk9
import Derived.Test.YtgbcncfhmnhljaaDoorPk10
namespace Go.Proofs.YtgbcncfhmnhljaaDoor
open Go.ChangeShapes Go.WideShapes Go.ChangeAt Go.Joins Go.Deep
open Go Go.RowKit Sh Leaf

section
variable {H : Type} {enc : TypeId × Value → H} {P : Program} {w : World} {base : Nat} {spare : Nat → Bool} {held : Bool}
/-- The cells of a struct whose fields have one cell each, field by field. -/
theorem open_flat {m : Nat} {t : TypeId} {fs : Array Field} {cs : List Value} {x : DataW H × List MemPlace} (hs : P.underlying t = some (.struct fs)) (hone : oneCellFields P fs = true) (hC : P.cellsOf t = fs.size)
    (h : DataW.trod enc P w base spare held m t cs = some x) :
    cs.length = fs.size ∧ ∀ (i : Nat) (f : Field), fs[i]? = some f → ∃ (n : Nat) (y : DataW H × List MemPlace) (c : Value), cs[i]? = some c ∧ DataW.trod enc P w base spare held n f.type [c] = some y := by
  obtain ⟨xs, n, _, hx, hl, hlen, hy⟩ := DataW.trod_struct hs h
  rw [hC] at hl
  refine ⟨hl, fun i f hf => ?_⟩
  obtain ⟨o, k⟩ := hone_of hone i f hf
  have hi : i < fs.size := (Array.getElem?_eq_some_iff.1 hf).1
  have hi' : i < cs.length := by omega
  have h1 := hy i f hf
  rw [o, k] at h1
  have ht1 : (cs.drop i).take 1 = [cs[i]] := by
    rw [List.drop_eq_getElem_cons hi']
    rfl
  rw [ht1] at h1
  exact ⟨n, xs[i]'(by omega), cs[i], List.getElem?_eq_getElem hi', by
    rw [h1]
    exact List.getElem?_eq_getElem (by omega)⟩
end
section
variable {H : Type} {enc : TypeId × Value → H} {w : World} {base : Nat} {spare : Nat → Bool} {held : Bool}
/-- The six cells of a predicate. -/
theorem prd_of_cells {m : Nat} {cs : List Value} {x : DataW H × List MemPlace} (h : DataW.trod enc Tryd.prog w base spare held m 41 cs = some x) : ∃ q : Prd, cs = pcl q ∧ pbd q := by
  obtain ⟨hsz, hc⟩ := open_flat Tryd.underlying41 (by kernel_rfl) (by kernel_rfl) h
  obtain ⟨n0, y0, a0, e0, h0⟩ := hc 0 _ rfl
  obtain ⟨n1, y1, a1, e1, h1⟩ := hc 1 _ rfl
  obtain ⟨n2, y2, a2, e2, h2⟩ := hc 2 _ rfl
  obtain ⟨n3, y3, a3, e3, h3⟩ := hc 3 _ rfl
  obtain ⟨n4, y4, a4, e4, h4⟩ := hc 4 _ rfl
  obtain ⟨n5, y5, a5, e5, h5⟩ := hc 5 _ rfl
  obtain ⟨z0, rfl, _⟩ := cell_int Tryd.underlying3 h0
  obtain ⟨z1, rfl, w1⟩ := cell_int Tryd.underlying22 h1
  obtain ⟨z2, rfl, _⟩ := cell_int Tryd.underlying3 h2
  obtain ⟨z3, rfl, _⟩ := cell_int Tryd.underlying3 h3
  obtain ⟨l4, rfl, hl⟩ := cell_str Tryd.underlying9 h4
  obtain ⟨z5, rfl, _⟩ := cell_int Tryd.underlying3 h5
  have hw1 : 0 ≤ z1 ∧ z1 < 18446744073709551616 := by simp [Lit.wf, IntKind.min, IntKind.max, IntKind.signed, IntKind.bits] at w1; omega
  obtain ⟨m, rfl⟩ := Int.eq_ofNat_of_zero_le hw1.1
  refine ⟨⟨z0, m, z2, z3, l4, z5⟩, ?_, by show m < 18446744073709551616; omega, hl⟩
  have hs6 : cs.length = 6 := hsz
  apply List.ext_getElem?
  intro i
  match i with
  | 0 => exact e0
  | 1 => exact e1
  | 2 => exact e2
  | 3 => exact e3
  | 4 => exact e4
  | 5 => exact e5
  | i + 6 => rw [List.getElem?_eq_none (by omega), List.getElem?_eq_none (by simp [pcl])]
set_option maxRecDepth 100000 in
/-- A predicate as a parameter. -/
theorem prd_arg {r : Reach} {b0 : Nat} {v : Value} {d : DataW H} {p : List MemPlace} (hv : Value.okWide Tryd.prog w r b0 41 v) (h : DataW.Trod enc Tryd.prog w base spare held 41 v d p) :
    ∃ q : Prd, v = pv q ∧ pbd q := by
  obtain ⟨cs, rfl, _⟩ := okWide_struct Tryd.underlying41 hv
  obtain ⟨fuel, ht⟩ := h
  obtain ⟨q, hq, hb⟩ := prd_of_cells ht
  refine ⟨q, ?_, hb⟩
  rw [Value.cells] at hq
  unfold pv
  congr 1
  apply Array.toList_inj.1
  rw [hq]
  rfl
set_option maxRecDepth 100000 in
/-- A ride as a parameter. -/
theorem ctx_arg {r : Reach} {b0 : Nat} {v : Value} {d : DataW H} {p : List MemPlace} (hv : Value.okWide Tryd.prog w r b0 34 v) (h : DataW.Trod enc Tryd.prog w base spare held 34 v d p) :
    ∃ c : Ctx, v = cv c ∧ c.holder.length ≤ 9223372036854775807 := by
  obtain ⟨cs, rfl, _⟩ := okWide_struct Tryd.underlying34 hv
  obtain ⟨fuel, ht⟩ := h
  obtain ⟨hsz, hc⟩ := open_flat Tryd.underlying34 (by kernel_rfl) (by kernel_rfl) ht
  rw [Value.cells] at hsz hc
  obtain ⟨n0, y0, a0, e0, h0⟩ := hc 0 _ rfl
  obtain ⟨n1, y1, a1, e1, h1⟩ := hc 1 _ rfl
  obtain ⟨n2, y2, a2, e2, h2⟩ := hc 2 _ rfl
  obtain ⟨n3, y3, a3, e3, h3⟩ := hc 3 _ rfl
  obtain ⟨z0, rfl, _⟩ := cell_int Tryd.underlying3 h0
  obtain ⟨z1, rfl, _⟩ := cell_int Tryd.underlying3 h1
  obtain ⟨z2, rfl, _⟩ := cell_int Tryd.underlying3 h2
  obtain ⟨l3, rfl, hl⟩ := cell_str Tryd.underlying9 h3
  refine ⟨⟨z0, z1, z2, l3⟩, ?_, hl⟩
  unfold cv
  congr 1
  apply Array.toList_inj.1
  have hs4 : cs.toList.length = 4 := hsz
  apply List.ext_getElem?
  intro i
  match i with
  | 0 => exact e0
  | 1 => exact e1
  | 2 => exact e2
  | 3 => exact e3
  | i + 4 => rw [List.getElem?_eq_none (by omega), List.getElem?_eq_none (by simp)]
theorem prdCells : Tryd.prog.cellsOf 41 = 6 := by kernel_rfl
theorem pcs_range (f : Nat → Prd) : ∀ n, pcs ((List.range n).map f) = (List.range n).flatMap fun i => pcl (f i) := by
  intro n
  rw [pcs, List.flatMap_map]
/-- A slice of predicates as a parameter. -/
theorem prds_arg {v : Value} {d : DataW H} {p : List MemPlace} (hv : ∃ a n c, v = .slice a n c) (h : DataW.Trod enc Tryd.prog w 0 (fun _ => true) true 42 v d p) :
    ∃ A l c, v = .slice A l.length c ∧ Prds w (fun _ => True) A c l := by
  obtain ⟨fuel, hf⟩ := h
  obtain ⟨a0, n0, c0, rfl⟩ := hv
  rcases open_slice Tryd.underlying42 hf with ⟨hcs, -⟩ | ⟨a, len, cap, m, n, D, Pl, hcs, -, hl, hm, hmm, -, hx⟩
  · simp only [Value.cells, List.cons.injEq, and_true] at hcs
    exact ⟨none, [], 0, hcs, Prds.nil _ _⟩
  · simp only [Value.cells, List.cons.injEq, and_true] at hcs
    simp only [if_true] at hmm
    subst hmm
    have hq : ∀ i, i < m → ∃ q : Prd, pbd q ∧ w.cells? 0 (a.add (i * 6)) 6 = some (pcl q) := fun i hi => by
      obtain ⟨cs', h1, h2⟩ := hx i hi
      rw [prdCells] at h1
      obtain ⟨q, rfl, hb⟩ := prd_of_cells h2
      exact ⟨q, hb, h1⟩
    haveI : Inhabited Prd := ⟨⟨0, 0, 0, 0, [], 0⟩⟩
    obtain ⟨f, hf'⟩ := choose_lt hq
    have hlen : ((List.range len).map f).length = len := by simp
    have hget : ∀ j, j < len → ((List.range len).map f)[j]? = some (f j) := fun j hj => by rw [List.getElem?_map, List.getElem?_range hj]; rfl
    refine ⟨some a, (List.range len).map f, m, by rw [hlen]; exact hcs, by rw [hlen]; exact hl, hm, fun h => (by cases h), fun q hq => ?_, fun h0 => ?_⟩
    · obtain ⟨j, hj, rfl⟩ := List.mem_map.1 hq
      exact (hf' j (by have := List.mem_range.1 hj; omega)).1
    · rw [hlen] at h0
      have hc := fun j (hj : j < len) r (hr : r < 6) => (World.cells?_some (hf' j (by omega)).2).2.2 r hr
      obtain ⟨b, off, spot⟩ := a
      have hspot : spot = none := by
        have := hc 0 h0 0 (by omega)
        rw [show (pcl (f 0))[0]? = some (.int .i64 (f 0).kind) from rfl] at this
        simpa [Addr.add] using World.cell?_spot this
      subst hspot
      have hcell : ∀ j, j < len → ∀ r v, (pcl (f j))[r]? = some v → w.cell? ⟨b, off + (j * 6 + r), none⟩ = some v := fun j hj r v hv => by
        have hr : r < 6 := (List.getElem?_eq_some_iff.1 hv).1
        have := hc j hj r hr
        rw [add_plain, add_plain, Nat.add_assoc] at this
        rw [this, hv]
      refine ⟨b, off, rfl, trivial, World.block_lt_of_cell? w _ (hcell 0 h0 0 _ rfl), fun j v hj => ?_⟩
      have hjl : j < len * 6 := by have := (List.getElem?_eq_some_iff.1 hj).1; rw [pcs_length, hlen] at this; exact this
      obtain ⟨u, hu⟩ : ∃ u, (pcl (f (j / 6)))[j % 6]? = some u := ⟨_, List.getElem?_eq_getElem (show j % 6 < (pcl (f (j / 6))).length by rw [pcl_length]; omega)⟩
      have e := pcs_at _ (j / 6) (f (j / 6)) (hget _ (by omega)) (j % 6) u hu
      have hj6 : j / 6 * 6 + j % 6 = j := by omega
      rw [hj6, hj] at e
      injection e with e
      subst e
      have := hcell (j / 6) (by omega) (j % 6) v hu
      rw [hj6] at this
      exact this
end
end Go.Proofs.YtgbcncfhmnhljaaDoor
namespace Go.Proofs.YtgbcncfhmnhljaaDoor
open Go.ChangeShapes Go.WideShapes Go.ChangeAt Go.Joins Go.Deep
open Go Go.RowKit Sh Leaf

section
variable {H : Type} {enc : TypeId × Value → H} {w : World} {base : Nat} {spare : Nat → Bool} {held : Bool}
/-- The two cells of a span. -/
theorem spn_of_cells {m : Nat} {cs : List Value} {x : DataW H × List MemPlace} (h : DataW.trod enc Tryd.prog w base spare held m 50 cs = some x) : ∃ q : Int × Int, cs = scl q ∧ sbd q := by
  obtain ⟨hsz, hc⟩ := open_flat Tryd.underlying50 (by kernel_rfl) (by kernel_rfl) h
  obtain ⟨n0, y0, a0, e0, h0⟩ := hc 0 _ rfl
  obtain ⟨n1, y1, a1, e1, h1⟩ := hc 1 _ rfl
  obtain ⟨z0, rfl, w0⟩ := cell_int Tryd.underlying3 h0
  obtain ⟨z1, rfl, w1⟩ := cell_int Tryd.underlying3 h1
  have hw0 : i64ok z0 := by simpa [Lit.wf, IntKind.min, IntKind.max, IntKind.signed, IntKind.bits] using w0
  have hw1 : i64ok z1 := by simpa [Lit.wf, IntKind.min, IntKind.max, IntKind.signed, IntKind.bits] using w1
  refine ⟨(z0, z1), ?_, hw0, hw1⟩
  have hs2 : cs.length = 2 := hsz
  apply List.ext_getElem?
  intro i
  match i with
  | 0 => exact e0
  | 1 => exact e1
  | i + 2 => rw [List.getElem?_eq_none (by omega), List.getElem?_eq_none (by simp [scl])]
theorem spnCells : Tryd.prog.cellsOf 50 = 2 := by kernel_rfl
/-- A cell that is a slice of spans. -/
theorem spns_cell {n : Nat} {v : Value} {y : DataW H × List MemPlace} (hf : DataW.trod enc Tryd.prog w 0 (fun _ => true) true n 23 [v] = some y) :
    ∃ A l c, v = .slice A l.length c ∧ Spn w (fun _ => True) A c l := by
  rcases open_slice Tryd.underlying23 hf with ⟨hcs, -⟩ | ⟨a, len, cap, m, n, D, Pl, hcs, -, hl, hm, hmm, -, hx⟩
  · simp only [List.cons.injEq, and_true] at hcs
    exact ⟨none, [], 0, hcs, Seq.nil _ _⟩
  · simp only [List.cons.injEq, and_true] at hcs
    simp only [if_true] at hmm
    subst hmm
    have hq : ∀ i, i < m → ∃ q : Int × Int, sbd q ∧ w.cells? 0 (a.add (i * 2)) 2 = some (scl q) := fun i hi => by
      obtain ⟨cs', h1, h2⟩ := hx i hi
      rw [spnCells] at h1
      obtain ⟨q, rfl, hb⟩ := spn_of_cells h2
      exact ⟨q, hb, h1⟩
    haveI : Inhabited (Int × Int) := ⟨(0, 0)⟩
    obtain ⟨f, hf'⟩ := choose_lt hq
    have hlen : ((List.range len).map f).length = len := by simp
    have hget : ∀ j, j < len → ((List.range len).map f)[j]? = some (f j) := fun j hj => by rw [List.getElem?_map, List.getElem?_range hj]; rfl
    refine ⟨some a, (List.range len).map f, m, by rw [hlen]; exact hcs, by rw [hlen]; exact hl, hm, fun h => (by cases h), fun q hq => ?_, fun h0 => ?_⟩
    · obtain ⟨j, hj, rfl⟩ := List.mem_map.1 hq
      exact (hf' j (by have := List.mem_range.1 hj; omega)).1
    · rw [hlen] at h0
      have hc := fun j (hj : j < len) r (hr : r < 2) => (World.cells?_some (hf' j (by omega)).2).2.2 r hr
      obtain ⟨b, off, spot⟩ := a
      have hspot : spot = none := by
        have := hc 0 h0 0 (by omega)
        rw [show (scl (f 0))[0]? = some (.int .i64 (f 0).1) from rfl] at this
        simpa [Addr.add] using World.cell?_spot this
      subst hspot
      have hcell : ∀ j, j < len → ∀ r v, (scl (f j))[r]? = some v → w.cell? ⟨b, off + (j * 2 + r), none⟩ = some v := fun j hj r v hv => by
        have hr : r < 2 := (List.getElem?_eq_some_iff.1 hv).1
        have := hc j hj r hr
        rw [add_plain, add_plain, Nat.add_assoc] at this
        rw [this, hv]
      refine ⟨b, off, rfl, trivial, World.block_lt_of_cell? w _ (hcell 0 h0 0 _ rfl), fun j v hj => ?_⟩
      have hjl : j < len * 2 := by have := (List.getElem?_eq_some_iff.1 hj).1; rw [fl_length scl_len, hlen] at this; exact this
      obtain ⟨u, hu⟩ : ∃ u, (scl (f (j / 2)))[j % 2]? = some u := ⟨_, List.getElem?_eq_getElem (show j % 2 < (scl (f (j / 2))).length by rw [scl_len]; omega)⟩
      have e := fl_at scl_len _ (j / 2) (f (j / 2)) (hget _ (by omega)) (j % 2) u hu
      have hj6 : j / 2 * 2 + j % 2 = j := by omega
      rw [hj6, hj] at e
      injection e with e
      subst e
      have := hcell (j / 2) (by omega) (j % 2) v hu
      rw [hj6] at this
      exact this
theorem cell_bool {e : TypeId} {n : Nat} {c : Value} {y : DataW H × List MemPlace} (he : Tryd.prog.underlying e = some .bool) (h : DataW.trod enc Tryd.prog w base spare held n e [c] = some y) : ∃ b : Bool, c = .bool b := by
  obtain ⟨z, hz, _⟩ := DataW.trod_bool he h
  exact ⟨z, by simpa using hz⟩
theorem u64_of {z : Int} (w : (Lit.int .u64 z).wf = true) : ∃ m : Nat, z = (m : Int) ∧ m < 18446744073709551616 := by
  have hw1 : 0 ≤ z ∧ z < 18446744073709551616 := by simp [Lit.wf, IntKind.min, IntKind.max, IntKind.signed, IntKind.bits] at w; omega
  obtain ⟨m, rfl⟩ := Int.eq_ofNat_of_zero_le hw1.1
  exact ⟨m, rfl, by omega⟩
set_option maxRecDepth 100000 in
/-- An authority as a parameter. -/
theorem aut_arg {r : Reach} {b0 : Nat} {v : Value} {d : DataW H} {p : List MemPlace} (hv : Value.okWide Tryd.prog w r b0 25 v) (h : DataW.Trod enc Tryd.prog w 0 (fun _ => true) true 25 v d p) :
    ∃ a : Aut, Av w (fun _ => True) v a := by
  obtain ⟨cs, rfl, _⟩ := okWide_struct Tryd.underlying25 hv
  obtain ⟨fuel, ht⟩ := h
  obtain ⟨hsz, hc⟩ := open_flat Tryd.underlying25 (by kernel_rfl) (by kernel_rfl) ht
  rw [Value.cells] at hsz hc
  obtain ⟨n0, y0, a0, e0, h0⟩ := hc 0 _ rfl
  obtain ⟨n1, y1, a1, e1, h1⟩ := hc 1 _ rfl
  obtain ⟨n2, y2, a2, e2, h2⟩ := hc 2 _ rfl
  obtain ⟨n3, y3, a3, e3, h3⟩ := hc 3 _ rfl
  obtain ⟨n4, y4, a4, e4, h4⟩ := hc 4 _ rfl
  obtain ⟨n5, y5, a5, e5, h5⟩ := hc 5 _ rfl
  obtain ⟨n6, y6, a6, e6, h6⟩ := hc 6 _ rfl
  obtain ⟨n7, y7, a7, e7, h7⟩ := hc 7 _ rfl
  obtain ⟨z0, rfl⟩ := cell_bool Tryd.underlying4 h0
  obtain ⟨z1, rfl, w1⟩ := cell_int Tryd.underlying22 h1
  obtain ⟨z2, rfl, w2⟩ := cell_int Tryd.underlying22 h2
  obtain ⟨z3, rfl, w3⟩ := cell_int Tryd.underlying22 h3
  obtain ⟨z4, rfl, w4⟩ := cell_int Tryd.underlying3 h4
  obtain ⟨z5, rfl, w5⟩ := cell_int Tryd.underlying3 h5
  obtain ⟨A, l, c, rfl, hS⟩ := spns_cell h6
  obtain ⟨l7, rfl, hl⟩ := cell_str Tryd.underlying9 h7
  obtain ⟨m1, rfl, hm1⟩ := u64_of w1
  obtain ⟨m2, rfl, hm2⟩ := u64_of w2
  obtain ⟨m3, rfl, hm3⟩ := u64_of w3
  have hw4 : i64ok z4 := by simpa [Lit.wf, IntKind.min, IntKind.max, IntKind.signed, IntKind.bits] using w4
  have hw5 : i64ok z5 := by simpa [Lit.wf, IntKind.min, IntKind.max, IntKind.signed, IntKind.bits] using w5
  refine ⟨⟨z0, m1, m2, m3, z4, z5, l, l7⟩, A, c, ?_, hS, hm1, hm2, hm3, hw4, hw5, hl⟩
  congr 1
  apply Array.toList_inj.1
  have hs8 : cs.toList.length = 8 := hsz
  apply List.ext_getElem?
  intro i
  match i with
  | 0 => exact e0
  | 1 => exact e1
  | 2 => exact e2
  | 3 => exact e3
  | 4 => exact e4
  | 5 => exact e5
  | 6 => exact e6
  | 7 => exact e7
  | i + 8 => rw [List.getElem?_eq_none (by omega), List.getElem?_eq_none (by simp)]
end
end Go.Proofs.YtgbcncfhmnhljaaDoor
