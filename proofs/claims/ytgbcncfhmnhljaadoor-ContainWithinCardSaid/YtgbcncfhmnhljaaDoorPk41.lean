/-
  The reference's Within.
-/
import Derived.Test.YtgbcncfhmnhljaaDoorPk27
namespace Go.Proofs.YtgbcncfhmnhljaaDoor
open Go Go.RowKit Sh Leaf

set_option linter.unusedSimpArgs false in
set_option maxRecDepth 100000 in
set_option maxHeartbeats 4000000 in
theorem rWithin {w : World} {Q1 Q2 : Nat → Prop} {x y : Value} {a b : Aut} (hx : Av w Q1 x a) (hy : Av w Q2 y b) :
    Calls Tryd.prog 8 #[x, y] w fun e w' => e = .returned (.bool (decide (wi a b))) ∧ Below w.heap.size w w' := by
  obtain ⟨D, hD⟩ : ∃ D, D = decide (wi a b) := ⟨_, rfl⟩
  rw [← hD]
  have hx0 := hx.any
  have hy0 := hy.any
  obtain ⟨A1, c1, rfl, hS1, hab1⟩ := hx
  obtain ⟨A2, c2, rfl, hS2, hab2⟩ := hy
  obtain ⟨p, hp⟩ : ∃ p, p = (w.alloc (.cells (avl a A1 c1) 25)).alloc (.cells (avl b A2 c2) 25) := ⟨_, rfl⟩
  have hbl : Below w.heap.size w p := by rw [hp]; exact ab_below _ _ _
  have hr1 : ARow p w.heap.size a.none a.zones a.lines a.days a.lo a.hi (.slice A1 a.daily.length c1) a.holder := by rw [hp]; exact (Whole.here _ _ _).alloc _
  have hr2 : ARow p (w.heap.size + 1) b.none b.zones b.lines b.days b.lo b.hi (.slice A2 b.daily.length c2) b.holder := by rw [hp]; exact Whole.at_ _ _ _ _ (by simp)
  have hc1 : ∀ W, Below p.heap.size p W → W.cell? ⟨w.heap.size, 0, none⟩ = some (.bool a.none) ∧ W.cell? ⟨w.heap.size, 1, none⟩ = some (.int .u64 (a.zones : Int)) ∧ W.cell? ⟨w.heap.size, 2, none⟩ = some (.int .u64 (a.lines : Int)) ∧ W.cell? ⟨w.heap.size, 3, none⟩ = some (.int .u64 (a.days : Int)) ∧ W.cell? ⟨w.heap.size, 4, none⟩ = some (.int .i64 a.lo) ∧ W.cell? ⟨w.heap.size, 5, none⟩ = some (.int .i64 a.hi) ∧ W.cell? ⟨w.heap.size, 6, none⟩ = some (.slice A1 a.daily.length c1) ∧ W.cell? ⟨w.heap.size, 7, none⟩ = some (.string (sof a.holder)) := fun W h => ARow.cells (Whole.below hr1 h (Whole.lt hr1))
  have hc2 : ∀ W, Below p.heap.size p W → W.cell? ⟨(w.heap.size + 1), 0, none⟩ = some (.bool b.none) ∧ W.cell? ⟨(w.heap.size + 1), 1, none⟩ = some (.int .u64 (b.zones : Int)) ∧ W.cell? ⟨(w.heap.size + 1), 2, none⟩ = some (.int .u64 (b.lines : Int)) ∧ W.cell? ⟨(w.heap.size + 1), 3, none⟩ = some (.int .u64 (b.days : Int)) ∧ W.cell? ⟨(w.heap.size + 1), 4, none⟩ = some (.int .i64 b.lo) ∧ W.cell? ⟨(w.heap.size + 1), 5, none⟩ = some (.int .i64 b.hi) ∧ W.cell? ⟨(w.heap.size + 1), 6, none⟩ = some (.slice A2 b.daily.length c2) ∧ W.cell? ⟨(w.heap.size + 1), 7, none⟩ = some (.string (sof b.holder)) := fun W h => ARow.cells (Whole.below hr2 h (Whole.lt hr2))
  have hav1 : ∀ W, Below p.heap.size p W → Av W (fun _ => True) (.agg (arow a.none a.zones a.lines a.days a.lo a.hi (.slice A1 a.daily.length c1) a.holder)) a := fun W h => (Av.below hx0 (hbl.trans (h.mono hbl.size)) (Nat.le_refl _)).all
  have hav2 : ∀ W, Below p.heap.size p W → Av W (fun _ => True) (.agg (arow b.none b.zones b.lines b.days b.lo b.hi (.slice A2 b.daily.length c2) b.holder)) b := fun W h => (Av.below hy0 (hbl.trans (h.mono hbl.size)) (Nat.le_refl _)).all
  have H1 := Lib.hid hc1
  have H2 := Lib.hid hc2
  have H3 := Lib.hid hav1
  have H4 := Lib.hid hav2
  have HB := Lib.hid hbl
  obtain ⟨x0, x1, x2, x3, x4, x5, x6, x7⟩ := hc1 p (Below.refl _ _)
  obtain ⟨Va, hVa⟩ : ∃ V, decide (aok a) = V := ⟨_, rfl⟩
  obtain ⟨Vb, hVb⟩ : ∃ V, decide (aok b) = V := ⟨_, rfl⟩
  have kA : ∀ W, Below p.heap.size p W → Calls Tryd.prog 21 #[.agg (avl a A1 c1)] W fun e w' => e = .returned (.bool Va) ∧ Below W.heap.size W w' := fun W h => by
    have := raok (hav1 W h)
    rw [hVa] at this
    exact this
  have kB : ∀ W, Below p.heap.size p W → Calls Tryd.prog 21 #[.agg (avl b A2 c2)] W fun e w' => e = .returned (.bool Vb) ∧ Below W.heap.size W w' := fun W h => by
    have := raok (hav2 W h)
    rw [hVb] at this
    exact this
  have KA := Lib.hid kA
  have KB := Lib.hid kB
  have hcl := rWitness (hav1 p (Below.refl _ _)) (hav2 p (Below.refl _ _))
  clear hx0 hy0 hS1 hS2 hab1 hab2 hbl hr1 hr2 hc1 hc2 hav1 hav2 kA kB
  go_enter Tryd.func8, Tryd.ntmps8
  go_upto_region 1 with fail
  rw [← hp]
  clear hp
  obtain ⟨y0, y1, y2, y3, y4, y5, y6, y7⟩ := H2.out p (Below.refl _ _)
  go_wp2_with fail
  refine hcl.mono ?_
  rintro e u1 ⟨⟨z, l, m, n, ok, rfl, hW⟩, hb1⟩
  clear hcl x0 x1 x2 x3 x4 x5 x6 x7 y0 y1 y2 y3 y4 y5 y6 y7
  obtain ⟨q, hq⟩ : ∃ q, q = u1.alloc (.cells (crow z l m n) 34) := ⟨_, rfl⟩
  have hbq : Below u1.heap.size u1 q := by rw [hq]; exact (Below.refl _ _).alloc (Nat.le_refl _) _
  have hpq : Below p.heap.size p q := hb1.trans (hbq.mono hb1.size)
  have HPQ := Lib.hid hpq
  have hkey := wit_within hW
  have hDD : D = (Va && (Vb && !ok)) := by
    rw [hD, ← hVa, ← hVb, Bool.eq_iff_iff]
    simp only [decide_eq_true_eq, Bool.and_eq_true, Bool.not_eq_true']
    exact hkey
  have HDD := Lib.hid hDD
  obtain ⟨x0, x1, x2, x3, x4, x5, x6, x7⟩ := H1.out q hpq
  clear hD hVa hVb hkey hDD hW hb1 hbq hpq
  go_upto_region 2 with fail
  rw [← hq]
  clear hq
  go_wp2_with fail
  refine (KA.out q HPQ.out).mono ?_
  rintro e u2 ⟨rfl, hb2⟩
  have HP2 : Hid (Below p.heap.size p u2) := Lib.hid (HPQ.out.trans (hb2.mono HPQ.out.size))
  clear x0 x1 x2 x3 x4 x5 x6 x7 hb2
  cases Va
  · obtain rfl : D = false := HDD.out
    go_wp2_with fail
    go_ret
    exact ⟨rfl, HB.out.trans (HP2.out.mono HB.out.size)⟩
  obtain ⟨y0, y1, y2, y3, y4, y5, y6, y7⟩ := H2.out u2 HP2.out
  go_wp2_with fail
  refine (KB.out u2 HP2.out).mono ?_
  rintro e u3 ⟨rfl, hb3⟩
  have HP3 : Hid (Below p.heap.size p u3) := Lib.hid (HP2.out.trans (hb3.mono HP2.out.size))
  clear y0 y1 y2 y3 y4 y5 y6 y7 hb3
  cases Vb
  · obtain rfl : D = false := HDD.out
    go_wp2_with fail
    go_ret
    exact ⟨rfl, HB.out.trans (HP3.out.mono HB.out.size)⟩
  cases ok
  · obtain rfl : D = true := HDD.out
    go_wp2_with fail
    go_ret
    exact ⟨rfl, HB.out.trans (HP3.out.mono HB.out.size)⟩
  · obtain rfl : D = false := HDD.out
    go_wp2_with fail
    go_ret
    exact ⟨rfl, HB.out.trans (HP3.out.mono HB.out.size)⟩
end Go.Proofs.YtgbcncfhmnhljaaDoor
