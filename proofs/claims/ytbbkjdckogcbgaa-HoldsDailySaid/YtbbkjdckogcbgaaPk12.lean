/-
  The law HoldsDaily.
-/
import Derived.Deep.RegionHeld3
import Derived.Test.YtbbkjdckogcbgaaPk9
import Derived.Test.YtbbkjdckogcbgaaPk11
namespace Go.Proofs.Ytbbkjdckogcbgaa
open Go Go.RowKit Sh Leaf

set_option maxRecDepth 100000 in
set_option maxHeartbeats 4000000 in
theorem daily_law (x y : Int) (hx : 0 ≤ x ∧ x ≤ 65535) (hy : 0 ≤ y ∧ y ≤ 65535) (A : Option Addr) (l : List Int) (c : Nat) (w : World) (hI : Ints w (fun b => b < w.heap.size) A c l) :
    Calls Try.prog 7 #[.int .u16 x, .int .u16 y, .slice A l.length c] w fun e w' => e = .returned (.bool true) ∧ Below w.heap.size w w' := by
  have hdn := fun W h => dnew A l.length c l W rfl h
  have e1 : x.tmod 1440 = x % 1440 := Int.tmod_eq_emod_of_nonneg hx.1
  have e2 : y.tmod 1440 = y % 1440 := Int.tmod_eq_emod_of_nonneg hy.1
  have v1 : IntKind.i64.wrap x = x := by rw [IntKind.wrap_i64]; omega
  have v2 : IntKind.i64.wrap y = y := by rw [IntKind.wrap_i64]; omega
  have a0 : 0 ≤ x % 1440 ∧ x % 1440 < 1440 := by omega
  have b0 : 0 ≤ y % 1440 ∧ y % 1440 < 1440 := by omega
  clear hx hy
  generalize x % 1440 = a at *
  generalize y % 1440 = b at *
  go_enter Try.func7, Try.ntmps7
  go_wp2_with fail
  refine (hdn _ hI).mono ?_
  rintro e w1 ⟨rfl, hd1, hb1⟩
  have HB1 := Lib.hid hb1
  clear hb1 hdn
  go_wp2_with fail
  refine (dctx _ _ hd1).mono ?_
  rintro e w2 ⟨⟨cz, cl, cm, cn⟩, hc, rfl, ht2⟩
  have HB2 := Lib.hid ((HB1.out).trans (ht2.2.1))
  have HK := Lib.hid hc
  rw [cv_row]
  simp only
  have hC2 : CRow (w2.alloc (.cells (crow cz cl cm cn) 23)) w2.heap.size cz cl cm cn := Whole.here _ _ _
  have HC2 := Lib.hid hC2
  have HB3 := Lib.hid ((HB2.out).alloc HB2.out.size (.cells (crow cz cl cm cn) 23))
  clear hC2 ht2 hd1 hc HB1
  by_cases hab : b ≤ a
  · go_wp2_with fail
    refine (hawake _).mono ?_
    rintro e w3 ⟨rfl, hb3⟩
    have HB4 := Lib.hid (HB3.out.trans (hb3.mono HB3.out.size))
    clear hb3
    go_wp2
    go_ret
    exact ⟨rfl, HB4.out⟩
  have hab' : a < b := by omega
  by_cases hend : b = 1439 ∧ a = 0
  · obtain ⟨rfl, rfl⟩ := hend
    go_wp2_with fail
    refine (hawake _).mono ?_
    rintro e w3 ⟨rfl, hb3⟩
    have HB4 := Lib.hid (HB3.out.trans (hb3.mono HB3.out.size))
    clear hb3
    go_wp2
    go_ret
    exact ⟨rfl, HB4.out⟩
  have hw1 : IntKind.i64.wrap (b + 1) = b + 1 := by rw [IntKind.wrap_i64]; omega
  have hw2 : IntKind.i64.wrap (a + 1440) = a + 1440 := by rw [IntKind.wrap_i64]; omega
  have hw3 : IntKind.i64.wrap (a + 1440 - 1) = a + 1439 := by rw [IntKind.wrap_i64]; omega
  have e3 : (b + 1).tmod 1440 = (b + 1) % 1440 := Int.tmod_eq_emod_of_nonneg (by omega)
  have e4 : (a + 1439).tmod 1440 = (a + 1439) % 1440 := Int.tmod_eq_emod_of_nonneg (by omega)
  have HD := Lib.hid (daily_outer a b ⟨cz, cl, cm, cn⟩ HK.out a0.1 hab' b0.2 hend)
  have hn : cn.length ≤ 16 := HK.out.2.2.2.2.1
  have h1 := fun W => hholds ⟨5, 0, a, b, [], 0⟩ ⟨cz, cl, cm, cn⟩ (by simp) (by simp) (by show cn.length ≤ _; omega) W
  have h2 := fun W => hholds ⟨5, 0, (b + 1) % 1440, (a + 1439) % 1440, [], 0⟩ ⟨cz, cl, cm, cn⟩ (by simp) (by simp) (by show cn.length ≤ _; omega) W
  rw [HD.out] at h1
  clear HD hn
  generalize decide (hd ⟨5, 0, (b + 1) % 1440, (a + 1439) % 1440, [], 0⟩ ⟨cz, cl, cm, cn⟩) = D at *
  unfold pv cv at h1 h2
  simp only [sof_none] at h1 h2
  generalize (b + 1) % 1440 = ob at *
  generalize (a + 1439) % 1440 = oa at *
  by_cases hb9 : b = 1439
  · have ha0 : ¬ a = 0 := fun h => hend ⟨hb9, h⟩
    clear hend
    subst hb9
    obtain rfl : ob = 0 := by rw [← e3]; rfl
    have hC : CRow (((w2.alloc (.cells (crow cz cl cm cn) 23)).alloc (.cells #[.int .i64 5, .int .u64 0, .int .i64 a, .int .i64 1439, .string { data := #[] }, .int .i64 0] 35)).alloc (.cells #[.int .i64 5, .int .u64 0, .int .i64 0, .int .i64 oa, .string { data := #[] }, .int .i64 0] 35)) w2.heap.size cz cl cm cn := Whole.alloc (Whole.alloc HC2.out _) _
    have hP : Whole (((w2.alloc (.cells (crow cz cl cm cn) 23)).alloc (.cells #[.int .i64 5, .int .u64 0, .int .i64 a, .int .i64 1439, .string { data := #[] }, .int .i64 0] 35)).alloc (.cells #[.int .i64 5, .int .u64 0, .int .i64 0, .int .i64 oa, .string { data := #[] }, .int .i64 0] 35)) (w2.heap.size + 1) 35 #[.int .i64 5, .int .u64 0, .int .i64 a, .int .i64 1439, .string { data := #[] }, .int .i64 0] := Whole.alloc (Whole.at_ _ _ _ _ (by simp)) _
    have hQ : Whole (((w2.alloc (.cells (crow cz cl cm cn) 23)).alloc (.cells #[.int .i64 5, .int .u64 0, .int .i64 a, .int .i64 1439, .string { data := #[] }, .int .i64 0] 35)).alloc (.cells #[.int .i64 5, .int .u64 0, .int .i64 0, .int .i64 oa, .string { data := #[] }, .int .i64 0] 35)) (w2.heap.size + 1 + 1) 35 #[.int .i64 5, .int .u64 0, .int .i64 0, .int .i64 oa, .string { data := #[] }, .int .i64 0] := Whole.at_ _ _ _ _ (by simp)
    have hB : Below w.heap.size w (((w2.alloc (.cells (crow cz cl cm cn) 23)).alloc (.cells #[.int .i64 5, .int .u64 0, .int .i64 a, .int .i64 1439, .string { data := #[] }, .int .i64 0] 35)).alloc (.cells #[.int .i64 5, .int .u64 0, .int .i64 0, .int .i64 oa, .string { data := #[] }, .int .i64 0] 35)) := (HB3.out.alloc HB3.out.size _).alloc (by have := HB3.out.size; simp at this ⊢; omega) _
    go_wp2_with fail
    obtain ⟨w4, hw4⟩ : ∃ w4, w4 = (((w2.alloc (.cells (crow cz cl cm cn) 23)).alloc (.cells #[.int .i64 5, .int .u64 0, .int .i64 a, .int .i64 1439, .string { data := #[] }, .int .i64 0] 35)).alloc (.cells #[.int .i64 5, .int .u64 0, .int .i64 0, .int .i64 oa, .string { data := #[] }, .int .i64 0] 35)) := ⟨_, rfl⟩
    rw [← hw4] at hC hP hQ hB
    show Code.wp _ _ _ _ (((w2.alloc (.cells (crow cz cl cm cn) 23)).alloc (.cells #[.int .i64 5, .int .u64 0, .int .i64 a, .int .i64 1439, .string { data := #[] }, .int .i64 0] 35)).alloc (.cells #[.int .i64 5, .int .u64 0, .int .i64 0, .int .i64 oa, .string { data := #[] }, .int .i64 0] 35))
    rw [← hw4]
    clear hw4
    have l1 := hC.lt
    have l2 := hP.lt
    have l3 := hQ.lt
    have hcc : ∀ W, Below w4.heap.size w4 W → (W.cell? ⟨w2.heap.size, 0, none⟩ = some (.int .i64 cz) ∧ W.cell? ⟨w2.heap.size, 1, none⟩ = some (.int .i64 cl) ∧ W.cell? ⟨w2.heap.size, 2, none⟩ = some (.int .i64 cm) ∧ W.cell? ⟨w2.heap.size, 3, none⟩ = some (.string (sof cn)) ∧ W.cell? ⟨w2.heap.size + 1, 0, none⟩ = some (.int .i64 5) ∧ W.cell? ⟨w2.heap.size + 1, 1, none⟩ = some (.int .u64 0) ∧ W.cell? ⟨w2.heap.size + 1, 2, none⟩ = some (.int .i64 a) ∧ W.cell? ⟨w2.heap.size + 1, 3, none⟩ = some (.int .i64 1439) ∧ W.cell? ⟨w2.heap.size + 1, 4, none⟩ = some (.string { data := #[] }) ∧ W.cell? ⟨w2.heap.size + 1, 5, none⟩ = some (.int .i64 0) ∧ W.cell? ⟨w2.heap.size + 1 + 1, 0, none⟩ = some (.int .i64 5) ∧ W.cell? ⟨w2.heap.size + 1 + 1, 1, none⟩ = some (.int .u64 0) ∧ W.cell? ⟨w2.heap.size + 1 + 1, 2, none⟩ = some (.int .i64 0) ∧ W.cell? ⟨w2.heap.size + 1 + 1, 3, none⟩ = some (.int .i64 oa) ∧ W.cell? ⟨w2.heap.size + 1 + 1, 4, none⟩ = some (.string { data := #[] }) ∧ W.cell? ⟨w2.heap.size + 1 + 1, 5, none⟩ = some (.int .i64 0)) := fun W hb => by
      obtain ⟨a0, a1, a2, a3⟩ := CRow.cells (Whole.below hC hb l1)
      have p := Whole.below hP hb l2
      have q := Whole.below hQ hb l3
      exact ⟨a0, a1, a2, a3, p.cell 0, p.cell 1, p.cell 2, p.cell 3, p.cell 4, p.cell 5, q.cell 0, q.cell 1, q.cell 2, q.cell 3, q.cell 4, q.cell 5⟩
    have hc0 := hcc w4 (Below.refl _ _)
    have av := fun W (hb : Below w4.heap.size w4 W) => (h1 W).mono fun _ _ h => And.intro h.1 (hb.trans (h.2.mono hb.size))
    have bv := fun W (hb : Below w4.heap.size w4 W) => (h2 W).mono fun _ _ h => And.intro h.1 (hb.trans (h.2.mono hb.size))
    have aw := fun W (hb : Below w4.heap.size w4 W) => (hawake W).mono fun _ _ h => And.intro h.1 (hb.trans (h.2.mono hb.size))
    have HB := Lib.hid hB
    clear hC hP hQ hB h1 h2 HC2 HB3 HB2 HK l1 l2 l3
    cases D
    all_goals
      go_region_held3 (fun W => W.cell? ⟨w2.heap.size, 0, none⟩ = some (.int .i64 cz) ∧ W.cell? ⟨w2.heap.size, 1, none⟩ = some (.int .i64 cl) ∧ W.cell? ⟨w2.heap.size, 2, none⟩ = some (.int .i64 cm) ∧ W.cell? ⟨w2.heap.size, 3, none⟩ = some (.string (sof cn)) ∧ W.cell? ⟨w2.heap.size + 1, 0, none⟩ = some (.int .i64 5) ∧ W.cell? ⟨w2.heap.size + 1, 1, none⟩ = some (.int .u64 0) ∧ W.cell? ⟨w2.heap.size + 1, 2, none⟩ = some (.int .i64 a) ∧ W.cell? ⟨w2.heap.size + 1, 3, none⟩ = some (.int .i64 1439) ∧ W.cell? ⟨w2.heap.size + 1, 4, none⟩ = some (.string { data := #[] }) ∧ W.cell? ⟨w2.heap.size + 1, 5, none⟩ = some (.int .i64 0) ∧ W.cell? ⟨w2.heap.size + 1 + 1, 0, none⟩ = some (.int .i64 5) ∧ W.cell? ⟨w2.heap.size + 1 + 1, 1, none⟩ = some (.int .u64 0) ∧ W.cell? ⟨w2.heap.size + 1 + 1, 2, none⟩ = some (.int .i64 0) ∧ W.cell? ⟨w2.heap.size + 1 + 1, 3, none⟩ = some (.int .i64 oa) ∧ W.cell? ⟨w2.heap.size + 1 + 1, 4, none⟩ = some (.string { data := #[] }) ∧ W.cell? ⟨w2.heap.size + 1 + 1, 5, none⟩ = some (.int .i64 0)) (first | exact hc0 | assumption | go_keep)
        (first
          | (have g7 := hb6; go_at_call 13; refine (aw _ hb6).mono ?_; rintro e w7 ⟨rfl, hb7⟩; have hs7 := hcc w7 hb7)
          | (have g6 := hb5; go_at_call 15; refine (bv _ hb5).mono ?_; rintro e w6 ⟨rfl, hb6⟩; have hs6 := hcc w6 hb6)
          | (go_at_call 15; refine (av _ (Below.drew (Below.refl _ _))).mono ?_; rintro e w5 ⟨rfl, hb5⟩; have hs5 := hcc w5 hb5))
      have HF := Lib.hid (HB.out.trans (hb7.mono HB.out.size))
      clear hb5 hb6 hb7 hs5 hs6 hs7 hcc hc0
      go_wp2
      go_ret
      exact ⟨rfl, HF.out⟩
  · clear hend
    have hC : CRow (((w2.alloc (.cells (crow cz cl cm cn) 23)).alloc (.cells #[.int .i64 5, .int .u64 0, .int .i64 a, .int .i64 b, .string { data := #[] }, .int .i64 0] 35)).alloc (.cells #[.int .i64 5, .int .u64 0, .int .i64 ob, .int .i64 oa, .string { data := #[] }, .int .i64 0] 35)) w2.heap.size cz cl cm cn := Whole.alloc (Whole.alloc HC2.out _) _
    have hP : Whole (((w2.alloc (.cells (crow cz cl cm cn) 23)).alloc (.cells #[.int .i64 5, .int .u64 0, .int .i64 a, .int .i64 b, .string { data := #[] }, .int .i64 0] 35)).alloc (.cells #[.int .i64 5, .int .u64 0, .int .i64 ob, .int .i64 oa, .string { data := #[] }, .int .i64 0] 35)) (w2.heap.size + 1) 35 #[.int .i64 5, .int .u64 0, .int .i64 a, .int .i64 b, .string { data := #[] }, .int .i64 0] := Whole.alloc (Whole.at_ _ _ _ _ (by simp)) _
    have hQ : Whole (((w2.alloc (.cells (crow cz cl cm cn) 23)).alloc (.cells #[.int .i64 5, .int .u64 0, .int .i64 a, .int .i64 b, .string { data := #[] }, .int .i64 0] 35)).alloc (.cells #[.int .i64 5, .int .u64 0, .int .i64 ob, .int .i64 oa, .string { data := #[] }, .int .i64 0] 35)) (w2.heap.size + 1 + 1) 35 #[.int .i64 5, .int .u64 0, .int .i64 ob, .int .i64 oa, .string { data := #[] }, .int .i64 0] := Whole.at_ _ _ _ _ (by simp)
    have hB : Below w.heap.size w (((w2.alloc (.cells (crow cz cl cm cn) 23)).alloc (.cells #[.int .i64 5, .int .u64 0, .int .i64 a, .int .i64 b, .string { data := #[] }, .int .i64 0] 35)).alloc (.cells #[.int .i64 5, .int .u64 0, .int .i64 ob, .int .i64 oa, .string { data := #[] }, .int .i64 0] 35)) := (HB3.out.alloc HB3.out.size _).alloc (by have := HB3.out.size; simp at this ⊢; omega) _
    go_wp2_with fail
    obtain ⟨w4, hw4⟩ : ∃ w4, w4 = (((w2.alloc (.cells (crow cz cl cm cn) 23)).alloc (.cells #[.int .i64 5, .int .u64 0, .int .i64 a, .int .i64 b, .string { data := #[] }, .int .i64 0] 35)).alloc (.cells #[.int .i64 5, .int .u64 0, .int .i64 ob, .int .i64 oa, .string { data := #[] }, .int .i64 0] 35)) := ⟨_, rfl⟩
    rw [← hw4] at hC hP hQ hB
    show Code.wp _ _ _ _ (((w2.alloc (.cells (crow cz cl cm cn) 23)).alloc (.cells #[.int .i64 5, .int .u64 0, .int .i64 a, .int .i64 b, .string { data := #[] }, .int .i64 0] 35)).alloc (.cells #[.int .i64 5, .int .u64 0, .int .i64 ob, .int .i64 oa, .string { data := #[] }, .int .i64 0] 35))
    rw [← hw4]
    clear hw4
    have l1 := hC.lt
    have l2 := hP.lt
    have l3 := hQ.lt
    have hcc : ∀ W, Below w4.heap.size w4 W → (W.cell? ⟨w2.heap.size, 0, none⟩ = some (.int .i64 cz) ∧ W.cell? ⟨w2.heap.size, 1, none⟩ = some (.int .i64 cl) ∧ W.cell? ⟨w2.heap.size, 2, none⟩ = some (.int .i64 cm) ∧ W.cell? ⟨w2.heap.size, 3, none⟩ = some (.string (sof cn)) ∧ W.cell? ⟨w2.heap.size + 1, 0, none⟩ = some (.int .i64 5) ∧ W.cell? ⟨w2.heap.size + 1, 1, none⟩ = some (.int .u64 0) ∧ W.cell? ⟨w2.heap.size + 1, 2, none⟩ = some (.int .i64 a) ∧ W.cell? ⟨w2.heap.size + 1, 3, none⟩ = some (.int .i64 b) ∧ W.cell? ⟨w2.heap.size + 1, 4, none⟩ = some (.string { data := #[] }) ∧ W.cell? ⟨w2.heap.size + 1, 5, none⟩ = some (.int .i64 0) ∧ W.cell? ⟨w2.heap.size + 1 + 1, 0, none⟩ = some (.int .i64 5) ∧ W.cell? ⟨w2.heap.size + 1 + 1, 1, none⟩ = some (.int .u64 0) ∧ W.cell? ⟨w2.heap.size + 1 + 1, 2, none⟩ = some (.int .i64 ob) ∧ W.cell? ⟨w2.heap.size + 1 + 1, 3, none⟩ = some (.int .i64 oa) ∧ W.cell? ⟨w2.heap.size + 1 + 1, 4, none⟩ = some (.string { data := #[] }) ∧ W.cell? ⟨w2.heap.size + 1 + 1, 5, none⟩ = some (.int .i64 0)) := fun W hb => by
      obtain ⟨a0, a1, a2, a3⟩ := CRow.cells (Whole.below hC hb l1)
      have p := Whole.below hP hb l2
      have q := Whole.below hQ hb l3
      exact ⟨a0, a1, a2, a3, p.cell 0, p.cell 1, p.cell 2, p.cell 3, p.cell 4, p.cell 5, q.cell 0, q.cell 1, q.cell 2, q.cell 3, q.cell 4, q.cell 5⟩
    have hc0 := hcc w4 (Below.refl _ _)
    have av := fun W (hb : Below w4.heap.size w4 W) => (h1 W).mono fun _ _ h => And.intro h.1 (hb.trans (h.2.mono hb.size))
    have bv := fun W (hb : Below w4.heap.size w4 W) => (h2 W).mono fun _ _ h => And.intro h.1 (hb.trans (h.2.mono hb.size))
    have aw := fun W (hb : Below w4.heap.size w4 W) => (hawake W).mono fun _ _ h => And.intro h.1 (hb.trans (h.2.mono hb.size))
    have HB := Lib.hid hB
    clear hC hP hQ hB h1 h2 HC2 HB3 HB2 HK l1 l2 l3
    cases D
    all_goals
      go_region_held3 (fun W => W.cell? ⟨w2.heap.size, 0, none⟩ = some (.int .i64 cz) ∧ W.cell? ⟨w2.heap.size, 1, none⟩ = some (.int .i64 cl) ∧ W.cell? ⟨w2.heap.size, 2, none⟩ = some (.int .i64 cm) ∧ W.cell? ⟨w2.heap.size, 3, none⟩ = some (.string (sof cn)) ∧ W.cell? ⟨w2.heap.size + 1, 0, none⟩ = some (.int .i64 5) ∧ W.cell? ⟨w2.heap.size + 1, 1, none⟩ = some (.int .u64 0) ∧ W.cell? ⟨w2.heap.size + 1, 2, none⟩ = some (.int .i64 a) ∧ W.cell? ⟨w2.heap.size + 1, 3, none⟩ = some (.int .i64 b) ∧ W.cell? ⟨w2.heap.size + 1, 4, none⟩ = some (.string { data := #[] }) ∧ W.cell? ⟨w2.heap.size + 1, 5, none⟩ = some (.int .i64 0) ∧ W.cell? ⟨w2.heap.size + 1 + 1, 0, none⟩ = some (.int .i64 5) ∧ W.cell? ⟨w2.heap.size + 1 + 1, 1, none⟩ = some (.int .u64 0) ∧ W.cell? ⟨w2.heap.size + 1 + 1, 2, none⟩ = some (.int .i64 ob) ∧ W.cell? ⟨w2.heap.size + 1 + 1, 3, none⟩ = some (.int .i64 oa) ∧ W.cell? ⟨w2.heap.size + 1 + 1, 4, none⟩ = some (.string { data := #[] }) ∧ W.cell? ⟨w2.heap.size + 1 + 1, 5, none⟩ = some (.int .i64 0)) (first | exact hc0 | assumption | go_keep)
        (first
          | (have g7 := hb6; go_at_call 13; refine (aw _ hb6).mono ?_; rintro e w7 ⟨rfl, hb7⟩; have hs7 := hcc w7 hb7)
          | (have g6 := hb5; go_at_call 15; refine (bv _ hb5).mono ?_; rintro e w6 ⟨rfl, hb6⟩; have hs6 := hcc w6 hb6)
          | (go_at_call 15; refine (av _ (Below.drew (Below.refl _ _))).mono ?_; rintro e w5 ⟨rfl, hb5⟩; have hs5 := hcc w5 hb5))
      have HF := Lib.hid (HB.out.trans (hb7.mono HB.out.size))
      clear hb5 hb6 hb7 hs5 hs6 hs7 hcc hc0
      go_wp2
      go_ret
      exact ⟨rfl, HF.out⟩
end Go.Proofs.Ytbbkjdckogcbgaa
