/-
  The first ride of one authority that is not one of another: witness.
  Witness of the comparing package.
  Within of the comparing package.
  The reference's Witness.
-/
import Derived.Laws.BitsAllLaws
import Derived.Test.YtgbcncfhmnhljaaDoorPk12
import Derived.Test.YtgbcncfhmnhljaaDoorPk14
import Derived.Test.YtgbcncfhmnhljaaDoorPk25
import Derived.Test.YtgbcncfhmnhljaaDoorPk38
import Derived.Test.YtgbcncfhmnhljaaDoorPk15
namespace Go.Proofs.YtgbcncfhmnhljaaDoor
open Go Go.RowKit Sh Leaf

theorem cok_of {a : Aut} (h : aok a) (hn : a.none = false) : Cok a := by
  have hr := aok_rng h hn
  have hb := aok_bd h
  obtain ⟨h1, h2, h3, h4, h5, h6, h7, h8, h9, h10, h11⟩ := hr
  exact ⟨by omega, ⟨h6, by omega⟩, ⟨by omega, h8⟩, by omega, hb.2, h10⟩
def CwP (a b : Aut) (e : Ending) : Prop := ∃ (z l m : Int) (n : List B8) (ok : Bool), e = .returned (.tuple #[.agg (crow z l m n), .bool ok]) ∧ WitR a b ⟨z, l, m, n⟩ ok
theorem CwP.mk {a b : Aut} {e : Ending} (z l m : Int) (n : List B8) (ok : Bool) (he : e = .returned (.tuple #[.agg (crow z l m n), .bool ok])) (h : WitR a b ⟨z, l, m, n⟩ ok) : CwP a b e := ⟨z, l, m, n, ok, he, h⟩
set_option linter.unusedSimpArgs false in
set_option maxRecDepth 100000 in
set_option maxHeartbeats 4000000 in
theorem cwit {w : World} {Q1 Q2 : Nat → Prop} {x y : Value} {a b : Aut} (hT : Tab w) (hx : Av w Q1 x a) (hy : Av w Q2 y b) (ha : aok a) (hb : aok b) :
    Calls Tryd.prog 20 #[x, y] w fun e w' => CwP a b e ∧ Below w.heap.size w w' := by
  have hx0 := hx.any
  have hy0 := hy.any
  obtain ⟨A1, c1, rfl, hS1, hab1⟩ := hx
  obtain ⟨A2, c2, rfl, hS2, hab2⟩ := hy
  obtain ⟨p, hp⟩ : ∃ p, p = ((w.alloc (.cells (avl a A1 c1) 25)).alloc (.cells (avl b A2 c2) 25)).alloc (.cells zctx 34) := ⟨_, rfl⟩
  have hbl : Below w.heap.size w p := by rw [hp]; exact (ab_below _ _ _).alloc (by simp; omega) _
  have hr1 : ARow p w.heap.size a.none a.zones a.lines a.days a.lo a.hi (.slice A1 a.daily.length c1) a.holder := by rw [hp]; exact ((Whole.here _ _ _).alloc _).alloc _
  have hr2 : ARow p (w.heap.size + 1) b.none b.zones b.lines b.days b.lo b.hi (.slice A2 b.daily.length c2) b.holder := by rw [hp]; exact (Whole.at_ _ _ _ _ (by simp)).alloc _
  have hz : Whole p (w.heap.size + 2) 34 zctx := by rw [hp]; exact Whole.at_ _ _ _ _ (by simp)
  have hps : w.heap.size + 2 < p.heap.size := Whole.lt hz
  have hc1 : ∀ W, Below p.heap.size p W → W.cell? ⟨w.heap.size, 0, none⟩ = some (.bool a.none) ∧ W.cell? ⟨w.heap.size, 1, none⟩ = some (.int .u64 (a.zones : Int)) ∧ W.cell? ⟨w.heap.size, 2, none⟩ = some (.int .u64 (a.lines : Int)) ∧ W.cell? ⟨w.heap.size, 3, none⟩ = some (.int .u64 (a.days : Int)) ∧ W.cell? ⟨w.heap.size, 4, none⟩ = some (.int .i64 a.lo) ∧ W.cell? ⟨w.heap.size, 5, none⟩ = some (.int .i64 a.hi) ∧ W.cell? ⟨w.heap.size, 6, none⟩ = some (.slice A1 a.daily.length c1) ∧ W.cell? ⟨w.heap.size, 7, none⟩ = some (.string (sof a.holder)) := fun W h => ARow.cells (Whole.below hr1 h (Whole.lt hr1))
  have hc2 : ∀ W, Below p.heap.size p W → W.cell? ⟨(w.heap.size + 1), 0, none⟩ = some (.bool b.none) ∧ W.cell? ⟨(w.heap.size + 1), 1, none⟩ = some (.int .u64 (b.zones : Int)) ∧ W.cell? ⟨(w.heap.size + 1), 2, none⟩ = some (.int .u64 (b.lines : Int)) ∧ W.cell? ⟨(w.heap.size + 1), 3, none⟩ = some (.int .u64 (b.days : Int)) ∧ W.cell? ⟨(w.heap.size + 1), 4, none⟩ = some (.int .i64 b.lo) ∧ W.cell? ⟨(w.heap.size + 1), 5, none⟩ = some (.int .i64 b.hi) ∧ W.cell? ⟨(w.heap.size + 1), 6, none⟩ = some (.slice A2 b.daily.length c2) ∧ W.cell? ⟨(w.heap.size + 1), 7, none⟩ = some (.string (sof b.holder)) := fun W h => ARow.cells (Whole.below hr2 h (Whole.lt hr2))
  have hav1 : ∀ W, Below p.heap.size p W → Av W (fun _ => True) (.agg (arow a.none a.zones a.lines a.days a.lo a.hi (.slice A1 a.daily.length c1) a.holder)) a := fun W h => (Av.below hx0 (hbl.trans (h.mono hbl.size)) (Nat.le_refl _)).all
  have hav2 : ∀ W, Below p.heap.size p W → Av W (fun _ => True) (.agg (arow b.none b.zones b.lines b.days b.lo b.hi (.slice A2 b.daily.length c2) b.holder)) b := fun W h => (Av.below hy0 (hbl.trans (h.mono hbl.size)) (Nat.le_refl _)).all
  have hTp : ∀ W, Below p.heap.size p W → Tab W := fun W h => (hT.below hbl (Nat.le_refl _)).below h (Nat.le_refl _)
  have hzz : ∀ W, Below p.heap.size p W → Whole W (w.heap.size + 2) 34 zctx := fun W h => Whole.below hz h (Whole.lt hz)
  have H1 := Lib.hid hc1
  have H2 := Lib.hid hc2
  have H3 := Lib.hid hav1
  have H4 := Lib.hid hav2
  have H5 := Lib.hid hTp
  have H6 := Lib.hid hzz
  have HB := Lib.hid hbl
  have HA := Lib.hid ha
  have HBB := Lib.hid hb
  have HD := Lib.hid (And.intro hab1 hab2)
  obtain ⟨x0, x1, x2, x3, x4, x5, x6, x7⟩ := hc1 p (Below.refl _ _)
  clear hx0 hy0 hS1 hS2 hab1 hab2 hr1 hr2 hz hc1 hc2 hav1 hav2 hTp hzz hbl hT ha hb
  go_enter Tryd.func20, Tryd.ntmps20
  go_upto_region 1 with fail
  rw [← hp]
  clear hp
  go_wp2_with fail
  refine (cleast (H5.out p (Below.refl _ _)) (H3.out p (Below.refl _ _)) HA.out).mono ?_
  rintro e u1 ⟨⟨z, l, m, n, ok, rfl, hL⟩, hb1⟩
  clear x0 x1 x2 x3 x4 x5 x6 x7
  obtain ⟨q, hq⟩ : ∃ q, q = u1.alloc (.cells (crow z l m n) 34) := ⟨_, rfl⟩
  have hbq : Below u1.heap.size u1 q := by rw [hq]; exact (Below.refl _ _).alloc (Nat.le_refl _) _
  have hC : CRow q u1.heap.size z l m n := by rw [hq]; exact Whole.here _ _ _
  have hpq : Below p.heap.size p q := hb1.trans (hbq.mono hb1.size)
  have hpu : p.heap.size ≤ u1.heap.size := hb1.size
  have HC := Lib.hid hC
  have HPQ := Lib.hid hpq
  obtain ⟨y0, y1, y2, y3, y4, y5, y6, y7⟩ := H2.out q hpq
  obtain ⟨k0, k1, k2, k3⟩ := CRow.cells hC
  clear hb1 hbq hC hpq
  go_upto_region 2 with fail
  rw [← hq]
  clear hq
  cases ok
  · have hW : WitR a b ⟨z, l, m, n⟩ false := by
      rcases hL with ⟨h1, h2, _⟩ | ⟨_, _, h, _⟩
      · exact .inl ⟨h1.elim (fun h => .inl h) (fun h => .inr (.inr h)), h2, rfl⟩
      · cases h
    have HW := Lib.hid hW
    have HZ := Lib.hid (H6.out q HPQ.out)
    clear hL hW y0 y1 y2 y3 y4 y5 y6 y7
    go_wp2_with (with_reducible refine wpList_store_ctx0 rfl _ _ rfl (g := w.heap.size + 2) rfl rfl HZ.out rfl rfl (by with_unfolding_all rfl) ?_)
    refine bodyPost_ret (results_ctx2 (g := w.heap.size + 2) Tryd.results20 _ rfl _ rfl rfl (Whole.setRow HZ.out _)) rfl ?_
    exact ⟨CwP.mk z l m n false rfl HW.out, below_setRow (HB.out.trans (HPQ.out.mono (Below.size HB.out))) (by omega) _⟩
  obtain ⟨hno, i, j, hi, hj, hcc⟩ : a.none = false ∧ ∃ i j : Nat, IsLow a.zones i ∧ IsLow a.lines j ∧ (⟨z, l, m, n⟩ : Ctx) = ⟨i, j, a.lo, pick a.holder⟩ := by
    rcases hL with ⟨_, _, h⟩ | ⟨_, h1, _, i, j, h2, h3, h4⟩
    · cases h
    · exact ⟨h1, i, j, h2, h3, h4⟩
  have hfc := (LeastR.facts HA.out hno hi hj).1
  rw [← hcc] at hfc
  have hnl : n.length ≤ 9223372036854775807 := by have := hfc.2.2.2.2.1; simp only at this; omega
  obtain ⟨V, hV⟩ : ∃ V, decide (aok b ∧ cok ⟨z, l, m, n⟩ ∧ ina b ⟨z, l, m, n⟩) = V := ⟨_, rfl⟩
  have hcon := law_con (p := q) (W := q) (Below.refl _ _) (H4.out q HPQ.out) hnl hV
  have hVV : V = true ↔ ina b ⟨z, l, m, n⟩ := by
    rw [← hV, decide_eq_true_iff]
    exact ⟨fun h => h.2.2, fun h => ⟨HBB.out, hfc, h⟩⟩
  clear hL hV hnl hfc
  have HVV := Lib.hid hVV
  have HCC := Lib.hid (And.intro hno (And.intro hi (And.intro hj hcc)))
  clear hVV hno hi hj hcc
  go_wp2_with fail
  refine hcon.mono ?_
  rintro e u2 ⟨rfl, -, hbu⟩
  have HPU : Hid (Below p.heap.size p u2) := Lib.hid (HPQ.out.trans (hbu.mono HPQ.out.size))
  have HCU : Hid (CRow u2 u1.heap.size z l m n) := Lib.hid (Whole.below HC.out hbu (Whole.lt HC.out))
  clear hcon hbu y0 y1 y2 y3 y4 y5 y6 y7 k0 k1 k2 k3 HC
  obtain ⟨k0, k1, k2, k3⟩ := CRow.cells HCU.out
  cases V
  · have hW : WitR a b ⟨z, l, m, n⟩ true := by
      have hni : ¬ ina b ⟨z, l, m, n⟩ := fun h => by have := HVV.out.2 h; cases this
      obtain ⟨h1, h2, h3, h4⟩ := HCC.out
      rw [h4] at hni ⊢
      exact .inr ⟨HA.out, HBB.out, h1, i, j, h2, h3, .inl ⟨hni, rfl, rfl⟩⟩
    have HW := Lib.hid hW
    have HZ := Lib.hid (H6.out u2 HPU.out)
    clear hW
    go_wp2_with (with_reducible refine wpList_store_ctx0 rfl _ _ rfl (g := w.heap.size + 2) rfl rfl HZ.out rfl rfl (by with_unfolding_all rfl) ?_)
    refine bodyPost_ret (results_ctx2 (g := w.heap.size + 2) Tryd.results20 _ rfl _ rfl rfl (Whole.setRow HZ.out _)) rfl ?_
    exact ⟨CwP.mk z l m n true rfl HW.out, below_setRow (HB.out.trans (HPU.out.mono (Below.size HB.out))) (by omega) _⟩
  have hib : ina b ⟨z, l, m, n⟩ := HVV.out.1 rfl
  have hca : Cok a := cok_of HA.out HCC.out.1
  have hcb : Cok b := cok_of HBB.out hib.1
  obtain ⟨x0, x1, x2, x3, x4, x5, x6, x7⟩ := H1.out u2 HPU.out
  obtain ⟨y0, y1, y2, y3, y4, y5, y6, y7⟩ := H2.out u2 HPU.out
  have HIB := Lib.hid hib
  have hfm := cfirst (H3.out u2 HPU.out) (H4.out u2 HPU.out) hca hcb
  clear hib hca hcb HVV
  go_wp2_with fail
  refine hfm.mono ?_
  rintro e u3 ⟨⟨mm, ff, rfl, hF⟩, hb3⟩
  have hp3 : Below p.heap.size p u3 := HPU.out.trans (hb3.mono HPU.out.size)
  have hC3 : CRow u3 u1.heap.size z l m n := Whole.below HCU.out hb3 (Whole.lt HCU.out)
  have HP3 := Lib.hid hp3
  have HC3 := Lib.hid hC3
  have HF := Lib.hid hF
  clear hfm hF hb3 x0 x1 x2 x3 x4 x5 x6 x7 y0 y1 y2 y3 y4 y5 y6 y7 k0 k1 k2 k3 HCU HPU hC3
  obtain ⟨x0, x1, x2, x3, x4, x5, x6, x7⟩ := H1.out u3 hp3
  obtain ⟨y0, y1, y2, y3, y4, y5, y6, y7⟩ := H2.out u3 hp3
  clear hp3
  obtain ⟨dL, hdL⟩ : ∃ d, d = a.lines &&& (18446744073709551615 - b.lines) := ⟨_, rfl⟩
  obtain ⟨dZ, hdZ⟩ : ∃ d, d = a.zones &&& (18446744073709551615 - b.zones) := ⟨_, rfl⟩
  have eL : bits .andNot .u64 (a.lines : Int) (b.lines : Int) = (dL : Int) := by rw [hdL]; exact u64_andNot_nat _ _ HD.out.1.2.1 HD.out.2.2.1
  have eZ : bits .andNot .u64 (a.zones : Int) (b.zones : Int) = (dZ : Int) := by rw [hdZ]; exact u64_andNot_nat _ _ HD.out.1.1 HD.out.2.1
  have HDD := Lib.hid (And.intro hdL hdZ)
  have HLT : Hid (dL < 18446744073709551616 ∧ dZ < 18446744073709551616) := Lib.hid ⟨by rw [hdL]; exact Nat.lt_of_le_of_lt Nat.and_le_left HD.out.1.2.1, by rw [hdZ]; exact Nat.lt_of_le_of_lt Nat.and_le_left HD.out.1.1⟩
  clear hdL hdZ
  go_upto_region 5 with fail
  go_quiet (fail)
  have HP4 : Hid (Below p.heap.size p (u3.drewN nq)) := Lib.hid (below_drewN HP3.out nq)
  have HC4 : Hid (CRow (u3.drewN nq) u1.heap.size z l m n) := Lib.hid HC3.out
  have z7 : (u3.drewN nq).cell? ⟨w.heap.size, 7, none⟩ = some (.string (sof a.holder)) := x7
  have w7 : (u3.drewN nq).cell? ⟨w.heap.size + 1, 7, none⟩ = some (.string (sof b.holder)) := y7
  clear x0 x1 x2 x3 x4 x5 x6 x7 y0 y1 y2 y3 y4 y5 y6 y7 HP3 HC3 eL eZ
  generalize u3.drewN nq = u4 at HP4 HC4 z7 w7 ⊢
  obtain ⟨k0, k1, k2, k3⟩ := CRow.cells HC4.out
  obtain ⟨f0, f1, f2, f3⟩ := CRow.frees HC4.out
  have e98 : ({ data := #[98] } : ByteArray) = sof [98#8] := by unfold sof; rfl
  have HCI := HCC.out.2.2.2
  simp only [Ctx.mk.injEq] at HCI
  obtain ⟨ez, el, em, en⟩ := HCI
  have hib2 := HIB.out
  rw [HCC.out.2.2.2] at hib2
  have HW : Hid (∀ c ok, ((a.holder = [] ∧ b.holder ≠ [] ∧ c = ⟨i, j, a.lo, [98#8]⟩ ∧ ok = true) ∨ (¬ (a.holder = [] ∧ b.holder ≠ []) ∧ ((∃ m, FirstMin a b m ∧ c = ⟨i, j, m, pick a.holder⟩ ∧ ok = true) ∨ (NoMin a b ∧ ((∃ i', IsLow dL i' ∧ c = ⟨i, i', a.lo, pick a.holder⟩ ∧ ok = true) ∨ (dL = 0 ∧ ((∃ i', IsLow dZ i' ∧ c = ⟨i', j, a.lo, pick a.holder⟩ ∧ ok = true) ∨ (dZ = 0 ∧ c = zeroC ∧ ok = false)))))))) → WitR a b c ok) := Lib.hid fun c ok h => .inr ⟨HA.out, HBB.out, HCC.out.1, i, j, HCC.out.2.1, HCC.out.2.2.1, .inr ⟨hib2, by rw [← HDD.out.1, ← HDD.out.2]; exact h⟩⟩
  have HEQ := Lib.hid (And.intro ez (And.intro el (And.intro em en)))
  clear ez el em en hib2 HIB HDD HD HCC
  by_cases hA : a.holder = []
  · have ea : (sof a.holder).toList.isEmpty = true := by rw [sof_emp, hA]; rfl
    by_cases hB : b.holder = []
    · have eb : (sof b.holder).toList.isEmpty = true := by rw [sof_emp, hB]; rfl
      have HNN : Hid (¬ (a.holder = [] ∧ b.holder ≠ [])) := Lib.hid fun h => h.2 hB
      clear hA hB
      rcases HF.out with ⟨rfl, kk, rfl, hk⟩ | ⟨rfl, hk⟩
      · have hW : WitR a b ⟨z, l, (kk : Int), n⟩ true := HW.out _ _ (.inr ⟨HNN.out, .inl ⟨kk, hk, by rw [HEQ.out.1, HEQ.out.2.1, HEQ.out.2.2.2], rfl⟩⟩)
        have HX := Lib.hid hW
        clear hW hk
        go_upto_region 15 with fail
        have hC6 : CRow (u4.setCell ⟨u1.heap.size, 2, none⟩ (.int .i64 (kk : Int))) u1.heap.size z l (kk : Int) n := CRow.set2 HC4.out _
        have hP6 : Below p.heap.size p (u4.setCell ⟨u1.heap.size, 2, none⟩ (.int .i64 (kk : Int))) := HP4.out.setCell (p := ⟨u1.heap.size, 2, none⟩) hpu _
        have HC6 := Lib.hid hC6
        have HP6 := Lib.hid hP6
        clear hC6 hP6 k0 k1 k2 k3 f0 f1 f2 f3 z7 w7
        generalize u4.setCell ⟨u1.heap.size, 2, none⟩ (.int .i64 (kk : Int)) = u6 at HC6 HP6 ⊢
        have HZ := Lib.hid (H6.out _ HP6.out)
        obtain ⟨k0, k1, k2, k3⟩ := CRow.cells HC6.out
        go_wp2_with (with_reducible refine wpList_store_ctx0 rfl _ _ rfl (g := w.heap.size + 2) rfl rfl HZ.out rfl rfl (by with_unfolding_all rfl) ?_)
        refine bodyPost_ret (results_ctx2 (g := w.heap.size + 2) Tryd.results20 _ rfl _ rfl rfl (Whole.setRow HZ.out _)) rfl ?_
        exact ⟨CwP.mk _ _ _ _ true rfl HX.out, below_setRow (HB.out.trans (HP6.out.mono (Below.size HB.out))) (by omega) _⟩
      by_cases hl0 : dL = 0
      · have hlz : ((dL : Int) != 0) = false := by simp [hl0]
        by_cases hz0 : dZ = 0
        · have hzz : ((dZ : Int) != 0) = false := by simp [hz0]
          have hW : WitR a b ⟨0, 0, 0, []⟩ false := HW.out _ _ (.inr ⟨HNN.out, .inr ⟨hk, .inr ⟨hl0, .inr ⟨hz0, rfl, rfl⟩⟩⟩⟩)
          have HX := Lib.hid hW
          have HZ := Lib.hid (H6.out _ HP4.out)
          clear hW hk hl0 hz0
          go_wp2_with (with_reducible refine wpList_store_ctx0 rfl _ _ rfl (g := w.heap.size + 2) rfl rfl HZ.out rfl rfl (by with_unfolding_all rfl) ?_)
          refine bodyPost_ret (results_ctx2 (g := w.heap.size + 2) Tryd.results20 _ rfl _ rfl rfl (Whole.setRow HZ.out _)) rfl ?_
          exact ⟨CwP.mk 0 0 0 [] false (by rw [crow0]; rfl) HX.out, below_setRow (HB.out.trans (HP4.out.mono (Below.size HB.out))) (by omega) _⟩
        · have hzz : ((dZ : Int) != 0) = true := by simp [hz0]
          have hlw := clowest dZ HLT.out.2 hz0 _ (H5.out u4 HP4.out)
          have HK := Lib.hid (And.intro hk hl0)
          clear hk hl0 hz0
          go_wp2_with fail
          refine hlw.mono ?_
          rintro e u5 ⟨⟨ii, rfl, hii, -⟩, hu⟩
          obtain rfl : u4 = u5 := hu.symm
          have hW : WitR a b ⟨(ii : Int), l, m, n⟩ true := HW.out _ _ (.inr ⟨HNN.out, .inr ⟨HK.out.1, .inr ⟨HK.out.2, .inl ⟨ii, hii, by rw [HEQ.out.2.1, HEQ.out.2.2.1, HEQ.out.2.2.2], rfl⟩⟩⟩⟩)
          have HX := Lib.hid hW
          clear hW hlw hii hu
          go_upto_region 15 with fail
          have hC6 : CRow (u4.setCell ⟨u1.heap.size, 0, none⟩ (.int .i64 (ii : Int))) u1.heap.size (ii : Int) l m n := CRow.set0 HC4.out _
          have hP6 : Below p.heap.size p (u4.setCell ⟨u1.heap.size, 0, none⟩ (.int .i64 (ii : Int))) := HP4.out.setCell (p := ⟨u1.heap.size, 0, none⟩) hpu _
          have HC6 := Lib.hid hC6
          have HP6 := Lib.hid hP6
          clear hC6 hP6 k0 k1 k2 k3 f0 f1 f2 f3 z7 w7
          generalize u4.setCell ⟨u1.heap.size, 0, none⟩ (.int .i64 (ii : Int)) = u6 at HC6 HP6 ⊢
          have HZ := Lib.hid (H6.out _ HP6.out)
          obtain ⟨k0, k1, k2, k3⟩ := CRow.cells HC6.out
          go_wp2_with (with_reducible refine wpList_store_ctx0 rfl _ _ rfl (g := w.heap.size + 2) rfl rfl HZ.out rfl rfl (by with_unfolding_all rfl) ?_)
          refine bodyPost_ret (results_ctx2 (g := w.heap.size + 2) Tryd.results20 _ rfl _ rfl rfl (Whole.setRow HZ.out _)) rfl ?_
          exact ⟨CwP.mk _ _ _ _ true rfl HX.out, below_setRow (HB.out.trans (HP6.out.mono (Below.size HB.out))) (by omega) _⟩
      · have hlz : ((dL : Int) != 0) = true := by simp [hl0]
        have hlw := clowest dL HLT.out.1 hl0 _ (H5.out u4 HP4.out)
        have HK := Lib.hid hk
        clear hk hl0
        go_wp2_with fail
        refine hlw.mono ?_
        rintro e u5 ⟨⟨ii, rfl, hii, -⟩, hu⟩
        obtain rfl : u4 = u5 := hu.symm
        have hW : WitR a b ⟨z, (ii : Int), m, n⟩ true := HW.out _ _ (.inr ⟨HNN.out, .inr ⟨HK.out, .inl ⟨ii, hii, by rw [HEQ.out.1, HEQ.out.2.2.1, HEQ.out.2.2.2], rfl⟩⟩⟩)
        have HX := Lib.hid hW
        clear hW hlw hii hu
        go_upto_region 15 with fail
        have hC6 : CRow (u4.setCell ⟨u1.heap.size, 1, none⟩ (.int .i64 (ii : Int))) u1.heap.size z (ii : Int) m n := CRow.set1 HC4.out _
        have hP6 : Below p.heap.size p (u4.setCell ⟨u1.heap.size, 1, none⟩ (.int .i64 (ii : Int))) := HP4.out.setCell (p := ⟨u1.heap.size, 1, none⟩) hpu _
        have HC6 := Lib.hid hC6
        have HP6 := Lib.hid hP6
        clear hC6 hP6 k0 k1 k2 k3 f0 f1 f2 f3 z7 w7
        generalize u4.setCell ⟨u1.heap.size, 1, none⟩ (.int .i64 (ii : Int)) = u6 at HC6 HP6 ⊢
        have HZ := Lib.hid (H6.out _ HP6.out)
        obtain ⟨k0, k1, k2, k3⟩ := CRow.cells HC6.out
        go_wp2_with (with_reducible refine wpList_store_ctx0 rfl _ _ rfl (g := w.heap.size + 2) rfl rfl HZ.out rfl rfl (by with_unfolding_all rfl) ?_)
        refine bodyPost_ret (results_ctx2 (g := w.heap.size + 2) Tryd.results20 _ rfl _ rfl rfl (Whole.setRow HZ.out _)) rfl ?_
        exact ⟨CwP.mk _ _ _ _ true rfl HX.out, below_setRow (HB.out.trans (HP6.out.mono (Below.size HB.out))) (by omega) _⟩
    · have eb : (sof b.holder).toList.isEmpty = false := by rw [sof_emp]; simp [hB]
      have hW : WitR a b ⟨z, l, m, [98#8]⟩ true := HW.out _ _ (.inl ⟨hA, hB, by rw [HEQ.out.1, HEQ.out.2.1, HEQ.out.2.2.1], rfl⟩)
      obtain ⟨nb, hnb⟩ : ∃ x : List B8, x = [98#8] := ⟨_, rfl⟩
      rw [← hnb] at hW e98
      have HE98 := Lib.hid e98
      clear e98
      have HX := Lib.hid hW
      clear hW hA hB hnb
      go_upto_region 15 with fail
      have hC6 : CRow (u4.setCell ⟨u1.heap.size, 3, none⟩ (.string { data := #[98] })) u1.heap.size z l m nb := by rw [HE98.out]; exact CRow.set3 HC4.out _
      have hP6 : Below p.heap.size p (u4.setCell ⟨u1.heap.size, 3, none⟩ (.string { data := #[98] })) := HP4.out.setCell (p := ⟨u1.heap.size, 3, none⟩) hpu _
      have HC6 := Lib.hid hC6
      have HP6 := Lib.hid hP6
      clear hC6 hP6 k0 k1 k2 k3 f0 f1 f2 f3 z7 w7
      generalize u4.setCell ⟨u1.heap.size, 3, none⟩ (.string { data := #[98] }) = u6 at HC6 HP6 ⊢
      have HZ := Lib.hid (H6.out _ HP6.out)
      obtain ⟨k0, k1, k2, k3⟩ := CRow.cells HC6.out
      go_wp2_with (with_reducible refine wpList_store_ctx0 rfl _ _ rfl (g := w.heap.size + 2) rfl rfl HZ.out rfl rfl (by with_unfolding_all rfl) ?_)
      refine bodyPost_ret (results_ctx2 (g := w.heap.size + 2) Tryd.results20 _ rfl _ rfl rfl (Whole.setRow HZ.out _)) rfl ?_
      exact ⟨CwP.mk _ _ _ _ true rfl HX.out, below_setRow (HB.out.trans (HP6.out.mono (Below.size HB.out))) (by omega) _⟩
  · have ea : (sof a.holder).toList.isEmpty = false := by rw [sof_emp]; simp [hA]
    have HNN : Hid (¬ (a.holder = [] ∧ b.holder ≠ [])) := Lib.hid fun h => hA h.1
    clear hA
    rcases HF.out with ⟨rfl, kk, rfl, hk⟩ | ⟨rfl, hk⟩
    · have hW : WitR a b ⟨z, l, (kk : Int), n⟩ true := HW.out _ _ (.inr ⟨HNN.out, .inl ⟨kk, hk, by rw [HEQ.out.1, HEQ.out.2.1, HEQ.out.2.2.2], rfl⟩⟩)
      have HX := Lib.hid hW
      clear hW hk
      go_upto_region 15 with fail
      have hC6 : CRow (u4.setCell ⟨u1.heap.size, 2, none⟩ (.int .i64 (kk : Int))) u1.heap.size z l (kk : Int) n := CRow.set2 HC4.out _
      have hP6 : Below p.heap.size p (u4.setCell ⟨u1.heap.size, 2, none⟩ (.int .i64 (kk : Int))) := HP4.out.setCell (p := ⟨u1.heap.size, 2, none⟩) hpu _
      have HC6 := Lib.hid hC6
      have HP6 := Lib.hid hP6
      clear hC6 hP6 k0 k1 k2 k3 f0 f1 f2 f3 z7 w7
      generalize u4.setCell ⟨u1.heap.size, 2, none⟩ (.int .i64 (kk : Int)) = u6 at HC6 HP6 ⊢
      have HZ := Lib.hid (H6.out _ HP6.out)
      obtain ⟨k0, k1, k2, k3⟩ := CRow.cells HC6.out
      go_wp2_with (with_reducible refine wpList_store_ctx0 rfl _ _ rfl (g := w.heap.size + 2) rfl rfl HZ.out rfl rfl (by with_unfolding_all rfl) ?_)
      refine bodyPost_ret (results_ctx2 (g := w.heap.size + 2) Tryd.results20 _ rfl _ rfl rfl (Whole.setRow HZ.out _)) rfl ?_
      exact ⟨CwP.mk _ _ _ _ true rfl HX.out, below_setRow (HB.out.trans (HP6.out.mono (Below.size HB.out))) (by omega) _⟩
    by_cases hl0 : dL = 0
    · have hlz : ((dL : Int) != 0) = false := by simp [hl0]
      by_cases hz0 : dZ = 0
      · have hzz : ((dZ : Int) != 0) = false := by simp [hz0]
        have hW : WitR a b ⟨0, 0, 0, []⟩ false := HW.out _ _ (.inr ⟨HNN.out, .inr ⟨hk, .inr ⟨hl0, .inr ⟨hz0, rfl, rfl⟩⟩⟩⟩)
        have HX := Lib.hid hW
        have HZ := Lib.hid (H6.out _ HP4.out)
        clear hW hk hl0 hz0
        go_wp2_with (with_reducible refine wpList_store_ctx0 rfl _ _ rfl (g := w.heap.size + 2) rfl rfl HZ.out rfl rfl (by with_unfolding_all rfl) ?_)
        refine bodyPost_ret (results_ctx2 (g := w.heap.size + 2) Tryd.results20 _ rfl _ rfl rfl (Whole.setRow HZ.out _)) rfl ?_
        exact ⟨CwP.mk 0 0 0 [] false (by rw [crow0]; rfl) HX.out, below_setRow (HB.out.trans (HP4.out.mono (Below.size HB.out))) (by omega) _⟩
      · have hzz : ((dZ : Int) != 0) = true := by simp [hz0]
        have hlw := clowest dZ HLT.out.2 hz0 _ (H5.out u4 HP4.out)
        have HK := Lib.hid (And.intro hk hl0)
        clear hk hl0 hz0
        go_wp2_with fail
        refine hlw.mono ?_
        rintro e u5 ⟨⟨ii, rfl, hii, -⟩, hu⟩
        obtain rfl : u4 = u5 := hu.symm
        have hW : WitR a b ⟨(ii : Int), l, m, n⟩ true := HW.out _ _ (.inr ⟨HNN.out, .inr ⟨HK.out.1, .inr ⟨HK.out.2, .inl ⟨ii, hii, by rw [HEQ.out.2.1, HEQ.out.2.2.1, HEQ.out.2.2.2], rfl⟩⟩⟩⟩)
        have HX := Lib.hid hW
        clear hW hlw hii hu
        go_upto_region 15 with fail
        have hC6 : CRow (u4.setCell ⟨u1.heap.size, 0, none⟩ (.int .i64 (ii : Int))) u1.heap.size (ii : Int) l m n := CRow.set0 HC4.out _
        have hP6 : Below p.heap.size p (u4.setCell ⟨u1.heap.size, 0, none⟩ (.int .i64 (ii : Int))) := HP4.out.setCell (p := ⟨u1.heap.size, 0, none⟩) hpu _
        have HC6 := Lib.hid hC6
        have HP6 := Lib.hid hP6
        clear hC6 hP6 k0 k1 k2 k3 f0 f1 f2 f3 z7 w7
        generalize u4.setCell ⟨u1.heap.size, 0, none⟩ (.int .i64 (ii : Int)) = u6 at HC6 HP6 ⊢
        have HZ := Lib.hid (H6.out _ HP6.out)
        obtain ⟨k0, k1, k2, k3⟩ := CRow.cells HC6.out
        go_wp2_with (with_reducible refine wpList_store_ctx0 rfl _ _ rfl (g := w.heap.size + 2) rfl rfl HZ.out rfl rfl (by with_unfolding_all rfl) ?_)
        refine bodyPost_ret (results_ctx2 (g := w.heap.size + 2) Tryd.results20 _ rfl _ rfl rfl (Whole.setRow HZ.out _)) rfl ?_
        exact ⟨CwP.mk _ _ _ _ true rfl HX.out, below_setRow (HB.out.trans (HP6.out.mono (Below.size HB.out))) (by omega) _⟩
    · have hlz : ((dL : Int) != 0) = true := by simp [hl0]
      have hlw := clowest dL HLT.out.1 hl0 _ (H5.out u4 HP4.out)
      have HK := Lib.hid hk
      clear hk hl0
      go_wp2_with fail
      refine hlw.mono ?_
      rintro e u5 ⟨⟨ii, rfl, hii, -⟩, hu⟩
      obtain rfl : u4 = u5 := hu.symm
      have hW : WitR a b ⟨z, (ii : Int), m, n⟩ true := HW.out _ _ (.inr ⟨HNN.out, .inr ⟨HK.out, .inl ⟨ii, hii, by rw [HEQ.out.1, HEQ.out.2.2.1, HEQ.out.2.2.2], rfl⟩⟩⟩)
      have HX := Lib.hid hW
      clear hW hlw hii hu
      go_upto_region 15 with fail
      have hC6 : CRow (u4.setCell ⟨u1.heap.size, 1, none⟩ (.int .i64 (ii : Int))) u1.heap.size z (ii : Int) m n := CRow.set1 HC4.out _
      have hP6 : Below p.heap.size p (u4.setCell ⟨u1.heap.size, 1, none⟩ (.int .i64 (ii : Int))) := HP4.out.setCell (p := ⟨u1.heap.size, 1, none⟩) hpu _
      have HC6 := Lib.hid hC6
      have HP6 := Lib.hid hP6
      clear hC6 hP6 k0 k1 k2 k3 f0 f1 f2 f3 z7 w7
      generalize u4.setCell ⟨u1.heap.size, 1, none⟩ (.int .i64 (ii : Int)) = u6 at HC6 HP6 ⊢
      have HZ := Lib.hid (H6.out _ HP6.out)
      obtain ⟨k0, k1, k2, k3⟩ := CRow.cells HC6.out
      go_wp2_with (with_reducible refine wpList_store_ctx0 rfl _ _ rfl (g := w.heap.size + 2) rfl rfl HZ.out rfl rfl (by with_unfolding_all rfl) ?_)
      refine bodyPost_ret (results_ctx2 (g := w.heap.size + 2) Tryd.results20 _ rfl _ rfl rfl (Whole.setRow HZ.out _)) rfl ?_
      exact ⟨CwP.mk _ _ _ _ true rfl HX.out, below_setRow (HB.out.trans (HP6.out.mono (Below.size HB.out))) (by omega) _⟩
end Go.Proofs.YtgbcncfhmnhljaaDoor
namespace Go.Proofs.YtgbcncfhmnhljaaDoor
open Go Go.RowKit Sh Leaf

set_option linter.unusedSimpArgs false in
set_option maxRecDepth 100000 in
set_option maxHeartbeats 4000000 in
theorem cWitness {w : World} {Q1 Q2 : Nat → Prop} {x y : Value} {a b : Aut} (hT : Tab w) (hx : Av w Q1 x a) (hy : Av w Q2 y b) :
    Calls Tryd.prog 11 #[x, y] w fun e w' => CwP a b e ∧ Below w.heap.size w w' := by
  have hx0 := hx.any
  have hy0 := hy.any
  obtain ⟨A1, c1, rfl, hS1, hab1⟩ := hx
  obtain ⟨A2, c2, rfl, hS2, hab2⟩ := hy
  obtain ⟨p, hp⟩ : ∃ p, p = ((w.alloc (.cells (avl a A1 c1) 25)).alloc (.cells (avl b A2 c2) 25)).alloc (.cells zctx 34) := ⟨_, rfl⟩
  have hbl : Below w.heap.size w p := by rw [hp]; exact (ab_below _ _ _).alloc (by simp; omega) _
  have hr1 : ARow p w.heap.size a.none a.zones a.lines a.days a.lo a.hi (.slice A1 a.daily.length c1) a.holder := by rw [hp]; exact ((Whole.here _ _ _).alloc _).alloc _
  have hr2 : ARow p (w.heap.size + 1) b.none b.zones b.lines b.days b.lo b.hi (.slice A2 b.daily.length c2) b.holder := by rw [hp]; exact (Whole.at_ _ _ _ _ (by simp)).alloc _
  have hz : Whole p (w.heap.size + 2) 34 zctx := by rw [hp]; exact Whole.at_ _ _ _ _ (by simp)
  have HZ := Lib.hid hz
  have hc1 : ∀ W, Below p.heap.size p W → W.cell? ⟨w.heap.size, 0, none⟩ = some (.bool a.none) ∧ W.cell? ⟨w.heap.size, 1, none⟩ = some (.int .u64 (a.zones : Int)) ∧ W.cell? ⟨w.heap.size, 2, none⟩ = some (.int .u64 (a.lines : Int)) ∧ W.cell? ⟨w.heap.size, 3, none⟩ = some (.int .u64 (a.days : Int)) ∧ W.cell? ⟨w.heap.size, 4, none⟩ = some (.int .i64 a.lo) ∧ W.cell? ⟨w.heap.size, 5, none⟩ = some (.int .i64 a.hi) ∧ W.cell? ⟨w.heap.size, 6, none⟩ = some (.slice A1 a.daily.length c1) ∧ W.cell? ⟨w.heap.size, 7, none⟩ = some (.string (sof a.holder)) := fun W h => ARow.cells (Whole.below hr1 h (Whole.lt hr1))
  have hc2 : ∀ W, Below p.heap.size p W → W.cell? ⟨(w.heap.size + 1), 0, none⟩ = some (.bool b.none) ∧ W.cell? ⟨(w.heap.size + 1), 1, none⟩ = some (.int .u64 (b.zones : Int)) ∧ W.cell? ⟨(w.heap.size + 1), 2, none⟩ = some (.int .u64 (b.lines : Int)) ∧ W.cell? ⟨(w.heap.size + 1), 3, none⟩ = some (.int .u64 (b.days : Int)) ∧ W.cell? ⟨(w.heap.size + 1), 4, none⟩ = some (.int .i64 b.lo) ∧ W.cell? ⟨(w.heap.size + 1), 5, none⟩ = some (.int .i64 b.hi) ∧ W.cell? ⟨(w.heap.size + 1), 6, none⟩ = some (.slice A2 b.daily.length c2) ∧ W.cell? ⟨(w.heap.size + 1), 7, none⟩ = some (.string (sof b.holder)) := fun W h => ARow.cells (Whole.below hr2 h (Whole.lt hr2))
  have hav1 : ∀ W, Below p.heap.size p W → Av W (fun _ => True) (.agg (arow a.none a.zones a.lines a.days a.lo a.hi (.slice A1 a.daily.length c1) a.holder)) a := fun W h => (Av.below hx0 (hbl.trans (h.mono hbl.size)) (Nat.le_refl _)).all
  have hav2 : ∀ W, Below p.heap.size p W → Av W (fun _ => True) (.agg (arow b.none b.zones b.lines b.days b.lo b.hi (.slice A2 b.daily.length c2) b.holder)) b := fun W h => (Av.below hy0 (hbl.trans (h.mono hbl.size)) (Nat.le_refl _)).all
  have hTp : ∀ W, Below p.heap.size p W → Tab W := fun W h => (hT.below hbl (Nat.le_refl _)).below h (Nat.le_refl _)
  have H1 := Lib.hid hc1
  have H2 := Lib.hid hc2
  have H3 := Lib.hid hav1
  have H4 := Lib.hid hav2
  have H5 := Lib.hid hTp
  have HB := Lib.hid hbl
  obtain ⟨x0, x1, x2, x3, x4, x5, x6, x7⟩ := hc1 p (Below.refl _ _)
  obtain ⟨Va, hVa⟩ : ∃ V, decide (aok a) = V := ⟨_, rfl⟩
  obtain ⟨Vb, hVb⟩ : ∃ V, decide (aok b) = V := ⟨_, rfl⟩
  have kA := law_valid (Below.refl p.heap.size p) (hav1 p (Below.refl _ _)) hVa
  have kB : ∀ W, Below p.heap.size p W → Calls Tryd.prog 19 #[.agg (avl b A2 c2)] W fun e w' => e = .returned (.bool Vb) ∧ Below p.heap.size p w' ∧ Below W.heap.size W w' := fun W h => law_valid h (hav2 W h) hVb
  have hVa' : Va = true ↔ aok a := by rw [← hVa]; exact decide_eq_true_iff
  have hVb' : Vb = true ↔ aok b := by rw [← hVb]; exact decide_eq_true_iff
  have HV := Lib.hid (And.intro hVa' hVb')
  have KB := Lib.hid kB
  clear hx0 hy0 hS1 hS2 hab1 hab2 hr1 hr2 hz hc1 hc2 hav1 hav2 hTp hbl hT hVa hVb hVa' hVb' kB
  go_enter Tryd.func11, Tryd.ntmps11
  go_upto_region 1 with fail
  rw [← hp]
  clear hp
  go_wp2_with fail
  refine kA.mono ?_
  rintro e u1 ⟨rfl, hb1, -⟩
  clear kA x0 x1 x2 x3 x4 x5 x6 x7
  have HB1 := Lib.hid hb1
  clear hb1
  cases Va
  · have hna : ¬ aok a := fun h => by have := HV.out.1.2 h; cases this
    have HZ1 := Lib.hid (Whole.below HZ.out HB1.out (Whole.lt HZ.out))
    have HX : Hid (WitR a b zeroC false) := Lib.hid (.inl ⟨.inl hna, rfl, rfl⟩)
    have hps : w.heap.size + 2 < p.heap.size := Whole.lt HZ.out
    go_wp2_with (with_reducible refine wpList_store_ctx0 rfl _ _ rfl (g := w.heap.size + 2) rfl rfl HZ1.out rfl rfl (by with_unfolding_all rfl) ?_)
    refine bodyPost_ret (results_ctx2 (g := w.heap.size + 2) Tryd.results11 _ rfl _ rfl rfl (Whole.setRow HZ1.out _)) rfl ?_
    exact ⟨CwP.mk 0 0 0 [] false (by rw [crow0]; rfl) HX.out, below_setRow (HB.out.trans (Below.mono HB1.out (Below.size HB.out))) (by omega) _⟩
  obtain ⟨y0, y1, y2, y3, y4, y5, y6, y7⟩ := H2.out u1 HB1.out
  have kB := KB.out u1 HB1.out
  go_wp2_with fail
  refine kB.mono ?_
  rintro e u2 ⟨rfl, hb2, -⟩
  clear kB y0 y1 y2 y3 y4 y5 y6 y7
  have HB2 := Lib.hid hb2
  clear hb2 HB1
  cases Vb
  · have hnb : ¬ aok b := fun h => by have := HV.out.2.2 h; cases this
    have HZ1 := Lib.hid (Whole.below HZ.out HB2.out (Whole.lt HZ.out))
    have HX : Hid (WitR a b zeroC false) := Lib.hid (.inl ⟨.inr (.inl hnb), rfl, rfl⟩)
    have hps : w.heap.size + 2 < p.heap.size := Whole.lt HZ.out
    go_wp2_with (with_reducible refine wpList_store_ctx0 rfl _ _ rfl (g := w.heap.size + 2) rfl rfl HZ1.out rfl rfl (by with_unfolding_all rfl) ?_)
    refine bodyPost_ret (results_ctx2 (g := w.heap.size + 2) Tryd.results11 _ rfl _ rfl rfl (Whole.setRow HZ1.out _)) rfl ?_
    exact ⟨CwP.mk 0 0 0 [] false (by rw [crow0]; rfl) HX.out, below_setRow (HB.out.trans (Below.mono HB2.out (Below.size HB.out))) (by omega) _⟩
  have hcw := cwit (H5.out u2 HB2.out) (H3.out u2 HB2.out) (H4.out u2 HB2.out) (HV.out.1.1 (by simp)) (HV.out.2.1 (by simp))
  obtain ⟨x0, x1, x2, x3, x4, x5, x6, x7⟩ := H1.out u2 HB2.out
  obtain ⟨y0, y1, y2, y3, y4, y5, y6, y7⟩ := H2.out u2 HB2.out
  go_wp2_with fail
  refine hcw.mono ?_
  rintro e u3 ⟨⟨z, l, m, n, ok, rfl, hW⟩, hb3⟩
  have hb4 := HB2.out.trans (hb3.mono (Below.size HB2.out))
  have HB3 := Lib.hid hb4
  have HW := Lib.hid hW
  clear hcw x0 x1 x2 x3 x4 x5 x6 x7 y0 y1 y2 y3 y4 y5 y6 y7 hb3 hW hb4
  have HZ3 := Lib.hid (Whole.below HZ.out HB3.out (Whole.lt HZ.out))
  have hps : w.heap.size + 2 < p.heap.size := Whole.lt HZ.out
  go_wp2_with (with_reducible refine wpList_store_ctx0 rfl _ _ rfl (g := w.heap.size + 2) rfl rfl HZ3.out rfl rfl (by with_unfolding_all rfl) ?_)
  refine bodyPost_ret (results_ctx2 (g := w.heap.size + 2) Tryd.results11 _ rfl _ rfl rfl (Whole.setRow HZ3.out _)) rfl ?_
  exact ⟨CwP.mk z l m n ok rfl HW.out, below_setRow (HB.out.trans (Below.mono HB3.out (Below.size HB.out))) (by omega) _⟩
end Go.Proofs.YtgbcncfhmnhljaaDoor
namespace Go.Proofs.YtgbcncfhmnhljaaDoor
open Go Go.RowKit Sh Leaf

set_option linter.unusedSimpArgs false in
set_option maxRecDepth 100000 in
set_option maxHeartbeats 4000000 in
theorem cWithin {w : World} {Q1 Q2 : Nat → Prop} {x y : Value} {a b : Aut} (hT : Tab w) (hx : Av w Q1 x a) (hy : Av w Q2 y b) :
    Calls Tryd.prog 7 #[x, y] w fun e w' => e = .returned (.bool (decide (wi a b))) ∧ Below w.heap.size w w' := by
  obtain ⟨D, hD⟩ : ∃ D, D = decide (wi a b) := ⟨_, rfl⟩
  rw [← hD]
  have hx0 := hx.any
  have hy0 := hy.any
  obtain ⟨A1, c1, rfl, hS1, hab1⟩ := hx
  obtain ⟨A2, c2, rfl, hS2, hab2⟩ := hy
  obtain ⟨p, hp⟩ : ∃ p, p = (w.alloc (.cells (avl a A1 c1) 25)).alloc (.cells (avl b A2 c2) 25) := ⟨_, rfl⟩
  have hbl : Below w.heap.size w p := by rw [hp]; exact ab_below _ _ _
  have hr1 : ARow p w.heap.size a.none a.zones a.lines a.days a.lo a.hi (.slice A1 a.daily.length c1) a.holder := by rw [hp]; exact (Whole.here _ _ _).alloc _
  have hr2 : ARow p (w.heap.size + 1) b.none b.zones b.lines b.days b.lo b.hi (.slice A2 b.daily.length c2) b.holder := by rw [hp]; exact Whole.at_ _ _ _ _ (by simp)
  have hc1 : ∀ W, Below p.heap.size p W → W.cell? ⟨w.heap.size, 0, none⟩ = some (.bool a.none) ∧ W.cell? ⟨w.heap.size, 1, none⟩ = some (.int .u64 (a.zones : Int)) ∧ W.cell? ⟨w.heap.size, 2, none⟩ = some (.int .u64 (a.lines : Int)) ∧ W.cell? ⟨w.heap.size, 3, none⟩ = some (.int .u64 (a.days : Int)) ∧ W.cell? ⟨w.heap.size, 4, none⟩ = some (.int .i64 a.lo) ∧ W.cell? ⟨w.heap.size, 5, none⟩ = some (.int .i64 a.hi) ∧ W.cell? ⟨w.heap.size, 6, none⟩ = some (.slice A1 a.daily.length c1) ∧ W.cell? ⟨w.heap.size, 7, none⟩ = some (.string (sof a.holder)) := fun W h => ARow.cells (Whole.below hr1 h (Whole.lt hr1))
  have hc2 : ∀ W, Below p.heap.size p W → W.cell? ⟨(w.heap.size + 1), 0, none⟩ = some (.bool b.none) ∧ W.cell? ⟨(w.heap.size + 1), 1, none⟩ = some (.int .u64 (b.zones : Int)) ∧ W.cell? ⟨(w.heap.size + 1), 2, none⟩ = some (.int .u64 (b.lines : Int)) ∧ W.cell? ⟨(w.heap.size + 1), 3, none⟩ = some (.int .u64 (b.days : Int)) ∧ W.cell? ⟨(w.heap.size + 1), 4, none⟩ = some (.int .i64 b.lo) ∧ W.cell? ⟨(w.heap.size + 1), 5, none⟩ = some (.int .i64 b.hi) ∧ W.cell? ⟨(w.heap.size + 1), 6, none⟩ = some (.slice A2 b.daily.length c2) ∧ W.cell? ⟨(w.heap.size + 1), 7, none⟩ = some (.string (sof b.holder)) := fun W h => ARow.cells (Whole.below hr2 h (Whole.lt hr2))
  have hav1 : ∀ W, Below p.heap.size p W → Av W (fun _ => True) (.agg (arow a.none a.zones a.lines a.days a.lo a.hi (.slice A1 a.daily.length c1) a.holder)) a := fun W h => (Av.below hx0 (hbl.trans (h.mono hbl.size)) (Nat.le_refl _)).all
  have hav2 : ∀ W, Below p.heap.size p W → Av W (fun _ => True) (.agg (arow b.none b.zones b.lines b.days b.lo b.hi (.slice A2 b.daily.length c2) b.holder)) b := fun W h => (Av.below hy0 (hbl.trans (h.mono hbl.size)) (Nat.le_refl _)).all
  have hTp : ∀ W, Below p.heap.size p W → Tab W := fun W h => (hT.below hbl (Nat.le_refl _)).below h (Nat.le_refl _)
  have H1 := Lib.hid hc1
  have H2 := Lib.hid hc2
  have H3 := Lib.hid hav1
  have H4 := Lib.hid hav2
  have H5 := Lib.hid hTp
  have HB := Lib.hid hbl
  obtain ⟨x0, x1, x2, x3, x4, x5, x6, x7⟩ := hc1 p (Below.refl _ _)
  obtain ⟨Va, hVa⟩ : ∃ V, decide (aok a) = V := ⟨_, rfl⟩
  obtain ⟨Vb, hVb⟩ : ∃ V, decide (aok b) = V := ⟨_, rfl⟩
  have kA := law_valid (Below.refl p.heap.size p) (hav1 p (Below.refl _ _)) hVa
  have kB : ∀ W, Below p.heap.size p W → Calls Tryd.prog 19 #[.agg (avl b A2 c2)] W fun e w' => e = .returned (.bool Vb) ∧ Below p.heap.size p w' ∧ Below W.heap.size W w' := fun W h => law_valid h (hav2 W h) hVb
  have hVa' : Va = true ↔ aok a := by rw [← hVa]; exact decide_eq_true_iff
  have hVb' : Vb = true ↔ aok b := by rw [← hVb]; exact decide_eq_true_iff
  have HV := Lib.hid (And.intro hVa' hVb')
  have KB := Lib.hid kB
  clear hx0 hy0 hS1 hS2 hab1 hab2 hr1 hr2 hc1 hc2 hav1 hav2 hTp hbl hT hVa hVb hVa' hVb' kB
  go_enter Tryd.func7, Tryd.ntmps7
  go_upto_region 1 with fail
  rw [← hp]
  clear hp
  go_wp2_with fail
  refine kA.mono ?_
  rintro e u1 ⟨rfl, hb1, -⟩
  clear kA x0 x1 x2 x3 x4 x5 x6 x7
  have HB1 := Lib.hid hb1
  clear hb1
  cases Va
  · have hna : ¬ aok a := fun h => by have := HV.out.1.2 h; cases this
    have hX : decide (wi a b) = false := decide_eq_false fun h => hna h.1
    rw [← hD] at hX
    subst hX
    clear hD
    go_wp2
    go_ret
    exact ⟨rfl, HB.out.trans (Below.mono HB1.out (Below.size HB.out))⟩
  obtain ⟨y0, y1, y2, y3, y4, y5, y6, y7⟩ := H2.out u1 HB1.out
  have kB := KB.out u1 HB1.out
  go_wp2_with fail
  refine kB.mono ?_
  rintro e u2 ⟨rfl, hb2, -⟩
  clear kB y0 y1 y2 y3 y4 y5 y6 y7
  have HB2 := Lib.hid hb2
  clear hb2 HB1
  cases Vb
  · have hnb : ¬ aok b := fun h => by have := HV.out.2.2 h; cases this
    have hX : decide (wi a b) = false := decide_eq_false fun h => hnb h.2.1
    rw [← hD] at hX
    subst hX
    clear hD
    go_wp2
    go_ret
    exact ⟨rfl, HB.out.trans (Below.mono HB2.out (Below.size HB.out))⟩
  have hcw := cwit (H5.out u2 HB2.out) (H3.out u2 HB2.out) (H4.out u2 HB2.out) (HV.out.1.1 (by simp)) (HV.out.2.1 (by simp))
  obtain ⟨x0, x1, x2, x3, x4, x5, x6, x7⟩ := H1.out u2 HB2.out
  obtain ⟨y0, y1, y2, y3, y4, y5, y6, y7⟩ := H2.out u2 HB2.out
  go_wp2_with fail
  refine hcw.mono ?_
  rintro e u3 ⟨⟨z, l, m, n, ok, rfl, hW⟩, hb3⟩
  have hb4 := HB2.out.trans (hb3.mono (Below.size HB2.out))
  have HB3 := Lib.hid hb4
  have HW := Lib.hid hW
  clear hcw x0 x1 x2 x3 x4 x5 x6 x7 y0 y1 y2 y3 y4 y5 y6 y7 hb3 hW hb4
  have hX : D = !ok := by
    rw [hD]
    have hw := wit_within HW.out
    cases ok
    · exact decide_eq_true (hw.2 ⟨HV.out.1.1 (by simp), HV.out.2.1 (by simp), rfl⟩)
    · exact decide_eq_false fun h => by have := (hw.1 h).2.2; cases this
  subst hX
  have HA : Hid (Below u3.heap.size u3 (u3.alloc (.cells (crow z l m n) 34))) := Lib.hid ((Below.refl _ _).alloc (Nat.le_refl _) _)
  clear hD
  go_wp2
  go_ret
  exact ⟨rfl, (HB.out.trans (Below.mono HB3.out (Below.size HB.out))).trans (HA.out.mono (Nat.le_trans (Below.size HB.out) (Below.size HB3.out)))⟩
end Go.Proofs.YtgbcncfhmnhljaaDoor
namespace Go.Proofs.YtgbcncfhmnhljaaDoor
open Go Go.RowKit Sh Leaf

set_option linter.unusedSimpArgs false in
set_option maxRecDepth 100000 in
set_option maxHeartbeats 8000000 in
theorem rWitness {w : World} {Q1 Q2 : Nat → Prop} {x y : Value} {a b : Aut} (hx : Av w Q1 x a) (hy : Av w Q2 y b) :
    Calls Tryd.prog 12 #[x, y] w fun e w' => CwP a b e ∧ Below w.heap.size w w' := by
  have hx0 := hx.any
  have hy0 := hy.any
  obtain ⟨A1, c1, rfl, hS1, hab1⟩ := hx
  obtain ⟨A2, c2, rfl, hS2, hab2⟩ := hy
  obtain ⟨p, hp⟩ : ∃ p, p = ((w.alloc (.cells (avl a A1 c1) 25)).alloc (.cells (avl b A2 c2) 25)).alloc (.cells zctx 34) := ⟨_, rfl⟩
  have hbl : Below w.heap.size w p := by rw [hp]; exact (ab_below _ _ _).alloc (by simp; omega) _
  have hr1 : ARow p w.heap.size a.none a.zones a.lines a.days a.lo a.hi (.slice A1 a.daily.length c1) a.holder := by rw [hp]; exact ((Whole.here _ _ _).alloc _).alloc _
  have hr2 : ARow p (w.heap.size + 1) b.none b.zones b.lines b.days b.lo b.hi (.slice A2 b.daily.length c2) b.holder := by rw [hp]; exact (Whole.at_ _ _ _ _ (by simp)).alloc _
  have hz : Whole p (w.heap.size + 2) 34 zctx := by rw [hp]; exact Whole.at_ _ _ _ _ (by simp)
  have hps : w.heap.size + 2 < p.heap.size := Whole.lt hz
  have hc1 : ∀ W, Below p.heap.size p W → W.cell? ⟨w.heap.size, 0, none⟩ = some (.bool a.none) ∧ W.cell? ⟨w.heap.size, 1, none⟩ = some (.int .u64 (a.zones : Int)) ∧ W.cell? ⟨w.heap.size, 2, none⟩ = some (.int .u64 (a.lines : Int)) ∧ W.cell? ⟨w.heap.size, 3, none⟩ = some (.int .u64 (a.days : Int)) ∧ W.cell? ⟨w.heap.size, 4, none⟩ = some (.int .i64 a.lo) ∧ W.cell? ⟨w.heap.size, 5, none⟩ = some (.int .i64 a.hi) ∧ W.cell? ⟨w.heap.size, 6, none⟩ = some (.slice A1 a.daily.length c1) ∧ W.cell? ⟨w.heap.size, 7, none⟩ = some (.string (sof a.holder)) := fun W h => ARow.cells (Whole.below hr1 h (Whole.lt hr1))
  have hc2 : ∀ W, Below p.heap.size p W → W.cell? ⟨(w.heap.size + 1), 0, none⟩ = some (.bool b.none) ∧ W.cell? ⟨(w.heap.size + 1), 1, none⟩ = some (.int .u64 (b.zones : Int)) ∧ W.cell? ⟨(w.heap.size + 1), 2, none⟩ = some (.int .u64 (b.lines : Int)) ∧ W.cell? ⟨(w.heap.size + 1), 3, none⟩ = some (.int .u64 (b.days : Int)) ∧ W.cell? ⟨(w.heap.size + 1), 4, none⟩ = some (.int .i64 b.lo) ∧ W.cell? ⟨(w.heap.size + 1), 5, none⟩ = some (.int .i64 b.hi) ∧ W.cell? ⟨(w.heap.size + 1), 6, none⟩ = some (.slice A2 b.daily.length c2) ∧ W.cell? ⟨(w.heap.size + 1), 7, none⟩ = some (.string (sof b.holder)) := fun W h => ARow.cells (Whole.below hr2 h (Whole.lt hr2))
  have hav1 : ∀ W, Below p.heap.size p W → Av W (fun _ => True) (.agg (arow a.none a.zones a.lines a.days a.lo a.hi (.slice A1 a.daily.length c1) a.holder)) a := fun W h => (Av.below hx0 (hbl.trans (h.mono hbl.size)) (Nat.le_refl _)).all
  have hav2 : ∀ W, Below p.heap.size p W → Av W (fun _ => True) (.agg (arow b.none b.zones b.lines b.days b.lo b.hi (.slice A2 b.daily.length c2) b.holder)) b := fun W h => (Av.below hy0 (hbl.trans (h.mono hbl.size)) (Nat.le_refl _)).all
  have hzz : ∀ W, Below p.heap.size p W → Whole W (w.heap.size + 2) 34 zctx := fun W h => Whole.below hz h (Whole.lt hz)
  have H1 := Lib.hid hc1
  have H2 := Lib.hid hc2
  have H3 := Lib.hid hav1
  have H4 := Lib.hid hav2
  have H6 := Lib.hid hzz
  have HB := Lib.hid hbl
  have HD := Lib.hid (And.intro hab1 hab2)
  obtain ⟨x0, x1, x2, x3, x4, x5, x6, x7⟩ := hc1 p (Below.refl _ _)
  clear hx0 hy0 hS1 hS2 hab1 hab2 hr1 hr2 hz hc1 hc2 hav1 hav2 hzz hbl
  go_enter Tryd.func12, Tryd.ntmps12
  go_upto_region 1 with fail
  rw [← hp]
  clear hp
  go_wp2_with fail
  refine (rLeast (H3.out p (Below.refl _ _))).mono ?_
  rintro e u1 ⟨⟨z, l, m, n, ok, rfl, hL⟩, hb1⟩
  clear x0 x1 x2 x3 x4 x5 x6 x7
  obtain ⟨q, hq⟩ : ∃ q, q = u1.alloc (.cells (crow z l m n) 34) := ⟨_, rfl⟩
  have hbq : Below u1.heap.size u1 q := by rw [hq]; exact (Below.refl _ _).alloc (Nat.le_refl _) _
  have hC : CRow q u1.heap.size z l m n := by rw [hq]; exact Whole.here _ _ _
  have hpq : Below p.heap.size p q := hb1.trans (hbq.mono hb1.size)
  have hpu : p.heap.size ≤ u1.heap.size := hb1.size
  have HC := Lib.hid hC
  have HPQ := Lib.hid hpq
  obtain ⟨y0, y1, y2, y3, y4, y5, y6, y7⟩ := H2.out q hpq
  obtain ⟨k0, k1, k2, k3⟩ := CRow.cells hC
  clear hb1 hbq hC hpq
  go_upto_region 2 with fail
  rw [← hq]
  clear hq
  cases ok
  · skip
    have hW : WitR a b ⟨0, 0, 0, []⟩ false := by
      rcases hL with ⟨h1, h2, _⟩ | ⟨_, _, h, _⟩
      · exact .inl ⟨h1.elim (fun h => .inl h) (fun h => .inr (.inr h)), rfl, rfl⟩
      · cases h
    have HX := Lib.hid hW
    have HZ := Lib.hid (H6.out q HPQ.out)
    clear hL hW y0 y1 y2 y3 y4 y5 y6 y7
    go_wp2_with (with_reducible refine wpList_store_ctx0 rfl _ _ rfl (g := w.heap.size + 2) rfl rfl HZ.out rfl rfl (by with_unfolding_all rfl) ?_)
    refine bodyPost_ret (results_ctx2 (g := w.heap.size + 2) Tryd.results12 _ rfl _ rfl rfl (Whole.setRow HZ.out _)) rfl ?_
    exact ⟨CwP.mk 0 0 0 [] false (by rw [crow0]; rfl) HX.out, below_setRow (HB.out.trans (HPQ.out.mono (Below.size HB.out))) (by omega) _⟩
  obtain ⟨hak, hno, i, j, hi, hj, hcc⟩ : aok a ∧ a.none = false ∧ ∃ i j : Nat, IsLow a.zones i ∧ IsLow a.lines j ∧ (⟨z, l, m, n⟩ : Ctx) = ⟨i, j, a.lo, pick a.holder⟩ := by
    rcases hL with ⟨_, _, h⟩ | ⟨h0, h1, _, i, j, h2, h3, h4⟩
    · cases h
    · exact ⟨h0, h1, i, j, h2, h3, h4⟩
  simp only [Ctx.mk.injEq] at hcc
  obtain ⟨rfl, rfl, hm, hn⟩ := hcc
  obtain ⟨s1, s2, s3, s4, s5, s6, s7⟩ := some_aok hak hno
  have hlo := (aok_rng hak hno).2.2.2.2.2.1
  have hlh := (aok_rng hak hno).2.2.2.2.2.2.1
  have hi64 : i < 64 := bt_lt (n := 64) s2 hi.1
  have hj32 : j < 32 := bt_lt (n := 32) s4 hj.1
  obtain ⟨k, rfl⟩ : ∃ k : Nat, m = (k : Int) := ⟨m.toNat, by omega⟩
  have hk8 : k ≤ 67108864 := by omega
  have HA := Lib.hid (And.intro hak (And.intro hno (And.intro hi (And.intro hj (And.intro hm hn)))))
  have HLT : Hid (a.zones < 18446744073709551616 ∧ a.lines < 18446744073709551616) := Lib.hid ⟨s2, by omega⟩
  clear hL hak hno hi hj hm hn s1 s2 s3 s4 s5 s6 s7 hlo hlh
  obtain ⟨V, hV⟩ : ∃ V, decide (aok b) = V := ⟨_, rfl⟩
  have hcl := raok (H4.out q HPQ.out)
  rw [hV] at hcl
  go_wp2_with fail
  refine hcl.mono ?_
  rintro e u2 ⟨rfl, hbu⟩
  have hpu2 := hbu.size
  have HPU : Hid (Below p.heap.size p u2) := Lib.hid (HPQ.out.trans (hbu.mono HPQ.out.size))
  have HCU : Hid (CRow u2 u1.heap.size i j k n) := Lib.hid (Whole.below HC.out (hbu.mono (Nat.le_refl _)) (Whole.lt HC.out))
  clear hcl hbu y0 y1 y2 y3 y4 y5 y6 y7 k0 k1 k2 k3 HC
  cases V
  · skip
    have hW : WitR a b ⟨0, 0, 0, []⟩ false := .inl ⟨.inr (.inl (of_decide_eq_false hV)), rfl, rfl⟩
    have HX := Lib.hid hW
    have HZ := Lib.hid (H6.out u2 HPU.out)
    clear hW hV
    go_wp2_with (with_reducible refine wpList_store_ctx0 rfl _ _ rfl (g := w.heap.size + 2) rfl rfl HZ.out rfl rfl (by with_unfolding_all rfl) ?_)
    refine bodyPost_ret (results_ctx2 (g := w.heap.size + 2) Tryd.results12 _ rfl _ rfl rfl (Whole.setRow HZ.out _)) rfl ?_
    exact ⟨CwP.mk 0 0 0 [] false (by rw [crow0]; rfl) HX.out, below_setRow (HB.out.trans (HPU.out.mono (Below.size HB.out))) (by omega) _⟩
  have hbk : aok b := of_decide_eq_true hV
  have HBB := Lib.hid hbk
  clear hV
  obtain ⟨nb, hnb⟩ : ∃ v, b.none = v := ⟨_, rfl⟩
  have hcc : ∀ W, Below u2.heap.size u2 W → W.cell? ⟨(w.heap.size + 1), 0, none⟩ = some (.bool nb) ∧ W.cell? ⟨(w.heap.size + 1), 1, none⟩ = some (.int .u64 (b.zones : Int)) ∧ W.cell? ⟨(w.heap.size + 1), 2, none⟩ = some (.int .u64 (b.lines : Int)) ∧ W.cell? ⟨(w.heap.size + 1), 3, none⟩ = some (.int .u64 (b.days : Int)) ∧ W.cell? ⟨(w.heap.size + 1), 4, none⟩ = some (.int .i64 b.lo) ∧ W.cell? ⟨(w.heap.size + 1), 5, none⟩ = some (.int .i64 b.hi) ∧ W.cell? ⟨(w.heap.size + 1), 6, none⟩ = some (.slice A2 b.daily.length c2) ∧ W.cell? ⟨(w.heap.size + 1), 7, none⟩ = some (.string (sof b.holder)) ∧ W.cell? ⟨u1.heap.size, 0, none⟩ = some (.int .i64 (i : Int)) ∧ W.cell? ⟨u1.heap.size, 1, none⟩ = some (.int .i64 (j : Int)) ∧ W.cell? ⟨u1.heap.size, 2, none⟩ = some (.int .i64 (k : Int)) ∧ W.cell? ⟨u1.heap.size, 3, none⟩ = some (.string (sof n)) := fun W h => by
    obtain ⟨y0, y1, y2, y3, y4, y5, y6, y7⟩ := H2.out W (HPU.out.trans (h.mono HPU.out.size))
    obtain ⟨k0, k1, k2, k3⟩ := CRow.cells (Whole.below HCU.out h (Whole.lt HCU.out))
    rw [hnb] at y0
    exact ⟨y0, y1, y2, y3, y4, y5, y6, y7, k0, k1, k2, k3⟩
  obtain ⟨hbA, hbB⟩ := aok_bd hbk
  have kT : ∀ W, Below u2.heap.size u2 W → Calls Tryd.prog 24 #[.agg (arow nb b.zones b.lines b.days b.lo b.hi (.slice A2 b.daily.length c2) b.holder)] W fun e w' => (∃ g, e = .returned (.pointer (some ⟨g, 0, none⟩)) ∧ TRow w' g b.lo b.hi b.days (fun k => spb b.daily k)) ∧ Below u2.heap.size u2 w' := fun W hb' => by
    obtain ⟨A3, c3, e3, hS3, -⟩ := H4.out W (HPU.out.trans (hb'.mono HPU.out.size))
    injection e3 with e3
    rw [← hnb]
    have e4 : Value.slice A2 b.daily.length c2 = .slice A3 b.daily.length c3 := by
      have := congrArg (fun v => v.getD 6 undef) e3
      simpa [avl, arow] using this
    injection e4 with e4 e5 e6
    subst e4 e6
    exact (ttimes b.none b.zones b.lines b.days b.lo b.hi A2 c2 b.daily b.holder W hS3 hbB).mono fun e w' h => ⟨⟨_, h.1, h.2.1⟩, hb'.trans (h.2.2.mono hb'.size)⟩
  have hmn := mins_has b k
  have hC0 := hcc u2 (Below.refl _ _)
  have HCC := Lib.hid hcc
  have HKT := Lib.hid kT
  have HNB := Lib.hid hnb
  have HMN := Lib.hid hmn
  have wz : IntKind.u64.wrap (i : Int) = (i : Int) := by rw [IntKind.wrap_u64]; omega
  have mz : min i 64 = i := by omega
  have wl : IntKind.u64.wrap (j : Int) = (j : Int) := by rw [IntKind.wrap_u64]; omega
  have ml : min j 64 = j := by omega
  have bz := bit_zero b.zones i
  have bl := bit_zero b.lines j
  clear hcc kT hnb hmn hbA hbB hbk hC0
  go_upto_region 4 with fail
  go_cut [56] (fun s wx => ∃ V, s = .bool V ∧ (V = true ↔ ¬ (b.none = false ∧ bt b.zones i ∧ bt b.lines j ∧ mins b k)) ∧ Below u2.heap.size u2 wx)
  case first =>
    cases nb
    · skip
      by_cases hz : bt b.zones i
      · skip
        rw [decide_eq_true hz] at bz
        by_cases hl : bt b.lines j
        · skip
          rw [decide_eq_true hl] at bl
          obtain ⟨M, hM⟩ : ∃ M, M = hasB b.lo b.hi b.days (fun k => spb b.daily k) k := ⟨_, rfl⟩
          have HQ : Hid ((!M) = true ↔ ¬ (b.none = false ∧ bt b.zones i ∧ bt b.lines j ∧ mins b k)) := Lib.hid (by
            rw [Bool.not_eq_true', ← Bool.not_eq_true, hM, HMN.out]
            exact not_congr ⟨fun h => ⟨HNB.out, hz, hl, h⟩, fun h => h.2.2.2⟩)
          have HM := Lib.hid hM
          clear hM hz hl
          refine wp_region_held_drew (S := fun W => W.cell? ⟨(w.heap.size + 1), 0, none⟩ = some (.bool false) ∧ W.cell? ⟨(w.heap.size + 1), 1, none⟩ = some (.int .u64 (b.zones : Int)) ∧ W.cell? ⟨(w.heap.size + 1), 2, none⟩ = some (.int .u64 (b.lines : Int)) ∧ W.cell? ⟨(w.heap.size + 1), 3, none⟩ = some (.int .u64 (b.days : Int)) ∧ W.cell? ⟨(w.heap.size + 1), 4, none⟩ = some (.int .i64 b.lo) ∧ W.cell? ⟨(w.heap.size + 1), 5, none⟩ = some (.int .i64 b.hi) ∧ W.cell? ⟨(w.heap.size + 1), 6, none⟩ = some (.slice A2 b.daily.length c2) ∧ W.cell? ⟨(w.heap.size + 1), 7, none⟩ = some (.string (sof b.holder)) ∧ W.cell? ⟨u1.heap.size, 0, none⟩ = some (.int .i64 (i : Int)) ∧ W.cell? ⟨u1.heap.size, 1, none⟩ = some (.int .i64 (j : Int)) ∧ W.cell? ⟨u1.heap.size, 2, none⟩ = some (.int .i64 (k : Int)) ∧ W.cell? ⟨u1.heap.size, 3, none⟩ = some (.string (sof n))) (by kernel_rfl) (HCC.out _ (Below.drew (Below.refl _ _))) (fun hHeld => ?_)
          apply wpAnyH_take (i := 0) rfl (by kernel_rfl) (by kernel_rfl) (by kernel_rfl)
          case hQ => exact fun _ _ _ h => h
          case hS => exact hHeld
          case hy => (refine Or.inl ⟨by rfl, ?_⟩; intro w hSw; go_split_ands; go_simp; (try with_reducible rfl))
          (try simp only [List.getElem_toArray, List.getElem_cons_zero, Act.put, List.setIfInBounds_toArray, List.set_cons_zero, List.set_cons_succ])
          apply wpAnyH_take (i := 1) rfl (by kernel_rfl) (by kernel_rfl) (by kernel_rfl)
          case hQ => exact fun _ _ _ h => h
          case hS => exact hHeld
          case hy => (refine Or.inl ⟨by rfl, ?_⟩; intro w hSw; go_split_ands; go_simp; (try with_reducible rfl))
          (try simp only [List.getElem_toArray, List.getElem_cons_succ, List.getElem_cons_zero, Act.put, List.setIfInBounds_toArray, List.set_cons_zero, List.set_cons_succ])
          apply wpAnyH_take (i := 2) rfl (by kernel_rfl) (by kernel_rfl) (by kernel_rfl)
          case hQ => exact fun _ _ _ h => h
          case hS => exact hHeld
          case hy => (refine Or.inl ⟨by rfl, ?_⟩; intro w hSw; go_split_ands; go_simp; (try with_reducible rfl))
          (try simp only [List.getElem_toArray, List.getElem_cons_succ, List.getElem_cons_zero, Act.put, List.setIfInBounds_toArray, List.set_cons_zero, List.set_cons_succ])
          apply wpAnyH_take (i := 3) rfl (by kernel_rfl) (by kernel_rfl) (by kernel_rfl)
          case hQ => exact fun _ _ _ h => h
          case hS => exact hHeld
          case hy => (refine Or.inl ⟨by rfl, ?_⟩; intro w hSw; go_split_ands; go_simp; (try with_reducible rfl))
          (try simp only [List.getElem_toArray, List.getElem_cons_succ, List.getElem_cons_zero, Act.put, List.setIfInBounds_toArray, List.set_cons_zero, List.set_cons_succ])
          apply wpAnyH_take (i := 4) rfl (by kernel_rfl) (by kernel_rfl) (by kernel_rfl)
          case hQ => exact fun _ _ _ h => h
          case hS => exact hHeld
          case hy => (refine Or.inl ⟨by rfl, ?_⟩; intro w hSw; go_split_ands; go_simp; (try with_reducible rfl))
          (try simp only [List.getElem_toArray, List.getElem_cons_succ, List.getElem_cons_zero, Act.put, List.setIfInBounds_toArray, List.set_cons_zero, List.set_cons_succ])
          apply wpAnyH_take (i := 5) rfl (by kernel_rfl) (by kernel_rfl) (by kernel_rfl)
          case hQ => exact fun _ _ _ h => h
          case hS => exact hHeld
          case hy => (refine Or.inl ⟨by rfl, ?_⟩; intro w hSw; go_split_ands; go_simp; (try with_reducible rfl))
          (try simp only [List.getElem_toArray, List.getElem_cons_succ, List.getElem_cons_zero, Act.put, List.setIfInBounds_toArray, List.set_cons_zero, List.set_cons_succ])
          apply wpAnyH_take (i := 6) rfl (by kernel_rfl) (by kernel_rfl) (by kernel_rfl)
          case hQ => exact fun _ _ _ h => h
          case hS => exact hHeld
          case hy => (refine Or.inl ⟨by rfl, ?_⟩; intro w hSw; go_split_ands; go_simp; (try with_reducible rfl))
          (try simp only [List.getElem_toArray, List.getElem_cons_succ, List.getElem_cons_zero, Act.put, List.setIfInBounds_toArray, List.set_cons_zero, List.set_cons_succ])
          apply wpAnyH_take (i := 7) rfl (by kernel_rfl) (by kernel_rfl) (by kernel_rfl)
          case hQ => exact fun _ _ _ h => h
          case hS => exact hHeld
          case hy => (refine Or.inl ⟨by rfl, ?_⟩; intro w hSw; go_split_ands; go_simp; (try with_reducible rfl))
          (try simp only [List.getElem_toArray, List.getElem_cons_succ, List.getElem_cons_zero, Act.put, List.setIfInBounds_toArray, List.set_cons_zero, List.set_cons_succ])
          apply wpAnyH_take (i := 8) rfl (by kernel_rfl) (by kernel_rfl) (by kernel_rfl)
          case hQ => exact fun _ _ _ h => h
          case hS => exact hHeld
          case hy => (refine Or.inl ⟨by rfl, ?_⟩; intro w hSw; go_split_ands; go_simp; (try with_reducible rfl))
          (try simp only [List.getElem_toArray, List.getElem_cons_succ, List.getElem_cons_zero, Act.put, List.setIfInBounds_toArray, List.set_cons_zero, List.set_cons_succ])
          apply wpAnyH_take (i := 9) rfl (by kernel_rfl) (by kernel_rfl) (by kernel_rfl)
          case hQ => exact fun _ _ _ h => h
          case hS => exact hHeld
          case hy => (refine Or.inl ⟨by rfl, ?_⟩; intro w hSw; go_split_ands; go_simp; (try with_reducible rfl))
          (try simp only [List.getElem_toArray, List.getElem_cons_succ, List.getElem_cons_zero, Act.put, List.setIfInBounds_toArray, List.set_cons_zero, List.set_cons_succ])
          apply wpAnyH_take (i := 10) rfl (by kernel_rfl) (by kernel_rfl) (by kernel_rfl)
          case hQ => exact fun _ _ _ h => h
          case hS => exact hHeld
          case hy => (refine Or.inl ⟨by rfl, ?_⟩; intro w hSw; go_split_ands; go_simp; (try with_reducible rfl))
          (try simp only [List.getElem_toArray, List.getElem_cons_succ, List.getElem_cons_zero, Act.put, List.setIfInBounds_toArray, List.set_cons_zero, List.set_cons_succ])
          apply wpAnyH_take (i := 11) rfl (by kernel_rfl) (by kernel_rfl) (by kernel_rfl)
          case hQ => exact fun _ _ _ h => h
          case hS => exact hHeld
          case hy => (refine Or.inl ⟨by rfl, ?_⟩; intro w hSw; go_split_ands; go_simp; (try with_reducible rfl))
          (try simp only [List.getElem_toArray, List.getElem_cons_succ, List.getElem_cons_zero, Act.put, List.setIfInBounds_toArray, List.set_cons_zero, List.set_cons_succ])
          apply wpAnyH_take (i := 12) rfl (by kernel_rfl) (by kernel_rfl) (by kernel_rfl)
          case hQ => exact fun _ _ _ h => h
          case hS => exact hHeld
          case hy => (refine Or.inl ⟨by rfl, ?_⟩; intro w hSw; go_split_ands; go_simp; (try with_reducible rfl))
          (try simp only [List.getElem_toArray, List.getElem_cons_succ, List.getElem_cons_zero, Act.put, List.setIfInBounds_toArray, List.set_cons_zero, List.set_cons_succ])
          apply wpAnyH_take (i := 13) rfl (by kernel_rfl) (by kernel_rfl) (by kernel_rfl)
          case hQ => exact fun _ _ _ h => h
          case hS => exact hHeld
          case hy => (refine Or.inl ⟨by rfl, ?_⟩; intro w hSw; go_split_ands; go_simp; (try with_reducible rfl))
          (try simp only [List.getElem_toArray, List.getElem_cons_succ, List.getElem_cons_zero, Act.put, List.setIfInBounds_toArray, List.set_cons_zero, List.set_cons_succ])
          apply wpAnyH_take (i := 14) rfl (by kernel_rfl) (by kernel_rfl) (by kernel_rfl)
          case hQ => exact fun _ _ _ h => h
          case hS => exact hHeld
          case hy => (refine Or.inl ⟨by rfl, ?_⟩; intro w hSw; go_split_ands; go_simp; (try with_reducible rfl))
          (try simp only [List.getElem_toArray, List.getElem_cons_succ, List.getElem_cons_zero, Act.put, List.setIfInBounds_toArray, List.set_cons_zero, List.set_cons_succ])
          apply wpAnyH_take (i := 15) rfl (by kernel_rfl) (by kernel_rfl) (by kernel_rfl)
          case hQ => exact fun _ _ _ h => h
          case hS => exact hHeld
          case hy => (refine Or.inl ⟨by rfl, ?_⟩; intro w hSw; go_split_ands; go_simp; (try with_reducible rfl))
          (try simp only [List.getElem_toArray, List.getElem_cons_succ, List.getElem_cons_zero, Act.put, List.setIfInBounds_toArray, List.set_cons_zero, List.set_cons_succ])
          apply wpAnyH_take (i := 16) rfl (by kernel_rfl) (by kernel_rfl) (by kernel_rfl)
          case hQ => exact fun _ _ _ h => h
          case hS => exact hHeld
          case hy => (refine Or.inl ⟨by rfl, ?_⟩; intro w hSw; go_split_ands; go_simp; (try with_reducible rfl))
          (try simp only [List.getElem_toArray, List.getElem_cons_succ, List.getElem_cons_zero, Act.put, List.setIfInBounds_toArray, List.set_cons_zero, List.set_cons_succ])
          apply wpAnyH_take (i := 17) rfl (by kernel_rfl) (by kernel_rfl) (by kernel_rfl)
          case hQ => exact fun _ _ _ h => h
          case hS => exact hHeld
          case hy => (refine Or.inl ⟨by rfl, ?_⟩; intro w hSw; go_split_ands; go_simp; (try with_reducible rfl))
          (try simp only [List.getElem_toArray, List.getElem_cons_succ, List.getElem_cons_zero, Act.put, List.setIfInBounds_toArray, List.set_cons_zero, List.set_cons_succ])
          apply wpAnyH_take (i := 18) rfl (by kernel_rfl) (by kernel_rfl) (by kernel_rfl)
          case hQ => exact fun _ _ _ h => h
          case hS => exact hHeld
          case hy => (refine Or.inl ⟨by rfl, ?_⟩; intro w hSw; go_split_ands; go_simp; (try with_reducible rfl))
          (try simp only [List.getElem_toArray, List.getElem_cons_succ, List.getElem_cons_zero, Act.put, List.setIfInBounds_toArray, List.set_cons_zero, List.set_cons_succ])
          apply wpAnyH_take (i := 19) rfl (by kernel_rfl) (by kernel_rfl) (by kernel_rfl)
          case hQ => exact fun _ _ _ h => h
          case hS => exact hHeld
          case hy => (refine Or.inl ⟨by rfl, ?_⟩; intro w hSw; go_split_ands; go_simp; (try with_reducible rfl))
          (try simp only [List.getElem_toArray, List.getElem_cons_succ, List.getElem_cons_zero, Act.put, List.setIfInBounds_toArray, List.set_cons_zero, List.set_cons_succ])
          apply wpAnyH_take (i := 20) rfl (by kernel_rfl) (by kernel_rfl) (by kernel_rfl)
          case hQ => exact fun _ _ _ h => h
          case hS => exact hHeld
          case hy => (refine Or.inl ⟨by rfl, ?_⟩; intro w hSw; go_split_ands; go_simp; (try with_reducible rfl))
          (try simp only [List.getElem_toArray, List.getElem_cons_succ, List.getElem_cons_zero, Act.put, List.setIfInBounds_toArray, List.set_cons_zero, List.set_cons_succ])
          apply wpAnyH_take (i := 21) rfl (by kernel_rfl) (by kernel_rfl) (by kernel_rfl)
          case hQ => exact fun _ _ _ h => h
          case hS => exact hHeld
          case hy => (refine Or.inl ⟨by rfl, ?_⟩; intro w hSw; go_split_ands; go_simp; (try with_reducible rfl))
          (try simp only [List.getElem_toArray, List.getElem_cons_succ, List.getElem_cons_zero, Act.put, List.setIfInBounds_toArray, List.set_cons_zero, List.set_cons_succ])
          apply wpAnyH_take (i := 22) rfl (by kernel_rfl) (by kernel_rfl) (by kernel_rfl)
          case hQ => exact fun _ _ _ h => h
          case hS => exact hHeld
          case hy => (refine Or.inl ⟨by rfl, ?_⟩; intro w hSw; go_split_ands; go_simp; (try with_reducible rfl))
          (try simp only [List.getElem_toArray, List.getElem_cons_succ, List.getElem_cons_zero, Act.put, List.setIfInBounds_toArray, List.set_cons_zero, List.set_cons_succ])
          apply wpAnyH_take (i := 23) rfl (by kernel_rfl) (by kernel_rfl) (by kernel_rfl)
          case hQ => exact fun _ _ _ h => h
          case hS => exact hHeld
          case hy => (refine Or.inl ⟨by rfl, ?_⟩; intro w hSw; go_split_ands; go_simp; (try with_reducible rfl))
          (try simp only [List.getElem_toArray, List.getElem_cons_succ, List.getElem_cons_zero, Act.put, List.setIfInBounds_toArray, List.set_cons_zero, List.set_cons_succ])
          apply wpAnyH_take (i := 25) rfl (by kernel_rfl) (by kernel_rfl) (by kernel_rfl)
          case hQ => exact fun _ _ _ h => h
          case hS => exact hHeld
          case hy => (refine Or.inl ⟨by rfl, ?_⟩; intro w hSw; go_split_ands; go_simp; (try with_reducible rfl))
          (try simp only [List.getElem_toArray, List.getElem_cons_succ, List.getElem_cons_zero, Act.put, List.setIfInBounds_toArray, List.set_cons_zero, List.set_cons_succ])
          apply wpAnyH_take (i := 26) rfl (by kernel_rfl) (by kernel_rfl) (by kernel_rfl)
          case hQ => exact fun _ _ _ h => h
          case hS => exact hHeld
          case hy => (refine Or.inl ⟨by rfl, ?_⟩; intro w hSw; go_split_ands; go_simp; (try with_reducible rfl))
          (try simp only [List.getElem_toArray, List.getElem_cons_succ, List.getElem_cons_zero, Act.put, List.setIfInBounds_toArray, List.set_cons_zero, List.set_cons_succ])
          refine wpAnyH_ready (rs := [24]) (by kernel_rfl) (by simp) ?_
          refine AllReadyH.cons rfl (fun K hK => ?_) AllReadyH.nil
          (try simp only [List.getElem_toArray, List.getElem_cons_succ, List.getElem_cons_zero])
          go_simp
          go_at_call 24
          refine (HKT.out _ (Below.drew (Below.refl _ _))).mono ?_
          rintro e w3 ⟨⟨g, rfl, hT⟩, hb3⟩
          refine hK.out _ _ (HCC.out _ hb3) (fun hHeld => ?_)
          clear hK K
          (try simp only [List.getElem_toArray, List.getElem_cons_succ, List.getElem_cons_zero, Act.put, List.setIfInBounds_toArray, List.set_cons_zero, List.set_cons_succ])
          refine wpAnyH_ready (rs := [27]) (by kernel_rfl) (by simp) ?_
          refine AllReadyH.cons rfl (fun K hK => ?_) AllReadyH.nil
          (try simp only [List.getElem_toArray, List.getElem_cons_succ, List.getElem_cons_zero])
          go_simp
          go_at_call 25
          refine (thas g b.lo b.hi b.days _ k (by omega) w3 hT).mono ?_
          rintro e w4 ⟨rfl, hb4⟩
          obtain rfl := hb4
          rw [← HM.out]
          refine hK.out _ _ (HCC.out _ hb3) (fun hHeld => ?_)
          clear hK K
          (try simp only [List.getElem_toArray, List.getElem_cons_succ, List.getElem_cons_zero, Act.put, List.setIfInBounds_toArray, List.set_cons_zero, List.set_cons_succ])
          apply wpAnyH_take (i := 28) rfl (by kernel_rfl) (by kernel_rfl) (by kernel_rfl)
          case hQ => exact fun _ _ _ h => h
          case hS => exact hHeld
          case hy => (refine Or.inl ⟨by rfl, ?_⟩; intro w hSw; go_split_ands; go_simp; (try with_reducible rfl))
          (try simp only [List.getElem_toArray, List.getElem_cons_succ, List.getElem_cons_zero, Act.put, List.setIfInBounds_toArray, List.set_cons_zero, List.set_cons_succ])
          apply wpAnyH_take (i := 29) rfl (by kernel_rfl) (by kernel_rfl) (by kernel_rfl)
          case hQ => exact fun _ _ _ h => h
          case hS => exact hHeld
          case hy => (refine Or.inl ⟨by rfl, ?_⟩; intro w hSw; go_split_ands; go_simp; (try with_reducible rfl))
          (try simp only [List.getElem_toArray, List.getElem_cons_succ, List.getElem_cons_zero, Act.put, List.setIfInBounds_toArray, List.set_cons_zero, List.set_cons_succ])
          refine wpAnyH_done (by kernel_rfl) ?_ _
          go_wp2_with fail
          go_meet
          exact ⟨!M, rfl, HQ.out, hb3⟩
        rw [decide_eq_false hl] at bl
        have HQ : Hid (¬ (b.none = false ∧ bt b.zones i ∧ bt b.lines j ∧ mins b k)) := Lib.hid (fun h => hl h.2.2.1)
        clear hl hz
        refine wp_region_held_drew (S := fun W => W.cell? ⟨(w.heap.size + 1), 0, none⟩ = some (.bool false) ∧ W.cell? ⟨(w.heap.size + 1), 1, none⟩ = some (.int .u64 (b.zones : Int)) ∧ W.cell? ⟨(w.heap.size + 1), 2, none⟩ = some (.int .u64 (b.lines : Int)) ∧ W.cell? ⟨(w.heap.size + 1), 3, none⟩ = some (.int .u64 (b.days : Int)) ∧ W.cell? ⟨(w.heap.size + 1), 4, none⟩ = some (.int .i64 b.lo) ∧ W.cell? ⟨(w.heap.size + 1), 5, none⟩ = some (.int .i64 b.hi) ∧ W.cell? ⟨(w.heap.size + 1), 6, none⟩ = some (.slice A2 b.daily.length c2) ∧ W.cell? ⟨(w.heap.size + 1), 7, none⟩ = some (.string (sof b.holder)) ∧ W.cell? ⟨u1.heap.size, 0, none⟩ = some (.int .i64 (i : Int)) ∧ W.cell? ⟨u1.heap.size, 1, none⟩ = some (.int .i64 (j : Int)) ∧ W.cell? ⟨u1.heap.size, 2, none⟩ = some (.int .i64 (k : Int)) ∧ W.cell? ⟨u1.heap.size, 3, none⟩ = some (.string (sof n))) (by kernel_rfl) (HCC.out _ (Below.drew (Below.refl _ _))) (fun hHeld => ?_)
        apply wpAnyH_take (i := 0) rfl (by kernel_rfl) (by kernel_rfl) (by kernel_rfl)
        case hQ => exact fun _ _ _ h => h
        case hS => exact hHeld
        case hy => (refine Or.inl ⟨by rfl, ?_⟩; intro w hSw; go_split_ands; go_simp; (try with_reducible rfl))
        (try simp only [List.getElem_toArray, List.getElem_cons_zero, Act.put, List.setIfInBounds_toArray, List.set_cons_zero, List.set_cons_succ])
        apply wpAnyH_take (i := 1) rfl (by kernel_rfl) (by kernel_rfl) (by kernel_rfl)
        case hQ => exact fun _ _ _ h => h
        case hS => exact hHeld
        case hy => (refine Or.inl ⟨by rfl, ?_⟩; intro w hSw; go_split_ands; go_simp; (try with_reducible rfl))
        (try simp only [List.getElem_toArray, List.getElem_cons_succ, List.getElem_cons_zero, Act.put, List.setIfInBounds_toArray, List.set_cons_zero, List.set_cons_succ])
        apply wpAnyH_take (i := 2) rfl (by kernel_rfl) (by kernel_rfl) (by kernel_rfl)
        case hQ => exact fun _ _ _ h => h
        case hS => exact hHeld
        case hy => (refine Or.inl ⟨by rfl, ?_⟩; intro w hSw; go_split_ands; go_simp; (try with_reducible rfl))
        (try simp only [List.getElem_toArray, List.getElem_cons_succ, List.getElem_cons_zero, Act.put, List.setIfInBounds_toArray, List.set_cons_zero, List.set_cons_succ])
        apply wpAnyH_take (i := 3) rfl (by kernel_rfl) (by kernel_rfl) (by kernel_rfl)
        case hQ => exact fun _ _ _ h => h
        case hS => exact hHeld
        case hy => (refine Or.inl ⟨by rfl, ?_⟩; intro w hSw; go_split_ands; go_simp; (try with_reducible rfl))
        (try simp only [List.getElem_toArray, List.getElem_cons_succ, List.getElem_cons_zero, Act.put, List.setIfInBounds_toArray, List.set_cons_zero, List.set_cons_succ])
        apply wpAnyH_take (i := 4) rfl (by kernel_rfl) (by kernel_rfl) (by kernel_rfl)
        case hQ => exact fun _ _ _ h => h
        case hS => exact hHeld
        case hy => (refine Or.inl ⟨by rfl, ?_⟩; intro w hSw; go_split_ands; go_simp; (try with_reducible rfl))
        (try simp only [List.getElem_toArray, List.getElem_cons_succ, List.getElem_cons_zero, Act.put, List.setIfInBounds_toArray, List.set_cons_zero, List.set_cons_succ])
        apply wpAnyH_take (i := 5) rfl (by kernel_rfl) (by kernel_rfl) (by kernel_rfl)
        case hQ => exact fun _ _ _ h => h
        case hS => exact hHeld
        case hy => (refine Or.inl ⟨by rfl, ?_⟩; intro w hSw; go_split_ands; go_simp; (try with_reducible rfl))
        (try simp only [List.getElem_toArray, List.getElem_cons_succ, List.getElem_cons_zero, Act.put, List.setIfInBounds_toArray, List.set_cons_zero, List.set_cons_succ])
        apply wpAnyH_take (i := 6) rfl (by kernel_rfl) (by kernel_rfl) (by kernel_rfl)
        case hQ => exact fun _ _ _ h => h
        case hS => exact hHeld
        case hy => (refine Or.inl ⟨by rfl, ?_⟩; intro w hSw; go_split_ands; go_simp; (try with_reducible rfl))
        (try simp only [List.getElem_toArray, List.getElem_cons_succ, List.getElem_cons_zero, Act.put, List.setIfInBounds_toArray, List.set_cons_zero, List.set_cons_succ])
        apply wpAnyH_take (i := 7) rfl (by kernel_rfl) (by kernel_rfl) (by kernel_rfl)
        case hQ => exact fun _ _ _ h => h
        case hS => exact hHeld
        case hy => (refine Or.inl ⟨by rfl, ?_⟩; intro w hSw; go_split_ands; go_simp; (try with_reducible rfl))
        (try simp only [List.getElem_toArray, List.getElem_cons_succ, List.getElem_cons_zero, Act.put, List.setIfInBounds_toArray, List.set_cons_zero, List.set_cons_succ])
        apply wpAnyH_take (i := 8) rfl (by kernel_rfl) (by kernel_rfl) (by kernel_rfl)
        case hQ => exact fun _ _ _ h => h
        case hS => exact hHeld
        case hy => (refine Or.inl ⟨by rfl, ?_⟩; intro w hSw; go_split_ands; go_simp; (try with_reducible rfl))
        (try simp only [List.getElem_toArray, List.getElem_cons_succ, List.getElem_cons_zero, Act.put, List.setIfInBounds_toArray, List.set_cons_zero, List.set_cons_succ])
        apply wpAnyH_take (i := 9) rfl (by kernel_rfl) (by kernel_rfl) (by kernel_rfl)
        case hQ => exact fun _ _ _ h => h
        case hS => exact hHeld
        case hy => (refine Or.inl ⟨by rfl, ?_⟩; intro w hSw; go_split_ands; go_simp; (try with_reducible rfl))
        (try simp only [List.getElem_toArray, List.getElem_cons_succ, List.getElem_cons_zero, Act.put, List.setIfInBounds_toArray, List.set_cons_zero, List.set_cons_succ])
        apply wpAnyH_take (i := 10) rfl (by kernel_rfl) (by kernel_rfl) (by kernel_rfl)
        case hQ => exact fun _ _ _ h => h
        case hS => exact hHeld
        case hy => (refine Or.inl ⟨by rfl, ?_⟩; intro w hSw; go_split_ands; go_simp; (try with_reducible rfl))
        (try simp only [List.getElem_toArray, List.getElem_cons_succ, List.getElem_cons_zero, Act.put, List.setIfInBounds_toArray, List.set_cons_zero, List.set_cons_succ])
        apply wpAnyH_take (i := 11) rfl (by kernel_rfl) (by kernel_rfl) (by kernel_rfl)
        case hQ => exact fun _ _ _ h => h
        case hS => exact hHeld
        case hy => (refine Or.inl ⟨by rfl, ?_⟩; intro w hSw; go_split_ands; go_simp; (try with_reducible rfl))
        (try simp only [List.getElem_toArray, List.getElem_cons_succ, List.getElem_cons_zero, Act.put, List.setIfInBounds_toArray, List.set_cons_zero, List.set_cons_succ])
        apply wpAnyH_take (i := 12) rfl (by kernel_rfl) (by kernel_rfl) (by kernel_rfl)
        case hQ => exact fun _ _ _ h => h
        case hS => exact hHeld
        case hy => (refine Or.inl ⟨by rfl, ?_⟩; intro w hSw; go_split_ands; go_simp; (try with_reducible rfl))
        (try simp only [List.getElem_toArray, List.getElem_cons_succ, List.getElem_cons_zero, Act.put, List.setIfInBounds_toArray, List.set_cons_zero, List.set_cons_succ])
        apply wpAnyH_take (i := 13) rfl (by kernel_rfl) (by kernel_rfl) (by kernel_rfl)
        case hQ => exact fun _ _ _ h => h
        case hS => exact hHeld
        case hy => (refine Or.inl ⟨by rfl, ?_⟩; intro w hSw; go_split_ands; go_simp; (try with_reducible rfl))
        (try simp only [List.getElem_toArray, List.getElem_cons_succ, List.getElem_cons_zero, Act.put, List.setIfInBounds_toArray, List.set_cons_zero, List.set_cons_succ])
        apply wpAnyH_take (i := 14) rfl (by kernel_rfl) (by kernel_rfl) (by kernel_rfl)
        case hQ => exact fun _ _ _ h => h
        case hS => exact hHeld
        case hy => (refine Or.inl ⟨by rfl, ?_⟩; intro w hSw; go_split_ands; go_simp; (try with_reducible rfl))
        (try simp only [List.getElem_toArray, List.getElem_cons_succ, List.getElem_cons_zero, Act.put, List.setIfInBounds_toArray, List.set_cons_zero, List.set_cons_succ])
        apply wpAnyH_take (i := 15) rfl (by kernel_rfl) (by kernel_rfl) (by kernel_rfl)
        case hQ => exact fun _ _ _ h => h
        case hS => exact hHeld
        case hy => (refine Or.inl ⟨by rfl, ?_⟩; intro w hSw; go_split_ands; go_simp; (try with_reducible rfl))
        (try simp only [List.getElem_toArray, List.getElem_cons_succ, List.getElem_cons_zero, Act.put, List.setIfInBounds_toArray, List.set_cons_zero, List.set_cons_succ])
        apply wpAnyH_take (i := 16) rfl (by kernel_rfl) (by kernel_rfl) (by kernel_rfl)
        case hQ => exact fun _ _ _ h => h
        case hS => exact hHeld
        case hy => (refine Or.inl ⟨by rfl, ?_⟩; intro w hSw; go_split_ands; go_simp; (try with_reducible rfl))
        (try simp only [List.getElem_toArray, List.getElem_cons_succ, List.getElem_cons_zero, Act.put, List.setIfInBounds_toArray, List.set_cons_zero, List.set_cons_succ])
        apply wpAnyH_take (i := 17) rfl (by kernel_rfl) (by kernel_rfl) (by kernel_rfl)
        case hQ => exact fun _ _ _ h => h
        case hS => exact hHeld
        case hy => (refine Or.inl ⟨by rfl, ?_⟩; intro w hSw; go_split_ands; go_simp; (try with_reducible rfl))
        (try simp only [List.getElem_toArray, List.getElem_cons_succ, List.getElem_cons_zero, Act.put, List.setIfInBounds_toArray, List.set_cons_zero, List.set_cons_succ])
        apply wpAnyH_take (i := 18) rfl (by kernel_rfl) (by kernel_rfl) (by kernel_rfl)
        case hQ => exact fun _ _ _ h => h
        case hS => exact hHeld
        case hy => (refine Or.inl ⟨by rfl, ?_⟩; intro w hSw; go_split_ands; go_simp; (try with_reducible rfl))
        (try simp only [List.getElem_toArray, List.getElem_cons_succ, List.getElem_cons_zero, Act.put, List.setIfInBounds_toArray, List.set_cons_zero, List.set_cons_succ])
        apply wpAnyH_take (i := 19) rfl (by kernel_rfl) (by kernel_rfl) (by kernel_rfl)
        case hQ => exact fun _ _ _ h => h
        case hS => exact hHeld
        case hy => (refine Or.inl ⟨by rfl, ?_⟩; intro w hSw; go_split_ands; go_simp; (try with_reducible rfl))
        (try simp only [List.getElem_toArray, List.getElem_cons_succ, List.getElem_cons_zero, Act.put, List.setIfInBounds_toArray, List.set_cons_zero, List.set_cons_succ])
        apply wpAnyH_take (i := 20) rfl (by kernel_rfl) (by kernel_rfl) (by kernel_rfl)
        case hQ => exact fun _ _ _ h => h
        case hS => exact hHeld
        case hy => (refine Or.inl ⟨by rfl, ?_⟩; intro w hSw; go_split_ands; go_simp; (try with_reducible rfl))
        (try simp only [List.getElem_toArray, List.getElem_cons_succ, List.getElem_cons_zero, Act.put, List.setIfInBounds_toArray, List.set_cons_zero, List.set_cons_succ])
        apply wpAnyH_take (i := 21) rfl (by kernel_rfl) (by kernel_rfl) (by kernel_rfl)
        case hQ => exact fun _ _ _ h => h
        case hS => exact hHeld
        case hy => (refine Or.inl ⟨by rfl, ?_⟩; intro w hSw; go_split_ands; go_simp; (try with_reducible rfl))
        (try simp only [List.getElem_toArray, List.getElem_cons_succ, List.getElem_cons_zero, Act.put, List.setIfInBounds_toArray, List.set_cons_zero, List.set_cons_succ])
        apply wpAnyH_take (i := 22) rfl (by kernel_rfl) (by kernel_rfl) (by kernel_rfl)
        case hQ => exact fun _ _ _ h => h
        case hS => exact hHeld
        case hy => (refine Or.inl ⟨by rfl, ?_⟩; intro w hSw; go_split_ands; go_simp; (try with_reducible rfl))
        (try simp only [List.getElem_toArray, List.getElem_cons_succ, List.getElem_cons_zero, Act.put, List.setIfInBounds_toArray, List.set_cons_zero, List.set_cons_succ])
        apply wpAnyH_take (i := 23) rfl (by kernel_rfl) (by kernel_rfl) (by kernel_rfl)
        case hQ => exact fun _ _ _ h => h
        case hS => exact hHeld
        case hy => exact Or.inr ⟨by rfl, rfl⟩
        (try simp only [List.getElem_toArray, List.getElem_cons_succ, List.getElem_cons_zero, Act.put, List.setIfInBounds_toArray, List.set_cons_zero, List.set_cons_succ])
        apply wpAnyH_take (i := 24) rfl (by kernel_rfl) (by kernel_rfl) (by kernel_rfl)
        case hQ => exact fun _ _ _ h => h
        case hS => exact hHeld
        case hy => exact Or.inr ⟨by rfl, rfl⟩
        (try simp only [List.getElem_toArray, List.getElem_cons_succ, List.getElem_cons_zero, Act.put, List.setIfInBounds_toArray, List.set_cons_zero, List.set_cons_succ])
        apply wpAnyH_take (i := 25) rfl (by kernel_rfl) (by kernel_rfl) (by kernel_rfl)
        case hQ => exact fun _ _ _ h => h
        case hS => exact hHeld
        case hy => exact Or.inr ⟨by rfl, rfl⟩
        (try simp only [List.getElem_toArray, List.getElem_cons_succ, List.getElem_cons_zero, Act.put, List.setIfInBounds_toArray, List.set_cons_zero, List.set_cons_succ])
        apply wpAnyH_take (i := 26) rfl (by kernel_rfl) (by kernel_rfl) (by kernel_rfl)
        case hQ => exact fun _ _ _ h => h
        case hS => exact hHeld
        case hy => exact Or.inr ⟨by rfl, rfl⟩
        (try simp only [List.getElem_toArray, List.getElem_cons_succ, List.getElem_cons_zero, Act.put, List.setIfInBounds_toArray, List.set_cons_zero, List.set_cons_succ])
        apply wpAnyH_take (i := 27) rfl (by kernel_rfl) (by kernel_rfl) (by kernel_rfl)
        case hQ => exact fun _ _ _ h => h
        case hS => exact hHeld
        case hy => exact Or.inr ⟨by rfl, rfl⟩
        (try simp only [List.getElem_toArray, List.getElem_cons_succ, List.getElem_cons_zero, Act.put, List.setIfInBounds_toArray, List.set_cons_zero, List.set_cons_succ])
        apply wpAnyH_take (i := 28) rfl (by kernel_rfl) (by kernel_rfl) (by kernel_rfl)
        case hQ => exact fun _ _ _ h => h
        case hS => exact hHeld
        case hy => exact Or.inr ⟨by rfl, rfl⟩
        (try simp only [List.getElem_toArray, List.getElem_cons_succ, List.getElem_cons_zero, Act.put, List.setIfInBounds_toArray, List.set_cons_zero, List.set_cons_succ])
        apply wpAnyH_take (i := 29) rfl (by kernel_rfl) (by kernel_rfl) (by kernel_rfl)
        case hQ => exact fun _ _ _ h => h
        case hS => exact hHeld
        case hy => (refine Or.inl ⟨by rfl, ?_⟩; intro w hSw; go_split_ands; go_simp; (try with_reducible rfl))
        (try simp only [List.getElem_toArray, List.getElem_cons_succ, List.getElem_cons_zero, Act.put, List.setIfInBounds_toArray, List.set_cons_zero, List.set_cons_succ])
        refine wpAnyH_done (by kernel_rfl) ?_ _
        go_wp2_with fail
        go_meet
        exact ⟨true, rfl, ⟨fun _ => HQ.out, fun _ => rfl⟩, (Below.drew (Below.refl _ _))⟩
      rw [decide_eq_false hz] at bz
      have HQ : Hid (¬ (b.none = false ∧ bt b.zones i ∧ bt b.lines j ∧ mins b k)) := Lib.hid (fun h => hz h.2.1)
      clear hz bl
      refine wp_region_held_drew (S := fun W => W.cell? ⟨(w.heap.size + 1), 0, none⟩ = some (.bool false) ∧ W.cell? ⟨(w.heap.size + 1), 1, none⟩ = some (.int .u64 (b.zones : Int)) ∧ W.cell? ⟨(w.heap.size + 1), 2, none⟩ = some (.int .u64 (b.lines : Int)) ∧ W.cell? ⟨(w.heap.size + 1), 3, none⟩ = some (.int .u64 (b.days : Int)) ∧ W.cell? ⟨(w.heap.size + 1), 4, none⟩ = some (.int .i64 b.lo) ∧ W.cell? ⟨(w.heap.size + 1), 5, none⟩ = some (.int .i64 b.hi) ∧ W.cell? ⟨(w.heap.size + 1), 6, none⟩ = some (.slice A2 b.daily.length c2) ∧ W.cell? ⟨(w.heap.size + 1), 7, none⟩ = some (.string (sof b.holder)) ∧ W.cell? ⟨u1.heap.size, 0, none⟩ = some (.int .i64 (i : Int)) ∧ W.cell? ⟨u1.heap.size, 1, none⟩ = some (.int .i64 (j : Int)) ∧ W.cell? ⟨u1.heap.size, 2, none⟩ = some (.int .i64 (k : Int)) ∧ W.cell? ⟨u1.heap.size, 3, none⟩ = some (.string (sof n))) (by kernel_rfl) (HCC.out _ (Below.drew (Below.refl _ _))) (fun hHeld => ?_)
      apply wpAnyH_take (i := 0) rfl (by kernel_rfl) (by kernel_rfl) (by kernel_rfl)
      case hQ => exact fun _ _ _ h => h
      case hS => exact hHeld
      case hy => (refine Or.inl ⟨by rfl, ?_⟩; intro w hSw; go_split_ands; go_simp; (try with_reducible rfl))
      (try simp only [List.getElem_toArray, List.getElem_cons_zero, Act.put, List.setIfInBounds_toArray, List.set_cons_zero, List.set_cons_succ])
      apply wpAnyH_take (i := 1) rfl (by kernel_rfl) (by kernel_rfl) (by kernel_rfl)
      case hQ => exact fun _ _ _ h => h
      case hS => exact hHeld
      case hy => (refine Or.inl ⟨by rfl, ?_⟩; intro w hSw; go_split_ands; go_simp; (try with_reducible rfl))
      (try simp only [List.getElem_toArray, List.getElem_cons_succ, List.getElem_cons_zero, Act.put, List.setIfInBounds_toArray, List.set_cons_zero, List.set_cons_succ])
      apply wpAnyH_take (i := 2) rfl (by kernel_rfl) (by kernel_rfl) (by kernel_rfl)
      case hQ => exact fun _ _ _ h => h
      case hS => exact hHeld
      case hy => (refine Or.inl ⟨by rfl, ?_⟩; intro w hSw; go_split_ands; go_simp; (try with_reducible rfl))
      (try simp only [List.getElem_toArray, List.getElem_cons_succ, List.getElem_cons_zero, Act.put, List.setIfInBounds_toArray, List.set_cons_zero, List.set_cons_succ])
      apply wpAnyH_take (i := 3) rfl (by kernel_rfl) (by kernel_rfl) (by kernel_rfl)
      case hQ => exact fun _ _ _ h => h
      case hS => exact hHeld
      case hy => (refine Or.inl ⟨by rfl, ?_⟩; intro w hSw; go_split_ands; go_simp; (try with_reducible rfl))
      (try simp only [List.getElem_toArray, List.getElem_cons_succ, List.getElem_cons_zero, Act.put, List.setIfInBounds_toArray, List.set_cons_zero, List.set_cons_succ])
      apply wpAnyH_take (i := 4) rfl (by kernel_rfl) (by kernel_rfl) (by kernel_rfl)
      case hQ => exact fun _ _ _ h => h
      case hS => exact hHeld
      case hy => (refine Or.inl ⟨by rfl, ?_⟩; intro w hSw; go_split_ands; go_simp; (try with_reducible rfl))
      (try simp only [List.getElem_toArray, List.getElem_cons_succ, List.getElem_cons_zero, Act.put, List.setIfInBounds_toArray, List.set_cons_zero, List.set_cons_succ])
      apply wpAnyH_take (i := 5) rfl (by kernel_rfl) (by kernel_rfl) (by kernel_rfl)
      case hQ => exact fun _ _ _ h => h
      case hS => exact hHeld
      case hy => (refine Or.inl ⟨by rfl, ?_⟩; intro w hSw; go_split_ands; go_simp; (try with_reducible rfl))
      (try simp only [List.getElem_toArray, List.getElem_cons_succ, List.getElem_cons_zero, Act.put, List.setIfInBounds_toArray, List.set_cons_zero, List.set_cons_succ])
      apply wpAnyH_take (i := 6) rfl (by kernel_rfl) (by kernel_rfl) (by kernel_rfl)
      case hQ => exact fun _ _ _ h => h
      case hS => exact hHeld
      case hy => (refine Or.inl ⟨by rfl, ?_⟩; intro w hSw; go_split_ands; go_simp; (try with_reducible rfl))
      (try simp only [List.getElem_toArray, List.getElem_cons_succ, List.getElem_cons_zero, Act.put, List.setIfInBounds_toArray, List.set_cons_zero, List.set_cons_succ])
      apply wpAnyH_take (i := 7) rfl (by kernel_rfl) (by kernel_rfl) (by kernel_rfl)
      case hQ => exact fun _ _ _ h => h
      case hS => exact hHeld
      case hy => (refine Or.inl ⟨by rfl, ?_⟩; intro w hSw; go_split_ands; go_simp; (try with_reducible rfl))
      (try simp only [List.getElem_toArray, List.getElem_cons_succ, List.getElem_cons_zero, Act.put, List.setIfInBounds_toArray, List.set_cons_zero, List.set_cons_succ])
      apply wpAnyH_take (i := 8) rfl (by kernel_rfl) (by kernel_rfl) (by kernel_rfl)
      case hQ => exact fun _ _ _ h => h
      case hS => exact hHeld
      case hy => (refine Or.inl ⟨by rfl, ?_⟩; intro w hSw; go_split_ands; go_simp; (try with_reducible rfl))
      (try simp only [List.getElem_toArray, List.getElem_cons_succ, List.getElem_cons_zero, Act.put, List.setIfInBounds_toArray, List.set_cons_zero, List.set_cons_succ])
      apply wpAnyH_take (i := 9) rfl (by kernel_rfl) (by kernel_rfl) (by kernel_rfl)
      case hQ => exact fun _ _ _ h => h
      case hS => exact hHeld
      case hy => (refine Or.inl ⟨by rfl, ?_⟩; intro w hSw; go_split_ands; go_simp; (try with_reducible rfl))
      (try simp only [List.getElem_toArray, List.getElem_cons_succ, List.getElem_cons_zero, Act.put, List.setIfInBounds_toArray, List.set_cons_zero, List.set_cons_succ])
      apply wpAnyH_take (i := 10) rfl (by kernel_rfl) (by kernel_rfl) (by kernel_rfl)
      case hQ => exact fun _ _ _ h => h
      case hS => exact hHeld
      case hy => (refine Or.inl ⟨by rfl, ?_⟩; intro w hSw; go_split_ands; go_simp; (try with_reducible rfl))
      (try simp only [List.getElem_toArray, List.getElem_cons_succ, List.getElem_cons_zero, Act.put, List.setIfInBounds_toArray, List.set_cons_zero, List.set_cons_succ])
      apply wpAnyH_take (i := 11) rfl (by kernel_rfl) (by kernel_rfl) (by kernel_rfl)
      case hQ => exact fun _ _ _ h => h
      case hS => exact hHeld
      case hy => (refine Or.inl ⟨by rfl, ?_⟩; intro w hSw; go_split_ands; go_simp; (try with_reducible rfl))
      (try simp only [List.getElem_toArray, List.getElem_cons_succ, List.getElem_cons_zero, Act.put, List.setIfInBounds_toArray, List.set_cons_zero, List.set_cons_succ])
      apply wpAnyH_take (i := 12) rfl (by kernel_rfl) (by kernel_rfl) (by kernel_rfl)
      case hQ => exact fun _ _ _ h => h
      case hS => exact hHeld
      case hy => (refine Or.inl ⟨by rfl, ?_⟩; intro w hSw; go_split_ands; go_simp; (try with_reducible rfl))
      (try simp only [List.getElem_toArray, List.getElem_cons_succ, List.getElem_cons_zero, Act.put, List.setIfInBounds_toArray, List.set_cons_zero, List.set_cons_succ])
      apply wpAnyH_take (i := 13) rfl (by kernel_rfl) (by kernel_rfl) (by kernel_rfl)
      case hQ => exact fun _ _ _ h => h
      case hS => exact hHeld
      case hy => exact Or.inr ⟨by rfl, rfl⟩
      (try simp only [List.getElem_toArray, List.getElem_cons_succ, List.getElem_cons_zero, Act.put, List.setIfInBounds_toArray, List.set_cons_zero, List.set_cons_succ])
      apply wpAnyH_take (i := 14) rfl (by kernel_rfl) (by kernel_rfl) (by kernel_rfl)
      case hQ => exact fun _ _ _ h => h
      case hS => exact hHeld
      case hy => exact Or.inr ⟨by rfl, rfl⟩
      (try simp only [List.getElem_toArray, List.getElem_cons_succ, List.getElem_cons_zero, Act.put, List.setIfInBounds_toArray, List.set_cons_zero, List.set_cons_succ])
      apply wpAnyH_take (i := 15) rfl (by kernel_rfl) (by kernel_rfl) (by kernel_rfl)
      case hQ => exact fun _ _ _ h => h
      case hS => exact hHeld
      case hy => exact Or.inr ⟨by rfl, rfl⟩
      (try simp only [List.getElem_toArray, List.getElem_cons_succ, List.getElem_cons_zero, Act.put, List.setIfInBounds_toArray, List.set_cons_zero, List.set_cons_succ])
      apply wpAnyH_take (i := 16) rfl (by kernel_rfl) (by kernel_rfl) (by kernel_rfl)
      case hQ => exact fun _ _ _ h => h
      case hS => exact hHeld
      case hy => exact Or.inr ⟨by rfl, rfl⟩
      (try simp only [List.getElem_toArray, List.getElem_cons_succ, List.getElem_cons_zero, Act.put, List.setIfInBounds_toArray, List.set_cons_zero, List.set_cons_succ])
      apply wpAnyH_take (i := 17) rfl (by kernel_rfl) (by kernel_rfl) (by kernel_rfl)
      case hQ => exact fun _ _ _ h => h
      case hS => exact hHeld
      case hy => exact Or.inr ⟨by rfl, rfl⟩
      (try simp only [List.getElem_toArray, List.getElem_cons_succ, List.getElem_cons_zero, Act.put, List.setIfInBounds_toArray, List.set_cons_zero, List.set_cons_succ])
      apply wpAnyH_take (i := 18) rfl (by kernel_rfl) (by kernel_rfl) (by kernel_rfl)
      case hQ => exact fun _ _ _ h => h
      case hS => exact hHeld
      case hy => exact Or.inr ⟨by rfl, rfl⟩
      (try simp only [List.getElem_toArray, List.getElem_cons_succ, List.getElem_cons_zero, Act.put, List.setIfInBounds_toArray, List.set_cons_zero, List.set_cons_succ])
      apply wpAnyH_take (i := 19) rfl (by kernel_rfl) (by kernel_rfl) (by kernel_rfl)
      case hQ => exact fun _ _ _ h => h
      case hS => exact hHeld
      case hy => exact Or.inr ⟨by rfl, rfl⟩
      (try simp only [List.getElem_toArray, List.getElem_cons_succ, List.getElem_cons_zero, Act.put, List.setIfInBounds_toArray, List.set_cons_zero, List.set_cons_succ])
      apply wpAnyH_take (i := 20) rfl (by kernel_rfl) (by kernel_rfl) (by kernel_rfl)
      case hQ => exact fun _ _ _ h => h
      case hS => exact hHeld
      case hy => exact Or.inr ⟨by rfl, rfl⟩
      (try simp only [List.getElem_toArray, List.getElem_cons_succ, List.getElem_cons_zero, Act.put, List.setIfInBounds_toArray, List.set_cons_zero, List.set_cons_succ])
      apply wpAnyH_take (i := 21) rfl (by kernel_rfl) (by kernel_rfl) (by kernel_rfl)
      case hQ => exact fun _ _ _ h => h
      case hS => exact hHeld
      case hy => (refine Or.inl ⟨by rfl, ?_⟩; intro w hSw; go_split_ands; go_simp; (try with_reducible rfl))
      (try simp only [List.getElem_toArray, List.getElem_cons_succ, List.getElem_cons_zero, Act.put, List.setIfInBounds_toArray, List.set_cons_zero, List.set_cons_succ])
      apply wpAnyH_take (i := 22) rfl (by kernel_rfl) (by kernel_rfl) (by kernel_rfl)
      case hQ => exact fun _ _ _ h => h
      case hS => exact hHeld
      case hy => (refine Or.inl ⟨by rfl, ?_⟩; intro w hSw; go_split_ands; go_simp; (try with_reducible rfl))
      (try simp only [List.getElem_toArray, List.getElem_cons_succ, List.getElem_cons_zero, Act.put, List.setIfInBounds_toArray, List.set_cons_zero, List.set_cons_succ])
      apply wpAnyH_take (i := 23) rfl (by kernel_rfl) (by kernel_rfl) (by kernel_rfl)
      case hQ => exact fun _ _ _ h => h
      case hS => exact hHeld
      case hy => exact Or.inr ⟨by rfl, rfl⟩
      (try simp only [List.getElem_toArray, List.getElem_cons_succ, List.getElem_cons_zero, Act.put, List.setIfInBounds_toArray, List.set_cons_zero, List.set_cons_succ])
      apply wpAnyH_take (i := 24) rfl (by kernel_rfl) (by kernel_rfl) (by kernel_rfl)
      case hQ => exact fun _ _ _ h => h
      case hS => exact hHeld
      case hy => exact Or.inr ⟨by rfl, rfl⟩
      (try simp only [List.getElem_toArray, List.getElem_cons_succ, List.getElem_cons_zero, Act.put, List.setIfInBounds_toArray, List.set_cons_zero, List.set_cons_succ])
      apply wpAnyH_take (i := 25) rfl (by kernel_rfl) (by kernel_rfl) (by kernel_rfl)
      case hQ => exact fun _ _ _ h => h
      case hS => exact hHeld
      case hy => exact Or.inr ⟨by rfl, rfl⟩
      (try simp only [List.getElem_toArray, List.getElem_cons_succ, List.getElem_cons_zero, Act.put, List.setIfInBounds_toArray, List.set_cons_zero, List.set_cons_succ])
      apply wpAnyH_take (i := 26) rfl (by kernel_rfl) (by kernel_rfl) (by kernel_rfl)
      case hQ => exact fun _ _ _ h => h
      case hS => exact hHeld
      case hy => exact Or.inr ⟨by rfl, rfl⟩
      (try simp only [List.getElem_toArray, List.getElem_cons_succ, List.getElem_cons_zero, Act.put, List.setIfInBounds_toArray, List.set_cons_zero, List.set_cons_succ])
      apply wpAnyH_take (i := 27) rfl (by kernel_rfl) (by kernel_rfl) (by kernel_rfl)
      case hQ => exact fun _ _ _ h => h
      case hS => exact hHeld
      case hy => exact Or.inr ⟨by rfl, rfl⟩
      (try simp only [List.getElem_toArray, List.getElem_cons_succ, List.getElem_cons_zero, Act.put, List.setIfInBounds_toArray, List.set_cons_zero, List.set_cons_succ])
      apply wpAnyH_take (i := 28) rfl (by kernel_rfl) (by kernel_rfl) (by kernel_rfl)
      case hQ => exact fun _ _ _ h => h
      case hS => exact hHeld
      case hy => exact Or.inr ⟨by rfl, rfl⟩
      (try simp only [List.getElem_toArray, List.getElem_cons_succ, List.getElem_cons_zero, Act.put, List.setIfInBounds_toArray, List.set_cons_zero, List.set_cons_succ])
      apply wpAnyH_take (i := 29) rfl (by kernel_rfl) (by kernel_rfl) (by kernel_rfl)
      case hQ => exact fun _ _ _ h => h
      case hS => exact hHeld
      case hy => (refine Or.inl ⟨by rfl, ?_⟩; intro w hSw; go_split_ands; go_simp; (try with_reducible rfl))
      (try simp only [List.getElem_toArray, List.getElem_cons_succ, List.getElem_cons_zero, Act.put, List.setIfInBounds_toArray, List.set_cons_zero, List.set_cons_succ])
      refine wpAnyH_done (by kernel_rfl) ?_ _
      go_wp2_with fail
      go_meet
      exact ⟨true, rfl, ⟨fun _ => HQ.out, fun _ => rfl⟩, (Below.drew (Below.refl _ _))⟩
    have HQ : Hid (¬ (b.none = false ∧ bt b.zones i ∧ bt b.lines j ∧ mins b k)) := Lib.hid (fun h => by have := h.1.symm.trans HNB.out; cases this)
    clear bz bl
    refine wp_region_held_drew (S := fun W => W.cell? ⟨(w.heap.size + 1), 0, none⟩ = some (.bool true) ∧ W.cell? ⟨(w.heap.size + 1), 1, none⟩ = some (.int .u64 (b.zones : Int)) ∧ W.cell? ⟨(w.heap.size + 1), 2, none⟩ = some (.int .u64 (b.lines : Int)) ∧ W.cell? ⟨(w.heap.size + 1), 3, none⟩ = some (.int .u64 (b.days : Int)) ∧ W.cell? ⟨(w.heap.size + 1), 4, none⟩ = some (.int .i64 b.lo) ∧ W.cell? ⟨(w.heap.size + 1), 5, none⟩ = some (.int .i64 b.hi) ∧ W.cell? ⟨(w.heap.size + 1), 6, none⟩ = some (.slice A2 b.daily.length c2) ∧ W.cell? ⟨(w.heap.size + 1), 7, none⟩ = some (.string (sof b.holder)) ∧ W.cell? ⟨u1.heap.size, 0, none⟩ = some (.int .i64 (i : Int)) ∧ W.cell? ⟨u1.heap.size, 1, none⟩ = some (.int .i64 (j : Int)) ∧ W.cell? ⟨u1.heap.size, 2, none⟩ = some (.int .i64 (k : Int)) ∧ W.cell? ⟨u1.heap.size, 3, none⟩ = some (.string (sof n))) (by kernel_rfl) (HCC.out _ (Below.drew (Below.refl _ _))) (fun hHeld => ?_)
    apply wpAnyH_take (i := 0) rfl (by kernel_rfl) (by kernel_rfl) (by kernel_rfl)
    case hQ => exact fun _ _ _ h => h
    case hS => exact hHeld
    case hy => (refine Or.inl ⟨by rfl, ?_⟩; intro w hSw; go_split_ands; go_simp; (try with_reducible rfl))
    (try simp only [List.getElem_toArray, List.getElem_cons_zero, Act.put, List.setIfInBounds_toArray, List.set_cons_zero, List.set_cons_succ])
    apply wpAnyH_take (i := 1) rfl (by kernel_rfl) (by kernel_rfl) (by kernel_rfl)
    case hQ => exact fun _ _ _ h => h
    case hS => exact hHeld
    case hy => (refine Or.inl ⟨by rfl, ?_⟩; intro w hSw; go_split_ands; go_simp; (try with_reducible rfl))
    (try simp only [List.getElem_toArray, List.getElem_cons_succ, List.getElem_cons_zero, Act.put, List.setIfInBounds_toArray, List.set_cons_zero, List.set_cons_succ])
    apply wpAnyH_take (i := 2) rfl (by kernel_rfl) (by kernel_rfl) (by kernel_rfl)
    case hQ => exact fun _ _ _ h => h
    case hS => exact hHeld
    case hy => (refine Or.inl ⟨by rfl, ?_⟩; intro w hSw; go_split_ands; go_simp; (try with_reducible rfl))
    (try simp only [List.getElem_toArray, List.getElem_cons_succ, List.getElem_cons_zero, Act.put, List.setIfInBounds_toArray, List.set_cons_zero, List.set_cons_succ])
    apply wpAnyH_take (i := 3) rfl (by kernel_rfl) (by kernel_rfl) (by kernel_rfl)
    case hQ => exact fun _ _ _ h => h
    case hS => exact hHeld
    case hy => exact Or.inr ⟨by rfl, rfl⟩
    (try simp only [List.getElem_toArray, List.getElem_cons_succ, List.getElem_cons_zero, Act.put, List.setIfInBounds_toArray, List.set_cons_zero, List.set_cons_succ])
    apply wpAnyH_take (i := 4) rfl (by kernel_rfl) (by kernel_rfl) (by kernel_rfl)
    case hQ => exact fun _ _ _ h => h
    case hS => exact hHeld
    case hy => exact Or.inr ⟨by rfl, rfl⟩
    (try simp only [List.getElem_toArray, List.getElem_cons_succ, List.getElem_cons_zero, Act.put, List.setIfInBounds_toArray, List.set_cons_zero, List.set_cons_succ])
    apply wpAnyH_take (i := 5) rfl (by kernel_rfl) (by kernel_rfl) (by kernel_rfl)
    case hQ => exact fun _ _ _ h => h
    case hS => exact hHeld
    case hy => exact Or.inr ⟨by rfl, rfl⟩
    (try simp only [List.getElem_toArray, List.getElem_cons_succ, List.getElem_cons_zero, Act.put, List.setIfInBounds_toArray, List.set_cons_zero, List.set_cons_succ])
    apply wpAnyH_take (i := 6) rfl (by kernel_rfl) (by kernel_rfl) (by kernel_rfl)
    case hQ => exact fun _ _ _ h => h
    case hS => exact hHeld
    case hy => exact Or.inr ⟨by rfl, rfl⟩
    (try simp only [List.getElem_toArray, List.getElem_cons_succ, List.getElem_cons_zero, Act.put, List.setIfInBounds_toArray, List.set_cons_zero, List.set_cons_succ])
    apply wpAnyH_take (i := 7) rfl (by kernel_rfl) (by kernel_rfl) (by kernel_rfl)
    case hQ => exact fun _ _ _ h => h
    case hS => exact hHeld
    case hy => exact Or.inr ⟨by rfl, rfl⟩
    (try simp only [List.getElem_toArray, List.getElem_cons_succ, List.getElem_cons_zero, Act.put, List.setIfInBounds_toArray, List.set_cons_zero, List.set_cons_succ])
    apply wpAnyH_take (i := 8) rfl (by kernel_rfl) (by kernel_rfl) (by kernel_rfl)
    case hQ => exact fun _ _ _ h => h
    case hS => exact hHeld
    case hy => exact Or.inr ⟨by rfl, rfl⟩
    (try simp only [List.getElem_toArray, List.getElem_cons_succ, List.getElem_cons_zero, Act.put, List.setIfInBounds_toArray, List.set_cons_zero, List.set_cons_succ])
    apply wpAnyH_take (i := 9) rfl (by kernel_rfl) (by kernel_rfl) (by kernel_rfl)
    case hQ => exact fun _ _ _ h => h
    case hS => exact hHeld
    case hy => exact Or.inr ⟨by rfl, rfl⟩
    (try simp only [List.getElem_toArray, List.getElem_cons_succ, List.getElem_cons_zero, Act.put, List.setIfInBounds_toArray, List.set_cons_zero, List.set_cons_succ])
    apply wpAnyH_take (i := 10) rfl (by kernel_rfl) (by kernel_rfl) (by kernel_rfl)
    case hQ => exact fun _ _ _ h => h
    case hS => exact hHeld
    case hy => exact Or.inr ⟨by rfl, rfl⟩
    (try simp only [List.getElem_toArray, List.getElem_cons_succ, List.getElem_cons_zero, Act.put, List.setIfInBounds_toArray, List.set_cons_zero, List.set_cons_succ])
    apply wpAnyH_take (i := 11) rfl (by kernel_rfl) (by kernel_rfl) (by kernel_rfl)
    case hQ => exact fun _ _ _ h => h
    case hS => exact hHeld
    case hy => (refine Or.inl ⟨by rfl, ?_⟩; intro w hSw; go_split_ands; go_simp; (try with_reducible rfl))
    (try simp only [List.getElem_toArray, List.getElem_cons_succ, List.getElem_cons_zero, Act.put, List.setIfInBounds_toArray, List.set_cons_zero, List.set_cons_succ])
    apply wpAnyH_take (i := 12) rfl (by kernel_rfl) (by kernel_rfl) (by kernel_rfl)
    case hQ => exact fun _ _ _ h => h
    case hS => exact hHeld
    case hy => (refine Or.inl ⟨by rfl, ?_⟩; intro w hSw; go_split_ands; go_simp; (try with_reducible rfl))
    (try simp only [List.getElem_toArray, List.getElem_cons_succ, List.getElem_cons_zero, Act.put, List.setIfInBounds_toArray, List.set_cons_zero, List.set_cons_succ])
    apply wpAnyH_take (i := 13) rfl (by kernel_rfl) (by kernel_rfl) (by kernel_rfl)
    case hQ => exact fun _ _ _ h => h
    case hS => exact hHeld
    case hy => exact Or.inr ⟨by rfl, rfl⟩
    (try simp only [List.getElem_toArray, List.getElem_cons_succ, List.getElem_cons_zero, Act.put, List.setIfInBounds_toArray, List.set_cons_zero, List.set_cons_succ])
    apply wpAnyH_take (i := 14) rfl (by kernel_rfl) (by kernel_rfl) (by kernel_rfl)
    case hQ => exact fun _ _ _ h => h
    case hS => exact hHeld
    case hy => exact Or.inr ⟨by rfl, rfl⟩
    (try simp only [List.getElem_toArray, List.getElem_cons_succ, List.getElem_cons_zero, Act.put, List.setIfInBounds_toArray, List.set_cons_zero, List.set_cons_succ])
    apply wpAnyH_take (i := 15) rfl (by kernel_rfl) (by kernel_rfl) (by kernel_rfl)
    case hQ => exact fun _ _ _ h => h
    case hS => exact hHeld
    case hy => exact Or.inr ⟨by rfl, rfl⟩
    (try simp only [List.getElem_toArray, List.getElem_cons_succ, List.getElem_cons_zero, Act.put, List.setIfInBounds_toArray, List.set_cons_zero, List.set_cons_succ])
    apply wpAnyH_take (i := 16) rfl (by kernel_rfl) (by kernel_rfl) (by kernel_rfl)
    case hQ => exact fun _ _ _ h => h
    case hS => exact hHeld
    case hy => exact Or.inr ⟨by rfl, rfl⟩
    (try simp only [List.getElem_toArray, List.getElem_cons_succ, List.getElem_cons_zero, Act.put, List.setIfInBounds_toArray, List.set_cons_zero, List.set_cons_succ])
    apply wpAnyH_take (i := 17) rfl (by kernel_rfl) (by kernel_rfl) (by kernel_rfl)
    case hQ => exact fun _ _ _ h => h
    case hS => exact hHeld
    case hy => exact Or.inr ⟨by rfl, rfl⟩
    (try simp only [List.getElem_toArray, List.getElem_cons_succ, List.getElem_cons_zero, Act.put, List.setIfInBounds_toArray, List.set_cons_zero, List.set_cons_succ])
    apply wpAnyH_take (i := 18) rfl (by kernel_rfl) (by kernel_rfl) (by kernel_rfl)
    case hQ => exact fun _ _ _ h => h
    case hS => exact hHeld
    case hy => exact Or.inr ⟨by rfl, rfl⟩
    (try simp only [List.getElem_toArray, List.getElem_cons_succ, List.getElem_cons_zero, Act.put, List.setIfInBounds_toArray, List.set_cons_zero, List.set_cons_succ])
    apply wpAnyH_take (i := 19) rfl (by kernel_rfl) (by kernel_rfl) (by kernel_rfl)
    case hQ => exact fun _ _ _ h => h
    case hS => exact hHeld
    case hy => exact Or.inr ⟨by rfl, rfl⟩
    (try simp only [List.getElem_toArray, List.getElem_cons_succ, List.getElem_cons_zero, Act.put, List.setIfInBounds_toArray, List.set_cons_zero, List.set_cons_succ])
    apply wpAnyH_take (i := 20) rfl (by kernel_rfl) (by kernel_rfl) (by kernel_rfl)
    case hQ => exact fun _ _ _ h => h
    case hS => exact hHeld
    case hy => exact Or.inr ⟨by rfl, rfl⟩
    (try simp only [List.getElem_toArray, List.getElem_cons_succ, List.getElem_cons_zero, Act.put, List.setIfInBounds_toArray, List.set_cons_zero, List.set_cons_succ])
    apply wpAnyH_take (i := 21) rfl (by kernel_rfl) (by kernel_rfl) (by kernel_rfl)
    case hQ => exact fun _ _ _ h => h
    case hS => exact hHeld
    case hy => (refine Or.inl ⟨by rfl, ?_⟩; intro w hSw; go_split_ands; go_simp; (try with_reducible rfl))
    (try simp only [List.getElem_toArray, List.getElem_cons_succ, List.getElem_cons_zero, Act.put, List.setIfInBounds_toArray, List.set_cons_zero, List.set_cons_succ])
    apply wpAnyH_take (i := 22) rfl (by kernel_rfl) (by kernel_rfl) (by kernel_rfl)
    case hQ => exact fun _ _ _ h => h
    case hS => exact hHeld
    case hy => (refine Or.inl ⟨by rfl, ?_⟩; intro w hSw; go_split_ands; go_simp; (try with_reducible rfl))
    (try simp only [List.getElem_toArray, List.getElem_cons_succ, List.getElem_cons_zero, Act.put, List.setIfInBounds_toArray, List.set_cons_zero, List.set_cons_succ])
    apply wpAnyH_take (i := 23) rfl (by kernel_rfl) (by kernel_rfl) (by kernel_rfl)
    case hQ => exact fun _ _ _ h => h
    case hS => exact hHeld
    case hy => exact Or.inr ⟨by rfl, rfl⟩
    (try simp only [List.getElem_toArray, List.getElem_cons_succ, List.getElem_cons_zero, Act.put, List.setIfInBounds_toArray, List.set_cons_zero, List.set_cons_succ])
    apply wpAnyH_take (i := 24) rfl (by kernel_rfl) (by kernel_rfl) (by kernel_rfl)
    case hQ => exact fun _ _ _ h => h
    case hS => exact hHeld
    case hy => exact Or.inr ⟨by rfl, rfl⟩
    (try simp only [List.getElem_toArray, List.getElem_cons_succ, List.getElem_cons_zero, Act.put, List.setIfInBounds_toArray, List.set_cons_zero, List.set_cons_succ])
    apply wpAnyH_take (i := 25) rfl (by kernel_rfl) (by kernel_rfl) (by kernel_rfl)
    case hQ => exact fun _ _ _ h => h
    case hS => exact hHeld
    case hy => exact Or.inr ⟨by rfl, rfl⟩
    (try simp only [List.getElem_toArray, List.getElem_cons_succ, List.getElem_cons_zero, Act.put, List.setIfInBounds_toArray, List.set_cons_zero, List.set_cons_succ])
    apply wpAnyH_take (i := 26) rfl (by kernel_rfl) (by kernel_rfl) (by kernel_rfl)
    case hQ => exact fun _ _ _ h => h
    case hS => exact hHeld
    case hy => exact Or.inr ⟨by rfl, rfl⟩
    (try simp only [List.getElem_toArray, List.getElem_cons_succ, List.getElem_cons_zero, Act.put, List.setIfInBounds_toArray, List.set_cons_zero, List.set_cons_succ])
    apply wpAnyH_take (i := 27) rfl (by kernel_rfl) (by kernel_rfl) (by kernel_rfl)
    case hQ => exact fun _ _ _ h => h
    case hS => exact hHeld
    case hy => exact Or.inr ⟨by rfl, rfl⟩
    (try simp only [List.getElem_toArray, List.getElem_cons_succ, List.getElem_cons_zero, Act.put, List.setIfInBounds_toArray, List.set_cons_zero, List.set_cons_succ])
    apply wpAnyH_take (i := 28) rfl (by kernel_rfl) (by kernel_rfl) (by kernel_rfl)
    case hQ => exact fun _ _ _ h => h
    case hS => exact hHeld
    case hy => exact Or.inr ⟨by rfl, rfl⟩
    (try simp only [List.getElem_toArray, List.getElem_cons_succ, List.getElem_cons_zero, Act.put, List.setIfInBounds_toArray, List.set_cons_zero, List.set_cons_succ])
    apply wpAnyH_take (i := 29) rfl (by kernel_rfl) (by kernel_rfl) (by kernel_rfl)
    case hQ => exact fun _ _ _ h => h
    case hS => exact hHeld
    case hy => (refine Or.inl ⟨by rfl, ?_⟩; intro w hSw; go_split_ands; go_simp; (try with_reducible rfl))
    (try simp only [List.getElem_toArray, List.getElem_cons_succ, List.getElem_cons_zero, Act.put, List.setIfInBounds_toArray, List.set_cons_zero, List.set_cons_succ])
    refine wpAnyH_done (by kernel_rfl) ?_ _
    go_wp2_with fail
    go_meet
    exact ⟨true, rfl, ⟨fun _ => HQ.out, fun _ => rfl⟩, (Below.drew (Below.refl _ _))⟩
  case rest =>
    obtain ⟨V, rfl, hV, hb3⟩ := hcut
    rename World => u3
    clear wz mz wl ml bz bl
    have hp3 : Below p.heap.size p u3 := HPU.out.trans (hb3.mono HPU.out.size)
    have hC3 : CRow u3 u1.heap.size i j k n := Whole.below HCU.out hb3 (Whole.lt HCU.out)
    have HP3 := Lib.hid hp3
    have HC3 := Lib.hid hC3
    clear hp3 hC3 hb3 HPU HCU HCC HKT HMN
    obtain ⟨k0, k1, k2, k3⟩ := CRow.cells HC3.out
    cases V
    rotate_left
    · skip
      have hni : ¬ ina b ⟨i, j, k, n⟩ := fun h => (hV.1 rfl) ⟨(ina_ride.1 h).1, (ina_ride.1 h).2.1, (ina_ride.1 h).2.2.1, (ina_ride.1 h).2.2.2.1⟩
      have hW : WitR a b ⟨i, j, k, n⟩ true := by
        obtain ⟨g1, g2, g3, g4, g5, g6⟩ := HA.out
        rw [g5, g6] at hni ⊢
        exact .inr ⟨g1, HBB.out, g2, i, j, g3, g4, .inl ⟨hni, rfl, rfl⟩⟩
      have HX := Lib.hid hW
      have HZ := Lib.hid (H6.out u3 HP3.out)
      clear hW hni hV
      go_wp2_with (with_reducible refine wpList_store_ctx0 rfl _ _ rfl (g := w.heap.size + 2) rfl rfl HZ.out rfl rfl (by with_unfolding_all rfl) ?_)
      refine bodyPost_ret (results_ctx2 (g := w.heap.size + 2) Tryd.results12 _ rfl _ rfl rfl (Whole.setRow HZ.out _)) rfl ?_
      exact ⟨CwP.mk _ _ _ _ true rfl HX.out, below_setRow (HB.out.trans (HP3.out.mono (Below.size HB.out))) (by omega) _⟩
    have hQ : (b.none = false ∧ bt b.zones i ∧ bt b.lines j ∧ mins b k) := Classical.byContradiction fun h => by have := hV.2 h; cases this
    have HQ := Lib.hid hQ
    clear hV hQ
    obtain ⟨x0, x1, x2, x3, x4, x5, x6, x7⟩ := H1.out u3 HP3.out
    obtain ⟨y0, y1, y2, y3, y4, y5, y6, y7⟩ := H2.out u3 HP3.out
    have hcl := rother (H3.out u3 HP3.out) (H4.out u3 HP3.out)
    go_wp2_with fail
    refine hcl.mono ?_
    rintro e u4 ⟨⟨h', ok, rfl, hO⟩, hb4⟩
    have HP4 : Hid (Below p.heap.size p u4) := Lib.hid (HP3.out.trans (hb4.mono HP3.out.size))
    have HC4 : Hid (CRow u4 u1.heap.size i j k n) := Lib.hid (Whole.below HC3.out hb4 (Whole.lt HC3.out))
    clear hcl hb4 x0 x1 x2 x3 x4 x5 x6 x7 y0 y1 y2 y3 y4 y5 y6 y7 k0 k1 k2 k3 HP3 HC3
    obtain ⟨k0, k1, k2, k3⟩ := CRow.cells HC4.out
    obtain ⟨f0, f1, f2, f3⟩ := CRow.frees HC4.out
    cases ok
    rotate_left
    · skip
      have hW : WitR a b ⟨i, j, k, h'⟩ true := by
        obtain ⟨g1, g2, g3, g4, g5, g6⟩ := HA.out
        obtain ⟨q1, q2, q3, q4⟩ := HQ.out
        have hib : ∀ n, ina b ⟨i, j, k, n⟩ ↔ (b.holder = [] ∨ b.holder = n) := fun n => ina_ride.trans ⟨fun h => h.2.2.2.2, fun h => ⟨q1, q2, q3, q4, h⟩⟩
        refine .inr ⟨g1, HBB.out, g2, i, j, g3, g4, ?_⟩
        rw [← g5]
        rcases hO with ⟨_, _, h⟩ | ⟨h1, h2, h3, h4, _⟩ | ⟨h1, h2, h3, h4, _⟩ | ⟨h1, h2, h3, h4, _⟩
        · cases h
        · refine .inl ⟨fun h => ?_, by rw [h4]; simp only [pick, if_neg h3], rfl⟩
          rcases (hib _).1 h with e | e
          · exact h1 e
          · simp only [pick, if_neg h3] at e
            exact h2 e.symm
        · refine .inr ⟨(hib _).2 (.inr (by rw [h3]; simp only [pick, if_pos h2])), .inl ⟨h2, h1, by rw [h4], rfl⟩⟩
        · refine .inl ⟨fun h => ?_, by rw [h4]; simp only [pick, if_pos h2], rfl⟩
          rcases (hib _).1 h with e | e
          · exact h1 e
          · simp only [pick, if_pos h2] at e
            exact h3 e
      have HX := Lib.hid hW
      clear hW hO
      go_upto_region 9 with fail
      have hC6 : CRow (u4.setCell ⟨u1.heap.size, 3, none⟩ (.string (sof h'))) u1.heap.size i j k h' := CRow.set3 HC4.out _
      have hP6 : Below p.heap.size p (u4.setCell ⟨u1.heap.size, 3, none⟩ (.string (sof h'))) := HP4.out.setCell (p := ⟨u1.heap.size, 3, none⟩) hpu _
      have HC6 := Lib.hid hC6
      have HP6 := Lib.hid hP6
      clear hC6 hP6 k0 k1 k2 k3 f0 f1 f2 f3
      generalize u4.setCell ⟨u1.heap.size, 3, none⟩ (.string (sof h')) = u6 at HC6 HP6 ⊢
      have HZ := Lib.hid (H6.out _ HP6.out)
      obtain ⟨k0, k1, k2, k3⟩ := CRow.cells HC6.out
      go_wp2_with (with_reducible refine wpList_store_ctx0 rfl _ _ rfl (g := w.heap.size + 2) rfl rfl HZ.out rfl rfl (by with_unfolding_all rfl) ?_)
      refine bodyPost_ret (results_ctx2 (g := w.heap.size + 2) Tryd.results12 _ rfl _ rfl rfl (Whole.setRow HZ.out _)) rfl ?_
      exact ⟨CwP.mk _ _ _ _ true rfl HX.out, below_setRow (HB.out.trans (HP6.out.mono (Below.size HB.out))) (by omega) _⟩
    have hO' : (b.holder = [] ∨ a.holder = b.holder) ∧ ina b ⟨i, j, a.lo, pick a.holder⟩ := by
      obtain ⟨g1, g2, g3, g4, g5, g6⟩ := HA.out
      obtain ⟨q1, q2, q3, q4⟩ := HQ.out
      have h0 : b.holder = [] ∨ a.holder = b.holder := by
        rcases hO with ⟨h, _, _⟩ | ⟨_, _, _, _, h⟩ | ⟨_, _, _, _, h⟩ | ⟨_, _, _, _, h⟩
        · exact h
        · cases h
        · cases h
        · cases h
      refine ⟨h0, ?_⟩
      rw [← g5]
      refine ina_ride.2 ⟨q1, q2, q3, q4, ?_⟩
      by_cases e : b.holder = []
      · exact .inl e
      · right
        have := h0.resolve_left e
        rw [← this] at e ⊢
        simp only [pick, if_neg e]
    have HW : Hid (∀ c ok, ((∃ m, FirstMin a b m ∧ c = ⟨i, j, m, pick a.holder⟩ ∧ ok = true) ∨
               (NoMin a b ∧
                 ((∃ i', IsLow (a.lines &&& (18446744073709551615 - b.lines)) i' ∧ c = ⟨i, i', a.lo, pick a.holder⟩ ∧ ok = true) ∨
                  (a.lines &&& (18446744073709551615 - b.lines) = 0 ∧
                    ((∃ i', IsLow (a.zones &&& (18446744073709551615 - b.zones)) i' ∧ c = ⟨i', j, a.lo, pick a.holder⟩ ∧ ok = true) ∨
                     (a.zones &&& (18446744073709551615 - b.zones) = 0 ∧ c = zeroC ∧ ok = false)))))) → WitR a b c ok) := Lib.hid fun c ok h => by
      obtain ⟨g1, g2, g3, g4, g5, g6⟩ := HA.out
      refine .inr ⟨g1, HBB.out, g2, i, j, g3, g4, .inr ⟨hO'.2, .inr ⟨fun q => ?_, h⟩⟩⟩
      rcases hO'.1 with e | e
      · exact q.2 e
      · exact q.2 (e.symm.trans q.1)
    clear hO hO'
    obtain ⟨x0, x1, x2, x3, x4, x5, x6, x7⟩ := H1.out u4 HP4.out
    obtain ⟨y0, y1, y2, y3, y4, y5, y6, y7⟩ := H2.out u4 HP4.out
    have hcl := rlater (H3.out u4 HP4.out) (H4.out u4 HP4.out) HA.out.1 HBB.out HA.out.2.1 HQ.out.1
    go_wp2_with fail
    refine hcl.mono ?_
    rintro e u5 ⟨⟨mm, ok, rfl, hF⟩, hb5⟩
    have HP5 : Hid (Below p.heap.size p u5) := Lib.hid (HP4.out.trans (hb5.mono HP4.out.size))
    have HC5 : Hid (CRow u5 u1.heap.size i j k n) := Lib.hid (Whole.below HC4.out hb5 (Whole.lt HC4.out))
    clear hcl hb5 x0 x1 x2 x3 x4 x5 x6 x7 y0 y1 y2 y3 y4 y5 y6 y7 k0 k1 k2 k3 f0 f1 f2 f3 HP4 HC4
    obtain ⟨k0, k1, k2, k3⟩ := CRow.cells HC5.out
    obtain ⟨f0, f1, f2, f3⟩ := CRow.frees HC5.out
    obtain ⟨x0, x1, x2, x3, x4, x5, x6, x7⟩ := H1.out u5 HP5.out
    obtain ⟨y0, y1, y2, y3, y4, y5, y6, y7⟩ := H2.out u5 HP5.out
    rcases hF with ⟨rfl, hk⟩ | ⟨rfl, rfl, hk⟩
    · skip
      have hW : WitR a b ⟨i, j, mm, n⟩ true := HW.out _ _ (.inl ⟨mm, hk, by rw [HA.out.2.2.2.2.2], rfl⟩)
      have HX := Lib.hid hW
      clear hW hk
      go_upto_region 13 with fail
      have hC6 : CRow (u5.setCell ⟨u1.heap.size, 2, none⟩ (.int .i64 (mm : Int))) u1.heap.size i j mm n := CRow.set2 HC5.out _
      have hP6 : Below p.heap.size p (u5.setCell ⟨u1.heap.size, 2, none⟩ (.int .i64 (mm : Int))) := HP5.out.setCell (p := ⟨u1.heap.size, 2, none⟩) hpu _
      have HC6 := Lib.hid hC6
      have HP6 := Lib.hid hP6
      clear hC6 hP6 k0 k1 k2 k3 f0 f1 f2 f3 x0 x1 x2 x3 x4 x5 x6 x7 y0 y1 y2 y3 y4 y5 y6 y7
      generalize u5.setCell ⟨u1.heap.size, 2, none⟩ (.int .i64 (mm : Int)) = u6 at HC6 HP6 ⊢
      have HZ := Lib.hid (H6.out _ HP6.out)
      obtain ⟨k0, k1, k2, k3⟩ := CRow.cells HC6.out
      go_wp2_with (with_reducible refine wpList_store_ctx0 rfl _ _ rfl (g := w.heap.size + 2) rfl rfl HZ.out rfl rfl (by with_unfolding_all rfl) ?_)
      refine bodyPost_ret (results_ctx2 (g := w.heap.size + 2) Tryd.results12 _ rfl _ rfl rfl (Whole.setRow HZ.out _)) rfl ?_
      exact ⟨CwP.mk _ _ _ _ true rfl HX.out, below_setRow (HB.out.trans (HP6.out.mono (Below.size HB.out))) (by omega) _⟩
    obtain ⟨dL, hdL⟩ : ∃ d, d = a.lines &&& (18446744073709551615 - b.lines) := ⟨_, rfl⟩
    obtain ⟨dZ, hdZ⟩ : ∃ d, d = a.zones &&& (18446744073709551615 - b.zones) := ⟨_, rfl⟩
    have hb4 := some_aok HBB.out HQ.out.1
    have eL : bits .andNot .u64 (a.lines : Int) (b.lines : Int) = (dL : Int) := by rw [hdL]; exact u64_andNot_nat _ _ HLT.out.2 (by have := hb4.2.2.2.1; omega)
    have eZ : bits .andNot .u64 (a.zones : Int) (b.zones : Int) = (dZ : Int) := by rw [hdZ]; exact u64_andNot_nat _ _ HLT.out.1 hb4.2.1
    have HLD : Hid (dL < 18446744073709551616 ∧ dZ < 18446744073709551616) := Lib.hid ⟨by rw [hdL]; exact Nat.lt_of_le_of_lt Nat.and_le_left HLT.out.2, by rw [hdZ]; exact Nat.lt_of_le_of_lt Nat.and_le_left HLT.out.1⟩
    have HW2 := Lib.hid HW.out
    rw [← hdL, ← hdZ] at HW2
    clear hdL hdZ hb4 HW
    by_cases hl0 : dL = 0
    · skip
      have hlz : ((dL : Int) != 0) = false := by simp [hl0]
      by_cases hz0 : dZ = 0
      · skip
        have hzz : ((dZ : Int) != 0) = false := by simp [hz0]
        have hW : WitR a b ⟨0, 0, 0, []⟩ false := HW2.out _ _ (.inr ⟨hk, .inr ⟨hl0, .inr ⟨hz0, rfl, rfl⟩⟩⟩)
        have HX := Lib.hid hW
        have HZ := Lib.hid (H6.out _ HP5.out)
        clear hW hk hl0 hz0
        go_wp2_with (with_reducible refine wpList_store_ctx0 rfl _ _ rfl (g := w.heap.size + 2) rfl rfl HZ.out rfl rfl (by with_unfolding_all rfl) ?_)
        refine bodyPost_ret (results_ctx2 (g := w.heap.size + 2) Tryd.results12 _ rfl _ rfl rfl (Whole.setRow HZ.out _)) rfl ?_
        exact ⟨CwP.mk 0 0 0 [] false (by rw [crow0]; rfl) HX.out, below_setRow (HB.out.trans (HP5.out.mono (Below.size HB.out))) (by omega) _⟩
      have hzz : ((dZ : Int) != 0) = true := by simp [hz0]
      have hcl := rlowest dZ HLD.out.2 hz0
      have HK := Lib.hid (And.intro hk hl0)
      clear hk hl0 hz0
      go_wp2_with fail
      refine (hcl _).mono ?_
      rintro e u5' ⟨⟨ii, rfl, hii, -⟩, hu⟩
      obtain rfl : u5 = u5' := hu.symm
      have hW : WitR a b ⟨(ii : Int), j, k, n⟩ true := HW2.out _ _ (.inr ⟨HK.out.1, .inr ⟨HK.out.2, .inl ⟨ii, hii, by rw [HA.out.2.2.2.2.2, HA.out.2.2.2.2.1], rfl⟩⟩⟩)
      have HX := Lib.hid hW
      clear hW hcl hii
      go_upto_region 21 with fail
      have hC6 : CRow (u5.setCell ⟨u1.heap.size, 0, none⟩ (.int .i64 (ii : Int))) u1.heap.size (ii : Int) j k n := CRow.set0 HC5.out _
      have hP6 : Below p.heap.size p (u5.setCell ⟨u1.heap.size, 0, none⟩ (.int .i64 (ii : Int))) := HP5.out.setCell (p := ⟨u1.heap.size, 0, none⟩) hpu _
      have HC6 := Lib.hid hC6
      have HP6 := Lib.hid hP6
      clear hC6 hP6 k0 k1 k2 k3 f0 f1 f2 f3 x0 x1 x2 x3 x4 x5 x6 x7 y0 y1 y2 y3 y4 y5 y6 y7
      generalize u5.setCell ⟨u1.heap.size, 0, none⟩ (.int .i64 (ii : Int)) = u6 at HC6 HP6 ⊢
      have HZ := Lib.hid (H6.out _ HP6.out)
      obtain ⟨k0, k1, k2, k3⟩ := CRow.cells HC6.out
      go_wp2_with (with_reducible refine wpList_store_ctx0 rfl _ _ rfl (g := w.heap.size + 2) rfl rfl HZ.out rfl rfl (by with_unfolding_all rfl) ?_)
      refine bodyPost_ret (results_ctx2 (g := w.heap.size + 2) Tryd.results12 _ rfl _ rfl rfl (Whole.setRow HZ.out _)) rfl ?_
      exact ⟨CwP.mk _ _ _ _ true rfl HX.out, below_setRow (HB.out.trans (HP6.out.mono (Below.size HB.out))) (by omega) _⟩
    have hlz : ((dL : Int) != 0) = true := by simp [hl0]
    have hcl := rlowest dL HLD.out.1 hl0
    have HK := Lib.hid hk
    clear hk hl0
    go_wp2_with fail
    refine (hcl _).mono ?_
    rintro e u5' ⟨⟨ii, rfl, hii, -⟩, hu⟩
    obtain rfl : u5 = u5' := hu.symm
    have hW : WitR a b ⟨i, (ii : Int), k, n⟩ true := HW2.out _ _ (.inr ⟨HK.out, .inl ⟨ii, hii, by rw [HA.out.2.2.2.2.2, HA.out.2.2.2.2.1], rfl⟩⟩)
    have HX := Lib.hid hW
    clear hW hcl hii
    go_upto_region 17 with fail
    have hC6 : CRow (u5.setCell ⟨u1.heap.size, 1, none⟩ (.int .i64 (ii : Int))) u1.heap.size i (ii : Int) k n := CRow.set1 HC5.out _
    have hP6 : Below p.heap.size p (u5.setCell ⟨u1.heap.size, 1, none⟩ (.int .i64 (ii : Int))) := HP5.out.setCell (p := ⟨u1.heap.size, 1, none⟩) hpu _
    have HC6 := Lib.hid hC6
    have HP6 := Lib.hid hP6
    clear hC6 hP6 k0 k1 k2 k3 f0 f1 f2 f3 x0 x1 x2 x3 x4 x5 x6 x7 y0 y1 y2 y3 y4 y5 y6 y7
    generalize u5.setCell ⟨u1.heap.size, 1, none⟩ (.int .i64 (ii : Int)) = u6 at HC6 HP6 ⊢
    have HZ := Lib.hid (H6.out _ HP6.out)
    obtain ⟨k0, k1, k2, k3⟩ := CRow.cells HC6.out
    go_wp2_with (with_reducible refine wpList_store_ctx0 rfl _ _ rfl (g := w.heap.size + 2) rfl rfl HZ.out rfl rfl (by with_unfolding_all rfl) ?_)
    refine bodyPost_ret (results_ctx2 (g := w.heap.size + 2) Tryd.results12 _ rfl _ rfl rfl (Whole.setRow HZ.out _)) rfl ?_
    exact ⟨CwP.mk _ _ _ _ true rfl HX.out, below_setRow (HB.out.trans (HP6.out.mono (Below.size HB.out))) (by omega) _⟩
end Go.Proofs.YtgbcncfhmnhljaaDoor
