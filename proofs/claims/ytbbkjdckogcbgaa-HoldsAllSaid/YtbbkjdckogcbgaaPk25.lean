/-
  The reference's All.
  The law HoldsAll.
-/
import Derived.Deep.RegionHeld3
import Derived.Test.YtbbkjdckogcbgaaPk19
import Derived.Test.YtbbkjdckogcbgaaPk24
import Derived.Test.YtbbkjdckogcbgaaPk9
import Derived.Test.YtbbkjdckogcbgaaPk11
import Derived.Test.YtbbkjdckogcbgaaPk22
import Derived.Test.YtbbkjdckogcbgaaPk23
namespace Go.Proofs.Ytbbkjdckogcbgaa
open Go Go.RowKit Sh Leaf

set_option maxHeartbeats 1000000 in
theorem rall_ (l : List Prd) (c : Ctx) (hc : c.holder.length ≤ 9223372036854775807) (A : Option Addr) (k : Nat) (Q : Nat → Prop) (w : World) (hI : Prds w Q A k l) :
    Calls Try.prog 19 #[.slice A l.length k, cv c] w fun e w' => e = .returned (.tuple #[.int .i64 ((hdAll l c).1 : Int), .bool (hdAll l c).2]) ∧ Below w.heap.size w w' := by
  have hh := fun p hp W => rholds p c (And.left hp) (And.right hp) hc W
  obtain ⟨z, cl, mi, nm⟩ := c
  unfold cv at hh ⊢
  simp only at hh hc ⊢
  have hlen : l.length ≤ 9223372036854775807 := by
    have := hI.1
    have := hI.2.1
    unfold maxLen at this
    omega
  have hb0 : Below w.heap.size w (w.alloc (.cells (crow z cl mi nm) 23)) := (Below.refl w.heap.size w).alloc (Nat.le_refl _) _
  have hC0 : CRow (w.alloc (.cells (crow z cl mi nm) 23)) w.heap.size z cl mi nm := Whole.here w _ _
  go_enter Try.func19, Try.ntmps19
  go_wp2
  go_loopw [6] (fun i wr => ∃ j : Nat, j ≤ l.length ∧ i = .int .i64 j ∧ (∀ i q, i < j → l[i]? = some q → hd q ⟨z, cl, mi, nm⟩) ∧ Below w.heap.size w wr ∧ CRow wr w.heap.size z cl mi nm ∧ Prds wr Q A k l) (fun i _ => l.length - (intOf i).toNat)
  case atStart => exact ⟨0, by omega, rfl, fun i q h => by omega, hb0, hC0, hI.alloc _⟩
  case round =>
    obtain ⟨j, hj, rfl, hall, hb, hC, hP⟩ := hrel
    have HA := Lib.hid hall
    clear hall
    have hwj : w.heap.size < wr.heap.size := hC.lt
    by_cases hlt : j < l.length
    · obtain ⟨p, hp⟩ : ∃ p, l[j]? = some p := ⟨_, List.getElem?_eq_getElem hlt⟩
      have hpb := hP.2.2.2.1 p (List.mem_of_getElem? hp)
      have hh1 := fun W => hh p hpb W
      rw [pv_row] at hh1
      obtain ⟨g, o, rfl, hQ, hg, c0, c1, c2, c3, c4, c5⟩ := hP.get j p hp
      obtain ⟨d0, d1, d2, d3⟩ := CRow.cells hC
      obtain ⟨pk, pm, pl, ph, pn, pu⟩ := p
      simp only at hh1 c0 c1 c2 c3 c4 c5
      have HP := Lib.hid hP
      have HC := Lib.hid hC
      have HB := Lib.hid hb
      have HI := Lib.hid hp
      obtain ⟨D, hD⟩ : ∃ D, D = decide (hd ⟨pk, pm, pl, ph, pn, pu⟩ ⟨z, cl, mi, nm⟩) := ⟨_, rfl⟩
      rw [← hD] at hh1
      have HD := Lib.hid hD
      clear hh hP hC hb hI hC0 hb0 hD hp hpb
      have hcc : ∀ W, Below wr.heap.size wr W → (W.cell? ⟨g, o + j * 6, none⟩ = some (.int .i64 pk) ∧ W.cell? ⟨g, o + j * 6 + 1, none⟩ = some (.int .u64 (pm : Int)) ∧ W.cell? ⟨g, o + j * 6 + 2, none⟩ = some (.int .i64 pl) ∧ W.cell? ⟨g, o + j * 6 + 3, none⟩ = some (.int .i64 ph) ∧ W.cell? ⟨g, o + j * 6 + 4, none⟩ = some (.string (sof pn)) ∧ W.cell? ⟨g, o + j * 6 + 5, none⟩ = some (.int .i64 pu) ∧ W.cell? ⟨w.heap.size, 0, none⟩ = some (.int .i64 z) ∧ W.cell? ⟨w.heap.size, 1, none⟩ = some (.int .i64 cl) ∧ W.cell? ⟨w.heap.size, 2, none⟩ = some (.int .i64 mi) ∧ W.cell? ⟨w.heap.size, 3, none⟩ = some (.string (sof nm))) := fun W hb => ⟨(hb.cell (p := ⟨g, o + j * 6, none⟩) hg).trans c0, (hb.cell (p := ⟨g, o + j * 6 + 1, none⟩) hg).trans c1, (hb.cell (p := ⟨g, o + j * 6 + 2, none⟩) hg).trans c2, (hb.cell (p := ⟨g, o + j * 6 + 3, none⟩) hg).trans c3, (hb.cell (p := ⟨g, o + j * 6 + 4, none⟩) hg).trans c4, (hb.cell (p := ⟨g, o + j * 6 + 5, none⟩) hg).trans c5, (hb.cell (p := ⟨w.heap.size, 0, none⟩) hwj).trans d0, (hb.cell (p := ⟨w.heap.size, 1, none⟩) hwj).trans d1, (hb.cell (p := ⟨w.heap.size, 2, none⟩) hwj).trans d2, (hb.cell (p := ⟨w.heap.size, 3, none⟩) hwj).trans d3⟩
      have hc0 := hcc wr (Below.refl _ _)
      have hj0 : (0 : Int) ≤ (j : Int) := by omega
      have hjl : (j : Int) < (l.length : Int) := by omega
      clear c0 c1 c2 c3 c4 c5 d0 d1 d2 d3
      go_wp2_with fail
      cases D
      · go_region_held3 (fun W => W.cell? ⟨g, o + j * 6, none⟩ = some (.int .i64 pk) ∧ W.cell? ⟨g, o + j * 6 + 1, none⟩ = some (.int .u64 (pm : Int)) ∧ W.cell? ⟨g, o + j * 6 + 2, none⟩ = some (.int .i64 pl) ∧ W.cell? ⟨g, o + j * 6 + 3, none⟩ = some (.int .i64 ph) ∧ W.cell? ⟨g, o + j * 6 + 4, none⟩ = some (.string (sof pn)) ∧ W.cell? ⟨g, o + j * 6 + 5, none⟩ = some (.int .i64 pu) ∧ W.cell? ⟨w.heap.size, 0, none⟩ = some (.int .i64 z) ∧ W.cell? ⟨w.heap.size, 1, none⟩ = some (.int .i64 cl) ∧ W.cell? ⟨w.heap.size, 2, none⟩ = some (.int .i64 mi) ∧ W.cell? ⟨w.heap.size, 3, none⟩ = some (.string (sof nm))) (first | exact hc0 | assumption | go_keep)
          (first
            | (go_at_call 16; refine (hh1 _).mono ?_; rintro e w2 ⟨rfl, hb2'⟩; have hb2 : Below wr.heap.size wr w2 := (Below.refl wr.heap.size wr).drew.trans hb2'; have hs2 := hcc w2 hb2; clear hb2'))
        have HB2 := Lib.hid (HB.out.trans (Below.mono hb2 HB.out.size))
        clear hb2 hs2
        go_wp2
        go_ret2
        have e := hdA_at ⟨z, cl, mi, nm⟩ l j _ HI.out HA.out (of_decide_eq_false HD.out.symm)
        exact ⟨by rw [e]; rfl, HB2.out⟩
      · go_region_held3 (fun W => W.cell? ⟨g, o + j * 6, none⟩ = some (.int .i64 pk) ∧ W.cell? ⟨g, o + j * 6 + 1, none⟩ = some (.int .u64 (pm : Int)) ∧ W.cell? ⟨g, o + j * 6 + 2, none⟩ = some (.int .i64 pl) ∧ W.cell? ⟨g, o + j * 6 + 3, none⟩ = some (.int .i64 ph) ∧ W.cell? ⟨g, o + j * 6 + 4, none⟩ = some (.string (sof pn)) ∧ W.cell? ⟨g, o + j * 6 + 5, none⟩ = some (.int .i64 pu) ∧ W.cell? ⟨w.heap.size, 0, none⟩ = some (.int .i64 z) ∧ W.cell? ⟨w.heap.size, 1, none⟩ = some (.int .i64 cl) ∧ W.cell? ⟨w.heap.size, 2, none⟩ = some (.int .i64 mi) ∧ W.cell? ⟨w.heap.size, 3, none⟩ = some (.string (sof nm))) (first | exact hc0 | assumption | go_keep)
          (first
            | (go_at_call 16; refine (hh1 _).mono ?_; rintro e w2 ⟨rfl, hb2'⟩; have hb2 : Below wr.heap.size wr w2 := (Below.refl wr.heap.size wr).drew.trans hb2'; have hs2 := hcc w2 hb2; clear hb2'))
        have HB2 : Hid (Below wr.heap.size wr _) := Lib.hid hb2
        clear hb2 hs2
        go_wp2_with fail
        go_roundw
        case rel =>
          refine ⟨j + 1, by omega, by go_num, fun i q hi hq => ?_, HB.out.trans (HB2.out.mono HB.out.size), HC.out.below HB2.out hwj, HP.out.below HB2.out (Nat.le_refl _)⟩
          by_cases e : i = j
          · subst e
            have h1 := HI.out
            rw [hq] at h1
            injection h1 with h1
            rw [h1]
            exact of_decide_eq_true HD.out.symm
          · exact HA.out i q (by omega) hq
        case measure => simp [intOf]; omega
    · have e := hdA_end ⟨z, cl, mi, nm⟩ l (fun i q hi hq => HA.out i q (by omega) hq)
      have HE := Lib.hid e
      clear hh e hI hP
      go_wp2
      go_ret2
      exact ⟨by rw [HE.out]; rfl, hb⟩
end Go.Proofs.Ytbbkjdckogcbgaa
namespace Go.Proofs.Ytbbkjdckogcbgaa
open Go Go.RowKit Sh Leaf

/-- A length cut at 60: the number that is left, by the test's way. -/
theorem min60 (n : Nat) : ∃ N : Nat, min (n : Int) 60 = (N : Int) ∧ N ≤ n := ⟨min n 60, by omega, by omega⟩
set_option maxRecDepth 100000 in
set_option maxHeartbeats 4000000 in
theorem hall_law (A0 : Option Addr) (l0 : List Prd) (c0 : Nat) (c : Ctx) (hc : c.holder.length ≤ 9223372036854775807) (A : Option Addr) (l : List Int) (k : Nat) (w : World)
    (hP : Prds w (fun b => b < w.heap.size) A0 c0 l0) (hI : Ints w (fun b => b < w.heap.size) A k l) :
    Calls Try.prog 5 #[.slice A0 l0.length c0, cv c, .slice A l.length k] w fun e w' => e = .returned (.bool true) ∧ Below w.heap.size w w' := by
  obtain ⟨N, hN, hNl⟩ := min60 l0.length
  have hNc : N ≤ c0 := Nat.le_trans hNl hP.1
  have hct := fun W => run_pcut_to A0 l0.length c0 N hNc W
  obtain ⟨el, hQ⟩ := hP.cut N hNl
  have hl0 : l0.length ≤ 9223372036854775807 := by have := hP.1; have := hP.2.1; unfold maxLen at this; omega
  clear hNl hNc hP
  generalize l0.take N = lp at *
  have he := Lib.hid fun W hW => hall_ lp c hc A0 c0 (fun b => b < w.heap.size) W hW
  have hr := Lib.hid fun W hW => rall_ lp c hc A0 c0 (fun b => b < w.heap.size) W hW
  have hxe := Lib.hid fun (lx : List Prd) (Ax : Option Addr) (cx : Nat) (Q : Nat → Prop) W hW => hall_ lx c hc Ax cx Q W hW
  have hxr := Lib.hid fun (lx : List Prd) (Ax : Option Addr) (cx : Nat) (Q : Nat → Prop) W hW => rall_ lx c hc Ax cx Q W hW
  rw [el] at he hr
  clear hc el
  obtain ⟨E1, hE1⟩ : ∃ x, x = ((hdAll lp c).1 : Int) := ⟨_, rfl⟩
  obtain ⟨E2, hE2⟩ : ∃ x, x = (hdAll lp c).2 := ⟨_, rfl⟩
  rw [← hE1, ← hE2] at he hr
  clear hE1 hE2
  obtain ⟨cz, cl, cm, cn⟩ := c
  unfold cv at he hr hxe hxr ⊢
  simp only at he hr hxe hxr ⊢
  have hbx : Below w.heap.size w (w.alloc (.cells (crow cz cl cm cn) 23)) := (Below.refl w.heap.size w).alloc (Nat.le_refl _) _
  have hdn := dnew A l.length k l (w.alloc (.cells (crow cz cl cm cn) 23)) rfl ((hI.below hbx).mono (by simp))
  have hC0 : CRow (w.alloc (.cells (crow cz cl cm cn) 23)) w.heap.size cz cl cm cn := Whole.here _ _ _
  have hQ0 := hQ.low hbx
  clear hI hQ
  go_enter Try.func5, Try.ntmps5
  go_wp2_with fail
  refine hdn.mono ?_
  rintro e w1 ⟨rfl, hd1, hb1⟩
  have hC1 := Whole.below hC0 hb1 hC0.lt
  have hB1 : Below w.heap.size w w1 := hbx.trans (hb1.mono (by simp))
  have hQ1 := hQ0.low (hb1.mono (by simp))
  clear hdn hbx hC0 hQ0 hb1 hct hN hl0
  simp only [World.size_alloc] at hd1
  go_wp2_with fail
  refine (dctx _ _ hd1).mono ?_
  rintro e w2 ⟨y, hy, rfl, ht2⟩
  have hd2 := ht2.1
  have hC2 := ht2.2.2 _ _ _ (by omega) hC1
  have hB2 := hB1.trans (ht2.2.1.mono (by omega))
  have hQ2 := hQ1.low (ht2.2.1.mono (by omega))
  have hyl : y.holder.length ≤ 9223372036854775807 := by have := hy.2.2.2.2.1; omega
  have hye := Lib.hid fun (lx : List Prd) (Ax : Option Addr) (cx : Nat) (Q : Nat → Prop) W hW => hall_ lx y hyl Ax cx Q W hW
  have hyr := Lib.hid fun (lx : List Prd) (Ax : Option Addr) (cx : Nat) (Q : Nat → Prop) W hW => rall_ lx y hyl Ax cx Q W hW
  rw [cv_row] at hye hyr ⊢
  clear hC1 hB1 hQ1 ht2 hd1 hy hyl
  obtain ⟨yz, yl, ym, yn⟩ := y
  simp only at hye hyr ⊢
  have hl2 : w.heap.size < w2.heap.size := hC2.lt
  have hl3 : w.heap.size + 1 < w2.heap.size := hd2.lt
  have hd3 := hd2.alloc (.cells (crow yz yl ym yn) 23)
  have hY3 : CRow (w2.alloc (.cells (crow yz yl ym yn) 23)) w2.heap.size yz yl ym yn := Whole.here _ _ _
  have hC3 := Whole.alloc hC2 (.cells (crow yz yl ym yn) 23)
  have hbb : Below w.heap.size w2 (w2.alloc (.cells (crow yz yl ym yn) 23)) := (Below.refl _ _).alloc (by omega) _
  have hB3 := hB2.trans hbb
  have hQ3 := hQ2.low hbb
  have hps := dpreds 6 (by omega) _ _ hd3
  rw [show ((6 : Nat) : Int) = 6 from rfl] at hps
  clear hC2 hB2 hQ2 hd2 hd3 hbb
  go_wp2_with fail
  refine hps.mono ?_
  rintro e w3 ⟨v, lx, rfl, -, hlx, hown, ht3⟩
  obtain ⟨Ax, cx, rfl, hX4⟩ := hown.prds (fun p hp => (hlx p hp).2)
  have hY4 := ht3.2.2 _ _ _ (by omega) hY3
  have hC4 := ht3.2.2 _ _ _ (by omega) hC3
  have hB4 := hB3.trans (ht3.2.1.mono (by omega))
  have hQ4 := hQ3.low (ht3.2.1.mono (by omega))
  obtain ⟨F1, hF1⟩ : ∃ x, x = ((hdAll lx ⟨yz, yl, ym, yn⟩).1 : Int) := ⟨_, rfl⟩
  obtain ⟨F2, hF2⟩ : ∃ x, x = (hdAll lx ⟨yz, yl, ym, yn⟩).2 := ⟨_, rfl⟩
  obtain ⟨G1, hG1⟩ : ∃ x, x = ((hdAll lx ⟨cz, cl, cm, cn⟩).1 : Int) := ⟨_, rfl⟩
  obtain ⟨G2, hG2⟩ : ∃ x, x = (hdAll lx ⟨cz, cl, cm, cn⟩).2 := ⟨_, rfl⟩
  have ye := Lib.hid (fun W hW => hye.out lx Ax cx (fun _ => True) W hW)
  have yr := Lib.hid (fun W hW => hyr.out lx Ax cx (fun _ => True) W hW)
  have xe := Lib.hid (fun W hW => hxe.out lx Ax cx (fun _ => True) W hW)
  have xr := Lib.hid (fun W hW => hxr.out lx Ax cx (fun _ => True) W hW)
  rw [← hF1, ← hF2] at ye yr
  rw [← hG1, ← hG2] at xe xr
  have HX0 := Lib.hid (hX4.mono (Q' := fun _ => True) fun _ _ _ => trivial)
  have HY0 := Lib.hid hY4
  have HC0 := Lib.hid hC4
  have HB0 := Lib.hid hB4
  have HQ0 := Lib.hid hQ4
  have hz2 : (1000 : Nat) = 1000 := rfl
  clear hF1 hF2 hG1 hG2 hye hyr hxe hxr hX4 hY4 hC4 hB4 hQ4 ht3 hps hown hlx hY3 hC3 hB3 hQ3 hz2 hl2 hl3
  generalize lx.length = nx at *
  obtain ⟨a0, a1, a2, a3⟩ := CRow.cells HY0.out
  go_wp2_with fail
  refine (ye.out _ HX0.out).mono ?_
  rintro e w4 ⟨rfl, hb⟩
  have HX1 := Lib.hid (HX0.out.below hb (Nat.le_refl _))
  have HQ1 := Lib.hid (HQ0.out.low (hb.mono HB0.out.size))
  have HY1 := Lib.hid (Whole.below HY0.out hb (Whole.lt HY0.out))
  have HC1 := Lib.hid (Whole.below HC0.out hb (Whole.lt HC0.out))
  have HB1 := Lib.hid (HB0.out.trans (hb.mono HB0.out.size))
  clear hb a0 a1 a2 a3 HX0 HQ0 HY0 HC0 HB0
  obtain ⟨a0, a1, a2, a3⟩ := CRow.cells HY1.out
  go_wp2_with fail
  refine (yr.out _ HX1.out).mono ?_
  rintro e w5 ⟨rfl, hb⟩
  have HX2 := Lib.hid (HX1.out.below hb (Nat.le_refl _))
  have HQ2 := Lib.hid (HQ1.out.low (hb.mono HB1.out.size))
  have HY2 := Lib.hid (Whole.below HY1.out hb (Whole.lt HY1.out))
  have HC2 := Lib.hid (Whole.below HC1.out hb (Whole.lt HC1.out))
  have HB2 := Lib.hid (HB1.out.trans (hb.mono HB1.out.size))
  clear hb a0 a1 a2 a3 HX1 HQ1 HY1 HC1 HB1
  obtain ⟨a0, a1, a2, a3⟩ := CRow.cells HC2.out
  go_wp2_with fail
  refine (he.out _ HQ2.out).mono ?_
  rintro e w6 ⟨rfl, hb⟩
  have HX3 := Lib.hid (HX2.out.below hb (Nat.le_refl _))
  have HQ3 := Lib.hid (HQ2.out.low (hb.mono HB2.out.size))
  have HY3 := Lib.hid (Whole.below HY2.out hb (Whole.lt HY2.out))
  have HC3 := Lib.hid (Whole.below HC2.out hb (Whole.lt HC2.out))
  have HB3 := Lib.hid (HB2.out.trans (hb.mono HB2.out.size))
  clear hb a0 a1 a2 a3 HX2 HQ2 HY2 HC2 HB2
  obtain ⟨a0, a1, a2, a3⟩ := CRow.cells HC3.out
  go_wp2_with fail
  refine (hr.out _ HQ3.out).mono ?_
  rintro e w7 ⟨rfl, hb⟩
  have HX4 := Lib.hid (HX3.out.below hb (Nat.le_refl _))
  have HQ4 := Lib.hid (HQ3.out.low (hb.mono HB3.out.size))
  have HY4 := Lib.hid (Whole.below HY3.out hb (Whole.lt HY3.out))
  have HC4 := Lib.hid (Whole.below HC3.out hb (Whole.lt HC3.out))
  have HB4 := Lib.hid (HB3.out.trans (hb.mono HB3.out.size))
  clear hb a0 a1 a2 a3 HX3 HQ3 HY3 HC3 HB3
  obtain ⟨a0, a1, a2, a3⟩ := CRow.cells HC4.out
  go_wp2_with fail
  refine (xe.out _ HX4.out).mono ?_
  rintro e w8 ⟨rfl, hb⟩
  have HX5 := Lib.hid (HX4.out.below hb (Nat.le_refl _))
  have HQ5 := Lib.hid (HQ4.out.low (hb.mono HB4.out.size))
  have HY5 := Lib.hid (Whole.below HY4.out hb (Whole.lt HY4.out))
  have HC5 := Lib.hid (Whole.below HC4.out hb (Whole.lt HC4.out))
  have HB5 := Lib.hid (HB4.out.trans (hb.mono HB4.out.size))
  clear hb a0 a1 a2 a3 HX4 HQ4 HY4 HC4 HB4
  obtain ⟨a0, a1, a2, a3⟩ := CRow.cells HC5.out
  go_wp2_with fail
  refine (xr.out _ HX5.out).mono ?_
  rintro e w9 ⟨rfl, hb⟩
  have HX6 := Lib.hid (HX5.out.below hb (Nat.le_refl _))
  have HQ6 := Lib.hid (HQ5.out.low (hb.mono HB5.out.size))
  have HY6 := Lib.hid (Whole.below HY5.out hb (Whole.lt HY5.out))
  have HC6 := Lib.hid (Whole.below HC5.out hb (Whole.lt HC5.out))
  have HB6 := Lib.hid (HB5.out.trans (hb.mono HB5.out.size))
  clear hb a0 a1 a2 a3 HX5 HQ5 HY5 HC5 HB5
  go_wp2_with fail
  refine (hawake _).mono ?_
  rintro e w10 ⟨rfl, hb⟩
  have HF := Lib.hid (HB6.out.trans (hb.mono HB6.out.size))
  clear hb
  go_wp2
  go_ret
  exact ⟨rfl, HF.out⟩
end Go.Proofs.Ytbbkjdckogcbgaa
