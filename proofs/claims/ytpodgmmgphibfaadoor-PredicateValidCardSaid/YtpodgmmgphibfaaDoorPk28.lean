/-
  The law PredicateValid.
-/
import Derived.Deep.RegionHeld3
import Derived.Test.YtpodgmmgphibfaaDoorPk13
import Derived.Test.YtpodgmmgphibfaaDoorPk25
import Derived.Test.YtpodgmmgphibfaaDoorPk27
namespace Go.Proofs.YtpodgmmgphibfaaDoor
open Go Go.RowKit Sh Leaf

set_option maxRecDepth 100000 in
set_option maxHeartbeats 4000000 in
theorem valid_law (p : Prd) (hm : p.mask < 18446744073709551616) (hn : p.name.length ≤ 9223372036854775807) (A : Option Addr) (l : List Int) (c : Nat) (how : Nat) (hh : how < 256) (n : Int) (h0 : -9223372036854775808 ≤ n) (h1 : n ≤ 9223372036854775807) (w : World)
    (hI : Ints w (fun b => b < w.heap.size) A c l) (hS : Std w) :
    Calls Tryd.prog 3 #[pv p, .slice A l.length c, .int .u8 (how : Int), .int .i64 n] w fun e w' => e = .returned (.bool true) ∧ Below w.heap.size w w' := by
  have hvp := fun W => pvalid p hm hn W
  have hrp := fun W => rvalid p hm hn W
  have hbx : ∀ o, Below w.heap.size w (w.alloc o) := fun o => (Below.refl w.heap.size w).alloc (Nat.le_refl _) o
  have hdn := fun o => dnew A l.length c l (w.alloc o) rfl ((hI.below (hbx o)).mono (by simp))
  obtain ⟨pk, pm, pl, ph, pn, pu⟩ := p
  unfold pv at hvp hrp ⊢
  simp only at hvp hrp ⊢
  obtain ⟨D1, hD1⟩ : ∃ D, D = decide (pok ⟨pk, pm, pl, ph, pn, pu⟩) := ⟨_, rfl⟩
  rw [← hD1] at hvp hrp
  clear hD1 hm hn hI
  go_enter Tryd.func3, Tryd.ntmps3
  go_wp2_with fail
  refine (hdn _).mono ?_
  rintro e w1 ⟨rfl, hd1, hb1⟩
  have hP1 : PRow w1 w.heap.size pk pm pl ph pn pu := (Whole.here w _ _).below hb1 (by simp)
  have hB1 : Below w.heap.size w w1 := (hbx _).trans (hb1.mono (by simp))
  clear hb1 hdn hbx
  have hg1 := hd1.lt
  have hsz : (w.alloc (.cells (prow pk pm pl ph pn pu) 24)).heap.size = w.heap.size + 1 := by simp
  simp only [World.size_alloc] at hd1 hg1
  go_wp2_with fail
  refine (dpred _ _ hd1).mono ?_
  rintro e w2 ⟨x, hx, hxm, rfl, ht2⟩
  have hxn := pok_nm hx
  have hP2 : PRow w2 w.heap.size pk pm pl ph pn pu := ht2.2.2 _ _ _ (by omega) hP1
  have hB2 := hB1.trans (ht2.2.1.mono (by omega))
  have hvx := fun W => pvalid x hxm (by omega) W
  rw [decide_eq_true hx] at hvx
  have hsp := fun W => spoilt_ x hxm (by omega) how hh n h0 h1 W
  obtain ⟨xk, xm, xl, xh, xn, xu⟩ := x
  unfold pv at hvx hsp ⊢
  simp only at hvx hsp ⊢
  have hP2a := Whole.alloc hP2 (.cells (prow xk xm xl xh xn xu) 24)
  have hX2 : PRow (w2.alloc (.cells (prow xk xm xl xh xn xu) 24)) w2.heap.size xk xm xl xh xn xu := Whole.here w2 _ _
  have hB2a := hB2.alloc hB2.size (.cells (prow xk xm xl xh xn xu) 24)
  have HP2 := Lib.hid hP2a
  have HX2 := Lib.hid hX2
  have HB2 := Lib.hid hB2a
  have hl2 : w.heap.size < w2.heap.size := hP2.lt
  clear hP2a hX2 hB2a hP2 hB2 ht2 hP1 hB1 hd1 hg1 hsz hx hxm hxn
  go_wp2_with (first | (with_reducible refine wpList_load_prd rfl _ rfl (g := w2.heap.size) rfl HX2.out ?_))
  refine (hsp _).mono ?_
  rintro e w3 ⟨y, hym, hyn, rfl, hb3⟩
  have hvy := fun W => pvalid y hym (by omega) W
  have hry := fun W => rvalid y hym (by omega) W
  obtain ⟨D2, hD2⟩ : ∃ D, D = decide (pok y) := ⟨_, rfl⟩
  rw [← hD2] at hvy hry
  clear hD2 hsp
  obtain ⟨yk, ym, yl, yh, yn, yu⟩ := y
  unfold pv at hvy hry
  simp only at hvy hry ⊢
  have hP3 : PRow w3 w.heap.size pk pm pl ph pn pu := HP2.out.below hb3 (by simp; omega)
  have hX3 : PRow w3 w2.heap.size xk xm xl xh xn xu := HX2.out.below hb3 (by simp)
  have hB3 := HB2.out.trans (hb3.mono HB2.out.size)
  have hl3 : w2.heap.size < w3.heap.size := hX3.lt
  have hP4 := Whole.alloc hP3 (.cells (prow yk ym yl yh yn yu) 24)
  have hX4 := Whole.alloc hX3 (.cells (prow yk ym yl yh yn yu) 24)
  have hY4 : PRow (w3.alloc (.cells (prow yk ym yl yh yn yu) 24)) w3.heap.size yk ym yl yh yn yu := Whole.here w3 _ _
  have hB4 := hB3.alloc hB3.size (.cells (prow yk ym yl yh yn yu) 24)
  have hS4 := hS.below hB4 (Nat.le_refl _)
  clear hP3 hX3 hB3 hb3 HP2 HX2 HB2 hS
  have hlt4 : w.heap.size < w3.heap.size := by omega
  go_wp2_with fail
  obtain ⟨w4, hw4⟩ : ∃ w4, w4 = w3.alloc (.cells (prow yk ym yl yh yn yu) 24) := ⟨_, rfl⟩
  rw [← hw4] at hP4 hX4 hY4 hB4 hS4
  show Code.wp _ _ _ _ (w3.alloc (.cells (prow yk ym yl yh yn yu) 24))
  rw [← hw4]
  clear hw4
  have hlp : w.heap.size < w4.heap.size := Whole.lt hP4
  have hlx : w2.heap.size < w4.heap.size := Whole.lt hX4
  have hly : w3.heap.size < w4.heap.size := Whole.lt hY4
  have hcc : ∀ W, Below w4.heap.size w4 W → (W.cell? ⟨w.heap.size, 0, none⟩ = some (.int .i64 pk) ∧ W.cell? ⟨w.heap.size, 1, none⟩ = some (.int .u64 (pm : Int)) ∧ W.cell? ⟨w.heap.size, 2, none⟩ = some (.int .i64 pl) ∧ W.cell? ⟨w.heap.size, 3, none⟩ = some (.int .i64 ph) ∧ W.cell? ⟨w.heap.size, 4, none⟩ = some (.string (sof pn)) ∧ W.cell? ⟨w.heap.size, 5, none⟩ = some (.int .i64 pu) ∧ W.cell? ⟨w2.heap.size, 0, none⟩ = some (.int .i64 xk) ∧ W.cell? ⟨w2.heap.size, 1, none⟩ = some (.int .u64 (xm : Int)) ∧ W.cell? ⟨w2.heap.size, 2, none⟩ = some (.int .i64 xl) ∧ W.cell? ⟨w2.heap.size, 3, none⟩ = some (.int .i64 xh) ∧ W.cell? ⟨w2.heap.size, 4, none⟩ = some (.string (sof xn)) ∧ W.cell? ⟨w2.heap.size, 5, none⟩ = some (.int .i64 xu) ∧ W.cell? ⟨w3.heap.size, 0, none⟩ = some (.int .i64 yk) ∧ W.cell? ⟨w3.heap.size, 1, none⟩ = some (.int .u64 (ym : Int)) ∧ W.cell? ⟨w3.heap.size, 2, none⟩ = some (.int .i64 yl) ∧ W.cell? ⟨w3.heap.size, 3, none⟩ = some (.int .i64 yh) ∧ W.cell? ⟨w3.heap.size, 4, none⟩ = some (.string (sof yn)) ∧ W.cell? ⟨w3.heap.size, 5, none⟩ = some (.int .i64 yu)) := fun W hb => by
    obtain ⟨a0, a1, a2, a3, a4, a5⟩ := PRow.cells (Whole.below hP4 hb hlp)
    obtain ⟨b0, b1, b2, b3, b4, b5⟩ := PRow.cells (Whole.below hX4 hb hlx)
    obtain ⟨d0, d1, d2, d3, d4, d5⟩ := PRow.cells (Whole.below hY4 hb hly)
    exact ⟨a0, a1, a2, a3, a4, a5, b0, b1, b2, b3, b4, b5, d0, d1, d2, d3, d4, d5⟩
  have hc0 := hcc w4 (Below.refl _ _)
  have av := fun W (hb : Below w4.heap.size w4 W) => (hvx W).mono fun _ _ h => And.intro h.1 (hb.trans (h.2.mono hb.size))
  have bv1 := fun W (hb : Below w4.heap.size w4 W) => (hvp W).mono fun _ _ h => And.intro h.1 (hb.trans (h.2.mono hb.size))
  have bv2 := fun W (hb : Below w4.heap.size w4 W) => (hrp W).mono fun _ _ h => And.intro h.1 (hb.trans (h.2.mono hb.size))
  have cv1 := fun W (hb : Below w4.heap.size w4 W) => (hvy W).mono fun _ _ h => And.intro h.1 (hb.trans (h.2.mono hb.size))
  have cv2 := fun W (hb : Below w4.heap.size w4 W) => (hry W).mono fun _ _ h => And.intro h.1 (hb.trans (h.2.mono hb.size))
  have aw := fun W (hb : Below w4.heap.size w4 W) => (pawake W (hS4.below hb (Nat.le_refl _))).mono fun _ _ h => And.intro h.1 (hb.trans (h.2.mono hb.size))
  have HB4 := Lib.hid hB4
  clear hP4 hX4 hY4 hB4 hS4 hvx hvp hrp hvy hry
  go_region_held3 (fun W => W.cell? ⟨w.heap.size, 0, none⟩ = some (.int .i64 pk) ∧ W.cell? ⟨w.heap.size, 1, none⟩ = some (.int .u64 (pm : Int)) ∧ W.cell? ⟨w.heap.size, 2, none⟩ = some (.int .i64 pl) ∧ W.cell? ⟨w.heap.size, 3, none⟩ = some (.int .i64 ph) ∧ W.cell? ⟨w.heap.size, 4, none⟩ = some (.string (sof pn)) ∧ W.cell? ⟨w.heap.size, 5, none⟩ = some (.int .i64 pu) ∧ W.cell? ⟨w2.heap.size, 0, none⟩ = some (.int .i64 xk) ∧ W.cell? ⟨w2.heap.size, 1, none⟩ = some (.int .u64 (xm : Int)) ∧ W.cell? ⟨w2.heap.size, 2, none⟩ = some (.int .i64 xl) ∧ W.cell? ⟨w2.heap.size, 3, none⟩ = some (.int .i64 xh) ∧ W.cell? ⟨w2.heap.size, 4, none⟩ = some (.string (sof xn)) ∧ W.cell? ⟨w2.heap.size, 5, none⟩ = some (.int .i64 xu) ∧ W.cell? ⟨w3.heap.size, 0, none⟩ = some (.int .i64 yk) ∧ W.cell? ⟨w3.heap.size, 1, none⟩ = some (.int .u64 (ym : Int)) ∧ W.cell? ⟨w3.heap.size, 2, none⟩ = some (.int .i64 yl) ∧ W.cell? ⟨w3.heap.size, 3, none⟩ = some (.int .i64 yh) ∧ W.cell? ⟨w3.heap.size, 4, none⟩ = some (.string (sof yn)) ∧ W.cell? ⟨w3.heap.size, 5, none⟩ = some (.int .i64 yu)) (first | exact hc0 | assumption | go_keep)
    (first
      | (have g10 := hb9; go_at_call 14; refine (aw _ hb9).mono ?_; rintro e w10 ⟨rfl, hb10⟩; have hs10 := hcc w10 hb10)
      | (have g9 := hb8; go_at_call 13; refine (cv2 _ hb8).mono ?_; rintro e w9 ⟨rfl, hb9⟩; have hs9 := hcc w9 hb9)
      | (have g8 := hb7; go_at_call 12; refine (cv1 _ hb7).mono ?_; rintro e w8 ⟨rfl, hb8⟩; have hs8 := hcc w8 hb8)
      | (have g7 := hb6; go_at_call 13; refine (bv2 _ hb6).mono ?_; rintro e w7 ⟨rfl, hb7⟩; have hs7 := hcc w7 hb7)
      | (have g6 := hb5; go_at_call 12; refine (bv1 _ hb5).mono ?_; rintro e w6 ⟨rfl, hb6⟩; have hs6 := hcc w6 hb6)
      | (go_at_call 12; refine (av _ (Below.drew (Below.refl _ _))).mono ?_; rintro e w5 ⟨rfl, hb5⟩; have hs5 := hcc w5 hb5))
  have HF := Lib.hid (HB4.out.trans (hb10.mono HB4.out.size))
  clear hb5 hb6 hb7 hb8 hb9 hb10 hs5 hs6 hs7 hs8 hs9 hs10 hcc hc0
  go_wp2
  go_ret
  exact ⟨rfl, HF.out⟩
end Go.Proofs.YtpodgmmgphibfaaDoor
