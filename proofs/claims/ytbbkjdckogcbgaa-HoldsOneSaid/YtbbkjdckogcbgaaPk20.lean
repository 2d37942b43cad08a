/-
  The law HoldsOne.
-/
import Derived.Deep.RegionHeld3
import Derived.Test.YtbbkjdckogcbgaaPk9
import Derived.Test.YtbbkjdckogcbgaaPk11
import Derived.Test.YtbbkjdckogcbgaaPk15
import Derived.Test.YtbbkjdckogcbgaaPk19
namespace Go.Proofs.Ytbbkjdckogcbgaa
open Go Go.RowKit Sh Leaf

set_option maxRecDepth 100000 in
set_option maxHeartbeats 4000000 in
theorem hone_law (p : Prd) (hp : pbd p) (c : Ctx) (hc : c.holder.length ≤ 9223372036854775807) (A : Option Addr) (l : List Int) (k : Nat) (w : World)
    (hI : Ints w (fun b => b < w.heap.size) A k l) :
    Calls Try.prog 4 #[pv p, cv c, .slice A l.length k] w fun e w' => e = .returned (.bool true) ∧ Below w.heap.size w w' := by
  have h4 := fun W => hholds p c hp.1 hp.2 hc W
  have r4 := fun W => rholds p c hp.1 hp.2 hc W
  obtain ⟨D4, hD4⟩ : ∃ D, D = decide (hd p c) := ⟨_, rfl⟩
  rw [← hD4] at h4 r4
  have hp3 : Hid (∀ (y : Ctx), y.holder.length ≤ 16 → ∀ W, Calls Try.prog 15 #[pv p, cv y] W fun e w' => e = .returned (.bool (decide (hd p y))) ∧ Below W.heap.size W w') := Lib.hid fun y hy W => hholds p y hp.1 hp.2 (by omega) W
  have rp3 : Hid (∀ (y : Ctx), y.holder.length ≤ 16 → ∀ W, Calls Try.prog 16 #[pv p, cv y] W fun e w' => e = .returned (.bool (decide (hd p y))) ∧ Below W.heap.size W w') := Lib.hid fun y hy W => rholds p y hp.1 hp.2 (by omega) W
  have hc3 : Hid (∀ (x : Prd), pbd x → ∀ W, Calls Try.prog 15 #[pv x, cv c] W fun e w' => e = .returned (.bool (decide (hd x c))) ∧ Below W.heap.size W w') := Lib.hid fun x hx W => hholds x c hx.1 hx.2 hc W
  have rc3 : Hid (∀ (x : Prd), pbd x → ∀ W, Calls Try.prog 16 #[pv x, cv c] W fun e w' => e = .returned (.bool (decide (hd x c))) ∧ Below W.heap.size W w') := Lib.hid fun x hx W => rholds x c hx.1 hx.2 hc W
  clear hD4 hp hc
  rw [pv_row, cv_row] at h4 r4
  rw [pv_row] at hp3 rp3
  rw [cv_row] at hc3 rc3
  rw [pv_row, cv_row]
  obtain ⟨pk, pm, pl, ph, pn, pu⟩ := p
  obtain ⟨cz, cl, cm, cn⟩ := c
  simp only at h4 r4 hp3 rp3 hc3 rc3 ⊢
  have hbx : Below w.heap.size w ((w.alloc (.cells (prow pk pm pl ph pn pu) 35)).alloc (.cells (crow cz cl cm cn) 23)) := two_below _ _ _
  have hdn := dnew A l.length k l ((w.alloc (.cells (prow pk pm pl ph pn pu) 35)).alloc (.cells (crow cz cl cm cn) 23)) rfl ((hI.below hbx).mono (by simp; omega))
  have hP0 : PRow ((w.alloc (.cells (prow pk pm pl ph pn pu) 35)).alloc (.cells (crow cz cl cm cn) 23)) w.heap.size pk pm pl ph pn pu := (Whole.here _ _ _).alloc _
  have hC0 : CRow ((w.alloc (.cells (prow pk pm pl ph pn pu) 35)).alloc (.cells (crow cz cl cm cn) 23)) (w.heap.size + 1) cz cl cm cn := Whole.at_ _ _ _ _ (by simp)
  clear hI
  go_enter Try.func4, Try.ntmps4
  go_wp2_with fail
  refine hdn.mono ?_
  rintro e w1 ⟨rfl, hd1, hb1⟩
  have hP1 := Whole.below hP0 hb1 hP0.lt
  have hC1 := Whole.below hC0 hb1 hC0.lt
  have hB1 : Below w.heap.size w w1 := hbx.trans (hb1.mono (by simp; omega))
  clear hdn hbx hC0 hP0 hb1
  simp only [World.size_alloc] at hd1
  go_wp2_with fail
  refine (dpred _ _ hd1).mono ?_
  rintro e w2 ⟨x, hx, hxm, rfl, ht2⟩
  have hd2 := ht2.1
  have hP2 := ht2.2.2 _ _ _ (by omega) hP1
  have hC2 := ht2.2.2 _ _ _ (by omega) hC1
  have hB2 := hB1.trans (ht2.2.1.mono (by omega))
  clear hP1 hC1 hB1 ht2 hd1
  go_wp2_with fail
  refine (dctx _ _ hd2).mono ?_
  rintro e w3 ⟨y, hy, rfl, ht3⟩
  have hP3 := ht3.2.2 _ _ _ (by omega) hP2
  have hC3 := ht3.2.2 _ _ _ (by omega) hC2
  have hB3 := hB2.trans (ht3.2.1.mono (by omega))
  have hyl : y.holder.length ≤ 16 := hy.2.2.2.2.1
  have hxb : pbd x := ⟨hxm, by have := pok_name_le hx; omega⟩
  have h1 := fun W => hholds x y hxb.1 hxb.2 (by omega) W
  have r1 := fun W => rholds x y hxb.1 hxb.2 (by omega) W
  have h2 := hp3.out y hyl
  have r2 := rp3.out y hyl
  have h3 := hc3.out x hxb
  have r3 := rc3.out x hxb
  obtain ⟨D1, hD1⟩ : ∃ D, D = decide (hd x y) := ⟨_, rfl⟩
  obtain ⟨D2, hD2⟩ : ∃ D, D = decide (hd ⟨pk, pm, pl, ph, pn, pu⟩ y) := ⟨_, rfl⟩
  obtain ⟨D3, hD3⟩ : ∃ D, D = decide (hd x ⟨cz, cl, cm, cn⟩) := ⟨_, rfl⟩
  rw [← hD1] at h1 r1
  rw [← hD2] at h2 r2
  rw [← hD3] at h3 r3
  clear hD1 hD2 hD3 hp3 rp3 hc3 rc3 hxb hx hxm hy hyl ht3 hd2 hP2 hC2 hB2
  rw [pv_row, cv_row] at h1 r1
  rw [cv_row] at h2 r2
  rw [pv_row] at h3 r3
  rw [pv_row, cv_row]
  obtain ⟨xk, xm, xl, xh, xn, xu⟩ := x
  obtain ⟨yz, yl, ym, yn⟩ := y
  simp only at h1 r1 h2 r2 h3 r3 ⊢
  have hP4 : PRow ((w3.alloc (.cells (prow xk xm xl xh xn xu) 35)).alloc (.cells (crow yz yl ym yn) 23)) w.heap.size pk pm pl ph pn pu := (Whole.alloc hP3 _).alloc _
  have hC4 : CRow ((w3.alloc (.cells (prow xk xm xl xh xn xu) 35)).alloc (.cells (crow yz yl ym yn) 23)) (w.heap.size + 1) cz cl cm cn := (Whole.alloc hC3 _).alloc _
  have hX4 : PRow ((w3.alloc (.cells (prow xk xm xl xh xn xu) 35)).alloc (.cells (crow yz yl ym yn) 23)) w3.heap.size xk xm xl xh xn xu := (Whole.here _ _ _).alloc _
  have hY4 : CRow ((w3.alloc (.cells (prow xk xm xl xh xn xu) 35)).alloc (.cells (crow yz yl ym yn) 23)) (w3.heap.size + 1) yz yl ym yn := Whole.at_ _ _ _ _ (by simp)
  have hB4 : Below w.heap.size w ((w3.alloc (.cells (prow xk xm xl xh xn xu) 35)).alloc (.cells (crow yz yl ym yn) 23)) := (hB3.alloc hB3.size _).alloc (by have := hB3.size; simp; omega) _
  clear hP3 hC3 hB3
  go_wp2_with fail
  obtain ⟨w4, hw4⟩ : ∃ w4, w4 = ((w3.alloc (.cells (prow xk xm xl xh xn xu) 35)).alloc (.cells (crow yz yl ym yn) 23)) := ⟨_, rfl⟩
  rw [← hw4] at hP4 hC4 hX4 hY4 hB4
  show Code.wp _ _ _ _ ((w3.alloc (.cells (prow xk xm xl xh xn xu) 35)).alloc (.cells (crow yz yl ym yn) 23))
  rw [← hw4]
  clear hw4
  have l1 := hP4.lt
  have l2 := hC4.lt
  have l3 := hX4.lt
  have l4 := hY4.lt
  have hcc : ∀ W, Below w4.heap.size w4 W → (W.cell? ⟨w.heap.size, 0, none⟩ = some (.int .i64 pk) ∧ W.cell? ⟨w.heap.size, 1, none⟩ = some (.int .u64 (pm : Int)) ∧ W.cell? ⟨w.heap.size, 2, none⟩ = some (.int .i64 pl) ∧ W.cell? ⟨w.heap.size, 3, none⟩ = some (.int .i64 ph) ∧ W.cell? ⟨w.heap.size, 4, none⟩ = some (.string (sof pn)) ∧ W.cell? ⟨w.heap.size, 5, none⟩ = some (.int .i64 pu) ∧ W.cell? ⟨w.heap.size + 1, 0, none⟩ = some (.int .i64 cz) ∧ W.cell? ⟨w.heap.size + 1, 1, none⟩ = some (.int .i64 cl) ∧ W.cell? ⟨w.heap.size + 1, 2, none⟩ = some (.int .i64 cm) ∧ W.cell? ⟨w.heap.size + 1, 3, none⟩ = some (.string (sof cn)) ∧ W.cell? ⟨w3.heap.size, 0, none⟩ = some (.int .i64 xk) ∧ W.cell? ⟨w3.heap.size, 1, none⟩ = some (.int .u64 (xm : Int)) ∧ W.cell? ⟨w3.heap.size, 2, none⟩ = some (.int .i64 xl) ∧ W.cell? ⟨w3.heap.size, 3, none⟩ = some (.int .i64 xh) ∧ W.cell? ⟨w3.heap.size, 4, none⟩ = some (.string (sof xn)) ∧ W.cell? ⟨w3.heap.size, 5, none⟩ = some (.int .i64 xu) ∧ W.cell? ⟨w3.heap.size + 1, 0, none⟩ = some (.int .i64 yz) ∧ W.cell? ⟨w3.heap.size + 1, 1, none⟩ = some (.int .i64 yl) ∧ W.cell? ⟨w3.heap.size + 1, 2, none⟩ = some (.int .i64 ym) ∧ W.cell? ⟨w3.heap.size + 1, 3, none⟩ = some (.string (sof yn))) := fun W hb => by
    obtain ⟨a0, a1, a2, a3, a4, a5⟩ := PRow.cells (Whole.below hP4 hb l1)
    obtain ⟨b0, b1, b2, b3⟩ := CRow.cells (Whole.below hC4 hb l2)
    obtain ⟨c0, c1, c2, c3, c4, c5⟩ := PRow.cells (Whole.below hX4 hb l3)
    obtain ⟨d0, d1, d2, d3⟩ := CRow.cells (Whole.below hY4 hb l4)
    exact ⟨a0, a1, a2, a3, a4, a5, b0, b1, b2, b3, c0, c1, c2, c3, c4, c5, d0, d1, d2, d3⟩
  have hc0 := hcc w4 (Below.refl _ _)
  have kh1 := fun W (hb : Below w4.heap.size w4 W) => (h1 W).mono fun _ _ h => And.intro h.1 (hb.trans (h.2.mono hb.size))
  have kr1 := fun W (hb : Below w4.heap.size w4 W) => (r1 W).mono fun _ _ h => And.intro h.1 (hb.trans (h.2.mono hb.size))
  have kh2 := fun W (hb : Below w4.heap.size w4 W) => (h2 W).mono fun _ _ h => And.intro h.1 (hb.trans (h.2.mono hb.size))
  have kr2 := fun W (hb : Below w4.heap.size w4 W) => (r2 W).mono fun _ _ h => And.intro h.1 (hb.trans (h.2.mono hb.size))
  have kh3 := fun W (hb : Below w4.heap.size w4 W) => (h3 W).mono fun _ _ h => And.intro h.1 (hb.trans (h.2.mono hb.size))
  have kr3 := fun W (hb : Below w4.heap.size w4 W) => (r3 W).mono fun _ _ h => And.intro h.1 (hb.trans (h.2.mono hb.size))
  have kh4 := fun W (hb : Below w4.heap.size w4 W) => (h4 W).mono fun _ _ h => And.intro h.1 (hb.trans (h.2.mono hb.size))
  have kr4 := fun W (hb : Below w4.heap.size w4 W) => (r4 W).mono fun _ _ h => And.intro h.1 (hb.trans (h.2.mono hb.size))
  have kaw := fun W (hb : Below w4.heap.size w4 W) => (hawake W).mono fun _ _ h => And.intro h.1 (hb.trans (h.2.mono hb.size))
  have HB4 := Lib.hid hB4
  clear hP4 hC4 hX4 hY4 hB4 h1 r1 h2 r2 h3 r3 h4 r4 l1 l2 l3 l4
  go_region_held3 (fun W => W.cell? ⟨w.heap.size, 0, none⟩ = some (.int .i64 pk) ∧ W.cell? ⟨w.heap.size, 1, none⟩ = some (.int .u64 (pm : Int)) ∧ W.cell? ⟨w.heap.size, 2, none⟩ = some (.int .i64 pl) ∧ W.cell? ⟨w.heap.size, 3, none⟩ = some (.int .i64 ph) ∧ W.cell? ⟨w.heap.size, 4, none⟩ = some (.string (sof pn)) ∧ W.cell? ⟨w.heap.size, 5, none⟩ = some (.int .i64 pu) ∧ W.cell? ⟨w.heap.size + 1, 0, none⟩ = some (.int .i64 cz) ∧ W.cell? ⟨w.heap.size + 1, 1, none⟩ = some (.int .i64 cl) ∧ W.cell? ⟨w.heap.size + 1, 2, none⟩ = some (.int .i64 cm) ∧ W.cell? ⟨w.heap.size + 1, 3, none⟩ = some (.string (sof cn)) ∧ W.cell? ⟨w3.heap.size, 0, none⟩ = some (.int .i64 xk) ∧ W.cell? ⟨w3.heap.size, 1, none⟩ = some (.int .u64 (xm : Int)) ∧ W.cell? ⟨w3.heap.size, 2, none⟩ = some (.int .i64 xl) ∧ W.cell? ⟨w3.heap.size, 3, none⟩ = some (.int .i64 xh) ∧ W.cell? ⟨w3.heap.size, 4, none⟩ = some (.string (sof xn)) ∧ W.cell? ⟨w3.heap.size, 5, none⟩ = some (.int .i64 xu) ∧ W.cell? ⟨w3.heap.size + 1, 0, none⟩ = some (.int .i64 yz) ∧ W.cell? ⟨w3.heap.size + 1, 1, none⟩ = some (.int .i64 yl) ∧ W.cell? ⟨w3.heap.size + 1, 2, none⟩ = some (.int .i64 ym) ∧ W.cell? ⟨w3.heap.size + 1, 3, none⟩ = some (.string (sof yn))) (first | exact hc0 | assumption | go_keep)
    (first
      | (have g13 := hb12; go_at_call 13; refine (kaw _ hb12).mono ?_; rintro e w13 ⟨rfl, hb13⟩; have hs13 := hcc w13 hb13)
      | (have g12 := hb11; go_at_call 16; refine (kr4 _ hb11).mono ?_; rintro e w12 ⟨rfl, hb12⟩; have hs12 := hcc w12 hb12)
      | (have g11 := hb10; go_at_call 15; refine (kh4 _ hb10).mono ?_; rintro e w11 ⟨rfl, hb11⟩; have hs11 := hcc w11 hb11)
      | (have g10 := hb9; go_at_call 16; refine (kr3 _ hb9).mono ?_; rintro e w10 ⟨rfl, hb10⟩; have hs10 := hcc w10 hb10)
      | (have g9 := hb8; go_at_call 15; refine (kh3 _ hb8).mono ?_; rintro e w9 ⟨rfl, hb9⟩; have hs9 := hcc w9 hb9)
      | (have g8 := hb7; go_at_call 16; refine (kr2 _ hb7).mono ?_; rintro e w8 ⟨rfl, hb8⟩; have hs8 := hcc w8 hb8)
      | (have g7 := hb6; go_at_call 15; refine (kh2 _ hb6).mono ?_; rintro e w7 ⟨rfl, hb7⟩; have hs7 := hcc w7 hb7)
      | (have g6 := hb5; go_at_call 16; refine (kr1 _ hb5).mono ?_; rintro e w6 ⟨rfl, hb6⟩; have hs6 := hcc w6 hb6)
      | (go_at_call 15; refine (kh1 _ (Below.drew (Below.refl _ _))).mono ?_; rintro e w5 ⟨rfl, hb5⟩; have hs5 := hcc w5 hb5))
  have HF := Lib.hid (HB4.out.trans (hb13.mono HB4.out.size))
  clear hb5 hs5 hb6 hs6 hb7 hs7 hb8 hs8 hb9 hs9 hb10 hs10 hb11 hs11 hb12 hs12 hb13 hs13 hcc hc0
  go_wp2
  go_ret
  exact ⟨rfl, HF.out⟩
end Go.Proofs.Ytbbkjdckogcbgaa
