/-
  The law HoldsValid.
-/
import Derived.Deep.RegionHeld3
import Derived.Deep.DeepCutAuto
import Derived.Deep.CutBlock
import Derived.Test.YtbbkjdckogcbgaaPk9
import Derived.Test.YtbbkjdckogcbgaaPk11
import Derived.Test.YtbbkjdckogcbgaaPk15
namespace Go.Proofs.Ytbbkjdckogcbgaa
open Go Go.RowKit Sh Leaf

/-- What is known ahead of the end: the ride that was made, and the one that was changed. -/
def HvR (c x : Ctx) (w w2 wx : World) : Prop := ∃ y : Ctx, y.holder.length ≤ 1000 ∧ CRow wx (w2.heap.size + 1) y.zone y.line y.minute y.holder ∧ CRow wx w2.heap.size x.zone x.line x.minute x.holder ∧ CRow wx w.heap.size c.zone c.line c.minute c.holder ∧ Below w.heap.size w wx
set_option linter.unusedVariables false in
set_option maxRecDepth 100000 in
set_option maxHeartbeats 4000000 in
theorem hvalid_law (c : Ctx) (hn : c.holder.length ≤ 9223372036854775807) (A : Option Addr) (l : List Int) (k : Nat) (how : Nat) (hh : how < 256) (n : Int) (h0 : -9223372036854775808 ≤ n) (h1 : n ≤ 9223372036854775807) (w : World)
    (hI : Ints w (fun b => b < w.heap.size) A k l) :
    Calls Try.prog 3 #[cv c, .slice A l.length k, .int .u8 (how : Int), .int .i64 n] w fun e w' => e = .returned (.bool true) ∧ Below w.heap.size w w' := by
  have hvc := fun W => h_valid c hn W
  have hrc := fun W => rctx c hn W
  obtain ⟨cz, cl, cm, cn⟩ := c
  unfold cv at hvc hrc ⊢
  simp only at hvc hrc ⊢
  obtain ⟨D1, hD1⟩ : ∃ D, D = decide (cok ⟨cz, cl, cm, cn⟩) := ⟨_, rfl⟩
  rw [← hD1] at hvc hrc
  clear hD1 hn
  have hbx : Below w.heap.size w (w.alloc (.cells (crow cz cl cm cn) 23)) := (Below.refl w.heap.size w).alloc (Nat.le_refl _) _
  have hdn := dnew A l.length k l (w.alloc (.cells (crow cz cl cm cn) 23)) rfl ((hI.below hbx).mono (by simp))
  have hC0 : CRow (w.alloc (.cells (crow cz cl cm cn) 23)) w.heap.size cz cl cm cn := Whole.here _ _ _
  clear hI
  go_enter Try.func3, Try.ntmps3
  go_wp2_with fail
  refine hdn.mono ?_
  rintro e w1 ⟨rfl, hd1, hb1⟩
  have hC1 := hC0.below hb1 hC0.lt
  have hB1 : Below w.heap.size w w1 := hbx.trans (hb1.mono (by simp))
  have hg1 := hd1.lt
  clear hdn hbx hC0 hb1
  simp only [World.size_alloc] at hd1 hg1
  go_wp2_with fail
  refine (dctx _ _ hd1).mono ?_
  rintro e w2 ⟨⟨xz, xl, xm, xn⟩, hx, rfl, ht2⟩
  have hC2 := ht2.2.2 _ _ _ (by simp) hC1
  have hB2 := hB1.trans (ht2.2.1.mono (by simp))
  have hvx := fun W => h_valid ⟨xz, xl, xm, xn⟩ (by have := hx.2.2.2.2.1; simp only at this ⊢; omega) W
  rw [decide_eq_true hx] at hvx
  have hxn : xn.length ≤ 16 := hx.2.2.2.2.1
  rw [cv_row] at hvx ⊢
  simp only at hvx ⊢
  have HC2 := Lib.hid hC2
  have HB2 := Lib.hid hB2
  have hl2 : w.heap.size < w2.heap.size := hC2.lt
  clear hC1 hB1 hg1 hd1 hx hC2 hB2 ht2
  go_upto_block 0 with fail
  obtain ⟨r, hr⟩ : ∃ r : Nat, (how : Int) % 4 = (r : Int) := ⟨how % 4, by omega⟩
  have hr4 : r < 4 := by omega
  rw [hr]
  clear hr
  go_cut [] (fun wx => HvR ⟨cz, cl, cm, cn⟩ ⟨xz, xl, xm, xn⟩ w w2 wx)
  case first =>
    have hb : ∀ o o1, Below w.heap.size w ((w2.alloc o).alloc o1) := fun o o1 => (HB2.out.alloc HB2.out.size _).alloc (by have := HB2.out.size; simp; omega) _
    have HF : Hid (∀ y : Ctx, y.holder.length ≤ 1000 → HvR ⟨cz, cl, cm, cn⟩ ⟨xz, xl, xm, xn⟩ w w2 ((w2.alloc (.cells (crow xz xl xm xn) 23)).alloc (.cells (crow y.zone y.line y.minute y.holder) 23))) := Lib.hid fun y hy => ⟨y, hy, Whole.at_ _ _ _ _ (by simp), (Whole.here _ _ _).alloc _, (HC2.out.alloc _).alloc _, hb _ _⟩
    have HG : Hid (∀ (t : List B8) (s : ByteArray) (o : Obj), s = sof t → t.length ≤ 1000 → HvR ⟨cz, cl, cm, cn⟩ ⟨xz, xl, xm, xn⟩ w w2 (((w2.alloc (.cells (crow xz xl xm xn) 23)).alloc (.cells #[.int .i64 xz, .int .i64 xl, .int .i64 xm, .string s] 23)).alloc o)) := Lib.hid fun t s o hs ht => by
      subst hs
      exact ⟨⟨xz, xl, xm, t⟩, ht, (Whole.at_ _ _ _ _ (by simp)).alloc _, ((Whole.here _ _ _).alloc _).alloc _, ((HC2.out.alloc _).alloc _).alloc _, (hb _ _).alloc (by have := HB2.out.size; simp; omega) _⟩
    clear hb hvc hrc hvx
    rcases (by omega : r = 0 ∨ r = 1 ∨ r = 2 ∨ r = 3) with rfl | rfl | rfl | rfl
    · go_wp2
      go_meet
      exact HF.out ⟨n, xl, xm, xn⟩ (by show xn.length ≤ 1000; omega)
    · go_wp2
      go_meet
      exact HF.out ⟨xz, n, xm, xn⟩ (by show xn.length ≤ 1000; omega)
    · go_wp2
      go_meet
      exact HF.out ⟨xz, xl, n, xn⟩ (by show xn.length ≤ 1000; omega)
    · go_wp2_with fail
      refine (within_ n 4 (by omega) (by omega) ⟨h0, h1⟩ _).mono ?_
      rintro e w3 ⟨⟨j, hj, rfl⟩, rfl⟩
      rcases (by omega : j = 0 ∨ j = 1 ∨ j = 2 ∨ j = 3) with rfl | rfl | rfl | rfl
      · go_wp2
        go_meet
        exact HG.out [] _ _ (by unfold sof; rfl) (by simp)
      · go_wp2
        go_meet
        exact HG.out [65] _ _ (by unfold sof; rfl) (by simp)
      · go_wp2
        go_meet
        exact HG.out [97, 110, 110] _ _ (by unfold sof; rfl) (by simp)
      · go_wp2
        go_meet
        exact HG.out [97, 98, 99, 100, 101, 102, 103, 104, 105, 106, 107, 108, 109, 110, 111, 112, 113] _ _ (by unfold sof; rfl) (by simp)
  case rest =>
    obtain ⟨⟨yz, yl, ym, yn⟩, hyn, hY, hX, hC, hB⟩ := hcut
    simp only at hyn hY hX hC
    rename World => w4
    have hvy := fun W => h_valid ⟨yz, yl, ym, yn⟩ (by show yn.length ≤ _; omega) W
    have hry := fun W => rctx ⟨yz, yl, ym, yn⟩ (by show yn.length ≤ _; omega) W
    obtain ⟨D2, hD2⟩ : ∃ D, D = decide (cok ⟨yz, yl, ym, yn⟩) := ⟨_, rfl⟩
    rw [← hD2] at hvy hry
    rw [cv_row] at hvy hry
    simp only at hvy hry
    have l1 := hC.lt
    have l2 := hX.lt
    have l3 := hY.lt
    have hcc : ∀ W, Below w4.heap.size w4 W → (W.cell? ⟨w.heap.size, 0, none⟩ = some (.int .i64 cz) ∧ W.cell? ⟨w.heap.size, 1, none⟩ = some (.int .i64 cl) ∧ W.cell? ⟨w.heap.size, 2, none⟩ = some (.int .i64 cm) ∧ W.cell? ⟨w.heap.size, 3, none⟩ = some (.string (sof cn)) ∧ W.cell? ⟨w2.heap.size, 0, none⟩ = some (.int .i64 xz) ∧ W.cell? ⟨w2.heap.size, 1, none⟩ = some (.int .i64 xl) ∧ W.cell? ⟨w2.heap.size, 2, none⟩ = some (.int .i64 xm) ∧ W.cell? ⟨w2.heap.size, 3, none⟩ = some (.string (sof xn)) ∧ W.cell? ⟨w2.heap.size + 1, 0, none⟩ = some (.int .i64 yz) ∧ W.cell? ⟨w2.heap.size + 1, 1, none⟩ = some (.int .i64 yl) ∧ W.cell? ⟨w2.heap.size + 1, 2, none⟩ = some (.int .i64 ym) ∧ W.cell? ⟨w2.heap.size + 1, 3, none⟩ = some (.string (sof yn))) := fun W hb => by
      obtain ⟨a0, a1, a2, a3⟩ := CRow.cells (Whole.below hC hb l1)
      obtain ⟨b0, b1, b2, b3⟩ := CRow.cells (Whole.below hX hb l2)
      obtain ⟨c0, c1, c2, c3⟩ := CRow.cells (Whole.below hY hb l3)
      exact ⟨a0, a1, a2, a3, b0, b1, b2, b3, c0, c1, c2, c3⟩
    have hc0 := hcc w4 (Below.refl _ _)
    have av := fun W (hb : Below w4.heap.size w4 W) => (hvx W).mono fun _ _ h => And.intro h.1 (hb.trans (h.2.mono hb.size))
    have bv1 := fun W (hb : Below w4.heap.size w4 W) => (hvc W).mono fun _ _ h => And.intro h.1 (hb.trans (h.2.mono hb.size))
    have bv2 := fun W (hb : Below w4.heap.size w4 W) => (hrc W).mono fun _ _ h => And.intro h.1 (hb.trans (h.2.mono hb.size))
    have cv1 := fun W (hb : Below w4.heap.size w4 W) => (hvy W).mono fun _ _ h => And.intro h.1 (hb.trans (h.2.mono hb.size))
    have cv2 := fun W (hb : Below w4.heap.size w4 W) => (hry W).mono fun _ _ h => And.intro h.1 (hb.trans (h.2.mono hb.size))
    have aw := fun W (hb : Below w4.heap.size w4 W) => (hawake W).mono fun _ _ h => And.intro h.1 (hb.trans (h.2.mono hb.size))
    have HB4 := Lib.hid hB
    clear hC hX hY hB hvx hvc hrc hvy hry HC2 HB2 hD2 hyn l1 l2 l3
    go_wp2_with fail
    go_region_held3 (fun W => W.cell? ⟨w.heap.size, 0, none⟩ = some (.int .i64 cz) ∧ W.cell? ⟨w.heap.size, 1, none⟩ = some (.int .i64 cl) ∧ W.cell? ⟨w.heap.size, 2, none⟩ = some (.int .i64 cm) ∧ W.cell? ⟨w.heap.size, 3, none⟩ = some (.string (sof cn)) ∧ W.cell? ⟨w2.heap.size, 0, none⟩ = some (.int .i64 xz) ∧ W.cell? ⟨w2.heap.size, 1, none⟩ = some (.int .i64 xl) ∧ W.cell? ⟨w2.heap.size, 2, none⟩ = some (.int .i64 xm) ∧ W.cell? ⟨w2.heap.size, 3, none⟩ = some (.string (sof xn)) ∧ W.cell? ⟨w2.heap.size + 1, 0, none⟩ = some (.int .i64 yz) ∧ W.cell? ⟨w2.heap.size + 1, 1, none⟩ = some (.int .i64 yl) ∧ W.cell? ⟨w2.heap.size + 1, 2, none⟩ = some (.int .i64 ym) ∧ W.cell? ⟨w2.heap.size + 1, 3, none⟩ = some (.string (sof yn))) (first | exact hc0 | assumption | go_keep)
      (first
        | (have g10 := hb9; go_at_call 13; refine (aw _ hb9).mono ?_; rintro e w10 ⟨rfl, hb10⟩; have hs10 := hcc w10 hb10)
        | (have g9 := hb8; go_at_call 12; refine (cv2 _ hb8).mono ?_; rintro e w9 ⟨rfl, hb9⟩; have hs9 := hcc w9 hb9)
        | (have g8 := hb7; go_at_call 11; refine (cv1 _ hb7).mono ?_; rintro e w8 ⟨rfl, hb8⟩; have hs8 := hcc w8 hb8)
        | (have g7 := hb6; go_at_call 12; refine (bv2 _ hb6).mono ?_; rintro e w7 ⟨rfl, hb7⟩; have hs7 := hcc w7 hb7)
        | (have g6 := hb5; go_at_call 11; refine (bv1 _ hb5).mono ?_; rintro e w6 ⟨rfl, hb6⟩; have hs6 := hcc w6 hb6)
        | (go_at_call 11; refine (av _ (Below.drew (Below.refl _ _))).mono ?_; rintro e w5 ⟨rfl, hb5⟩; have hs5 := hcc w5 hb5))
    have HF := Lib.hid (HB4.out.trans (hb10.mono HB4.out.size))
    clear hb5 hb6 hb7 hb8 hb9 hb10 hs5 hs6 hs7 hs8 hs9 hs10 hcc hc0
    go_wp2
    go_ret
    exact ⟨rfl, HF.out⟩
end Go.Proofs.Ytbbkjdckogcbgaa
