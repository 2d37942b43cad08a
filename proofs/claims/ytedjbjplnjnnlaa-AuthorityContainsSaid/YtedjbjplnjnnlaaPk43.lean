/-
  The deck: Context.
-/
import Derived.Test.YtedjbjplnjnnlaaPk26
import Derived.Test.YtedjbjplnjnnlaaPk7
namespace Go.Proofs.Ytedjbjplnjnnlaa
open Go Go.RowKit Sh Leaf

theorem CRow.of_zero {w : World} {g : Nat} (h : Whole w g 46 #[.int .i64 0, .int .i64 0, .int .i64 0, .string { data := #[] }]) : CRow w g 0 0 0 [] := by
  show Whole w g _ #[.int .i64 0, .int .i64 0, .int .i64 0, .string (sof [])]
  rw [sof_none]; exact h
set_option maxRecDepth 100000 in
set_option maxHeartbeats 1000000 in
theorem dctx (g : Nat) (w : World) (h : Deck g w) :
    Calls Try.prog 20 #[.pointer (some ⟨g, 0, none⟩)] w fun e w' => ∃ c, cok c ∧ e = .returned (cv c) ∧ Turn g w w' := by
  have hgl := h.lt
  have H0 : Hid (∀ o, Turn g w (w.alloc o)) := Lib.hid fun o => ⟨h.alloc o, (Below.refl g w).alloc (by omega) o, Oth.alloc g w o⟩
  have hd0 := fun o => h.alloc o
  have HR : Hid (CRow (w.alloc (.cells #[.int .i64 0, .int .i64 0, .int .i64 0, .string { data := #[] }] 46)) w.heap.size 0 0 0 []) := Lib.hid (CRow.of_zero (Whole.here _ _ _))
  clear h
  go_enter Try.func20, Try.ntmps20
  go_wp2_with fail
  refine (dnext 4 (by omega) (by omega) g _ (hd0 _)).mono ?_
  rintro e w1 ⟨i, hi, rfl, ht1⟩
  have hd1 := ht1.1
  have HT1 := Lib.hid ((H0.out _).trans ht1)
  have HR1 : Hid (CRow w1 w.heap.size 0 0 0 []) := Lib.hid (ht1.2.2 _ _ _ (by omega) HR.out)
  clear ht1 hd0 HR
  go_wp2_with fail
  refine (drange 1 21 (by omega) (by omega) (by omega) g _ hd1).mono ?_
  rintro e w2 ⟨z, ⟨hz0, hz1⟩, rfl, ht2⟩
  have hd2 := ht2.1
  have HT2 := Lib.hid (HT1.out.trans ht2)
  have HR2 : Hid (CRow w2 w.heap.size 0 0 0 []) := Lib.hid (ht2.2.2 _ _ _ (by omega) HR1.out)
  have hi3 : (i : Int) ≤ 3 := by omega
  have hm1 : (i : Int) * z ≤ 3 * 21 := Int.mul_le_mul hi3 hz1 (by omega) (by omega)
  have hm0 : 0 ≤ (i : Int) * z := Int.mul_nonneg (by omega) (by omega)
  obtain ⟨q, hq⟩ : ∃ q, q = (i : Int) * z := ⟨_, rfl⟩
  have hw1 : IntKind.i64.wrap ((i : Int) * z) = q := by rw [← hq, IntKind.wrap_i64]; rw [← hq] at hm0 hm1; omega
  rw [← hq] at hm0 hm1
  have HZ : Hid (0 ≤ q ∧ q ≤ 63) := Lib.hid ⟨hm0, by omega⟩
  clear ht2 hd1 HT1 HR1 hm0 hm1 hq hi3
  go_wp2_with fail
  refine (dnext 32 (by omega) (by omega) g _ hd2).mono ?_
  rintro e w3 ⟨j, hj, rfl, ht3⟩
  have hd3 := ht3.1
  have HT3 := Lib.hid (HT2.out.trans ht3)
  have HR3 : Hid (CRow w3 w.heap.size 0 0 0 []) := Lib.hid (ht3.2.2 _ _ _ (by omega) HR2.out)
  clear ht3 hd2 HT2 HR2
  go_wp2_with fail
  refine (dminute g _ hd3).mono ?_
  rintro e w4 ⟨m, ⟨hm0, hm1⟩, rfl, ht4⟩
  have hd4 := ht4.1
  have HT4 := Lib.hid (HT3.out.trans ht4)
  have HR4 : Hid (CRow w4 w.heap.size 0 0 0 []) := Lib.hid (ht4.2.2 _ _ _ (by omega) HR3.out)
  clear ht4 hd3 HT3 HR3
  go_wp2_with fail
  refine (dnam g _ hd4).mono ?_
  rintro e w5 ⟨s, hs, rfl, ht5⟩
  have HT5 := Lib.hid (HT4.out.trans ht5)
  have HR5 : Hid (CRow w5 w.heap.size 0 0 0 []) := Lib.hid (ht5.2.2 _ _ _ (by omega) HR4.out)
  have HTf := Lib.hid ((HT5.out).from (w3 := w5.setRow w.heap.size (crow q j m s)) hgl (below_setRow (Below.refl _ _) (Nat.le_refl _) _))
  clear ht5 hd4 HT4 HR4
  go_wp2_with (with_reducible refine wpList_store_ctx rfl _ _ rfl (g := w.heap.size) rfl rfl HR5.out ?_)
  refine bodyPost_ret (results_ctx (g := w.heap.size) Try.results20 _ rfl (Whole.setRow HR5.out _)) rfl ?_
  exact ⟨⟨q, j, m, s⟩, ⟨HZ.out, ⟨by show (0 : Int) ≤ (j : Int); omega, by show (j : Int) ≤ 31; omega⟩, ⟨hm0, hm1⟩, hs⟩, by rw [cv_row], HTf.out⟩
end Go.Proofs.Ytedjbjplnjnnlaa
