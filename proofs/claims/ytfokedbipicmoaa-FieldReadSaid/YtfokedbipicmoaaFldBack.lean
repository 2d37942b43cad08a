/-
  The laws FieldBack, FieldUnique: true, for all arguments.
-/
import Derived.Test.YtfokedbipicmoaaFldAwake
import Derived.Test.YtfokedbipicmoaaFldAll2
import Derived.Test.YtfokedbipicmoaaKWithin
namespace Go.Proofs.Ytfokedbipicmoaa
open Go Go.RowKit Sh Leaf

theorem cutl_okl (ll : List (List B8)) : okl (cutl ll) := fun x hx => by have := cutl_all ll x hx; omega
theorem alls_okl {b : List B8} {k : List (List B8)} {e : Nat} (h : alls b = (k, e)) : okl k := by
  by_cases he : e = 0
  · subst he; exact (alls_back h).1
  · rw [alls_bad h he]; intro x hx; cases hx

set_option maxHeartbeats 1000000 in
theorem back_law (v : Value) (ll : List (List B8)) (w : World) (h : Lists w v ll) :
    Calls Try.prog 6 #[v] w fun e w' => e = .returned (.bool true) ∧ Below w.heap.size w w' := by
  obtain ⟨A, c, us, rfl, -⟩ := id h
  have hok := cutl_okl ll
  have HL := Lib.hid (cutl_all ll)
  have hcl := cutl_len ll
  have hct := cat_len hok
  have HJ := Lib.hid (jn_ok hok)
  have HA := Lib.hid (alls_cat hok)
  clear hok
  obtain ⟨cl, hcl0⟩ : ∃ cl, cl = cutl ll := ⟨_, rfl⟩
  rw [← hcl0] at HL hcl hct HJ HA
  have HC := Lib.hid hcl0
  clear hcl0
  go_enter Try.func6, Try.ntmps6
  go_wp2_with fail
  refine (few_ _ ll _ h).mono ?_
  rintro e w1 ⟨v1, rfl, h1, hb1⟩
  rw [← HC.out] at h1
  obtain ⟨A1, c1, us1, rfl, -⟩ := id h1
  clear h
  go_wp2_with fail
  refine (fjoin _ cl _ h1 (by omega)).mono ?_
  rintro e w2 ⟨v2, rfl, hj, hb2⟩
  rw [HJ.out] at hj ⊢
  obtain ⟨A2, c2, rfl, -⟩ := id hj
  have h2 := h1.below hb2 (Nat.le_refl _)
  have hq2 := hb1.trans (hb2.mono hb1.size)
  clear h1 hb1 hb2
  go_wp2_with fail
  refine (fall _ (cat cl) _ _ hj (by omega)).mono ?_
  rintro e w3 ⟨v3, rfl, hl, hb3⟩
  rw [HA.out] at hl ⊢
  obtain ⟨A3, c3, us3, rfl, -⟩ := id hl
  have h3 := h2.below hb3 (Nat.le_refl _)
  have hq3 := hq2.trans (hb3.mono hq2.size)
  clear h2 hb3 hj hct
  go_wp2_with fail
  refine (rsame _ _ cl cl _ h3 hl (fun x hx => by have := HL.out x hx; omega) (fun x hx => by have := HL.out x hx; omega) (by omega)).mono ?_
  rintro e w4 ⟨rfl, hb4⟩
  rw [show decide (cl = cl) = true by simp]
  have hq4 := hq3.trans (hb4.mono hq3.size)
  clear h3 hl hb4
  go_wp2_with (go_at_call 11; refine (fawake _).mono ?_; rintro e w5 ⟨rfl, hb5⟩)
  go_ret
  exact ⟨rfl, hq4.trans (hb5.mono hq4.size)⟩
end Go.Proofs.Ytfokedbipicmoaa
