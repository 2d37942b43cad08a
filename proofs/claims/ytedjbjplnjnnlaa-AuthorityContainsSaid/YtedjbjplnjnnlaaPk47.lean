/-
  Proved: AuthorityContains of macaroonlaw08 returns true for all arguments, and the arguments read afterwards as before. No conditions.
-/
import Derived.Test.YtedjbjplnjnnlaaPk2
import Derived.Test.YtedjbjplnjnnlaaPk4
import Derived.Test.YtedjbjplnjnnlaaPk28
import Derived.Test.YtedjbjplnjnnlaaPk46
namespace Go.Proofs.Ytedjbjplnjnnlaa
open Go Go.ChangeShapes Go.WideShapes Go.ChangeAt Go.RowKit Sh Leaf

set_option maxRecDepth 100000 in
theorem authorityContains_lifted (os : Os) (started : os.Started) (H : Type) (enc : TypeId × Value → H) :
    ReturnsInHanded {} Try.checked os 5 .any (Rows.authorityContainsSpec.pre6 enc Try.prog Try.f5 Rows.authorityContainsRow.domain false) (Rows.authorityContainsSpec.post enc Try.prog Try.f5 false true false false) := by
  refine returnsInHanded_of_change (C := Try.checked) row_own started (by kernel_rfl) Try.func5
    (ChangeSpec.witness6 (enc := enc) (C := Try.checked) false ⟨#[], #[.agg #[.bool false, .int .u64 0, .int .u64 0, .int .u64 0, .int .i64 0, .int .i64 0, .slice none 0 0, .string ⟨#[]⟩], .agg #[.int .i64 0, .int .i64 0, .int .i64 0, .string ⟨#[]⟩], .slice none 0 0, .slice none 0 0], []⟩ 8 (by kernel_rfl) (by kernel_rfl) (by kernel_rfl) (by kernel_rfl)) ?_
  intro W base args ds gs before hval0 hW _ _
  have hval : ∀ (j : Nat) t v, Try.f5.params[j]? = some t → args[j]? = some v → Value.okWide Try.prog W .any base t v := hval0
  have hW' := hW
  obtain ⟨p, q, hA0, hV, rfl, _, _⟩ := hW
  have hA : DataW.TrodAll enc Try.prog W 0 (fun _ => true) true Try.f5.params.toList args.toList ds p := hA0
  rw [Try.params5] at hA hval
  obtain ⟨v0, v1, v2, v3, d0, d1, d2, d3, p0, p1, p2, p3, rfl, rfl, rfl, h0, h1, h2, h3⟩ := trodAll_four hA
  obtain ⟨rfl, rfl⟩ := trodVars_none hV
  clear hA0 hval0
  simp only [List.append_nil] at hW'
  obtain ⟨x0, hx0⟩ := aut_arg (hval 0 25 v0 rfl rfl) h0
  obtain ⟨x1, rfl, hx1⟩ := ctx_arg (hval 1 46 v1 rfl rfl) h1
  obtain ⟨A2, l2, c2, rfl, hI2⟩ := ints_of_arg (okWide_slice Try.underlying26 (hval 2 26 v2 rfl rfl)) h2
  obtain ⟨A3, l3, c3, rfl, hI3⟩ := ints_of_arg (okWide_slice Try.underlying26 (hval 3 26 v3 rfl rfl)) h3
  have hlt0 : ∀ x ∈ p0, x.block < W.heap.size := fun x hx => by simpa using hW'.lt x (by simp [hx])
  have hlt1 : ∀ x ∈ p1, x.block < W.heap.size := fun x hx => by simpa using hW'.lt x (by simp [hx])
  have hlt2 : ∀ x ∈ p2, x.block < W.heap.size := fun x hx => by simpa using hW'.lt x (by simp [hx])
  have hlt3 : ∀ x ∈ p3, x.block < W.heap.size := fun x hx => by simpa using hW'.lt x (by simp [hx])
  have hcall := acon_law x1 hx1 A2 l2 c2 A3 l3 c3 W hx0 (hI2.within (Nat.le_refl _)) (hI3.within (Nat.le_refl _))
  refine hcall.mono fun e W' ⟨he, hnx⟩ => ?_
  subst he
  exact ⟨_, rfl, ⟨_, _, _, [], _, [], hW', trodAll_mk1 (shut_bool Try.underlying4 true), trodAll_mk4 (Below.trod row_laidOut (by kernel_rfl) (of_decide_eq_true (by kernel_rfl)) h0 hnx hlt0) (Below.trod row_laidOut (by kernel_rfl) (of_decide_eq_true (by kernel_rfl)) h1 hnx hlt1) (Below.trod row_laidOut (by kernel_rfl) (of_decide_eq_true (by kernel_rfl)) h2 hnx hlt2) (Below.trod row_laidOut (by kernel_rfl) (of_decide_eq_true (by kernel_rfl)) h3 hnx hlt3), rfl, hnx.frame _, fun h => by cases h⟩⟩
theorem authorityContains_holds : Rows.AuthorityContainsSaid :=
  OpenClaim.holds_of_wide 5 Try.f5 rfl rfl rfl rfl rfl rfl rfl ⟨rfl, rfl, rfl, rfl, rfl⟩ rfl rfl rfl rfl rfl (by kernel_rfl) Try.func5 (by kernel_rfl)
    (of_decide_eq_true (by kernel_rfl)) (by unfold Func.isWrapper; first | (rw [if_pos (by decide +kernel)]; kernel_rfl) | (rw [if_neg (by decide +kernel)]; exact ⟨rfl, rfl⟩))
    (fun os started H enc _ => authorityContains_lifted os started H enc)
end Go.Proofs.Ytedjbjplnjnnlaa
