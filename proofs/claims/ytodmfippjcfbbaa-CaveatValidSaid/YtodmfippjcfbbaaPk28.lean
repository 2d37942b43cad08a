/-
  Proved: CaveatValid of macaroonlaw12 returns true for all arguments, and the arguments read afterwards as before. No conditions.
-/
import Derived.Test.YtodmfippjcfbbaaPk2
import Derived.Test.YtodmfippjcfbbaaPk4
import Derived.Test.YtodmfippjcfbbaaPk5
import Derived.Test.YtodmfippjcfbbaaPk9
import Derived.Test.YtodmfippjcfbbaaPk27
namespace Go.Proofs.Ytodmfippjcfbbaa
open Go Go.ChangeShapes Go.WideShapes Go.ChangeAt Go.RowKit Sh Leaf

set_option maxRecDepth 100000 in
theorem caveatValid_lifted (os : Os) (started : os.Started) (H : Type) (enc : TypeId × Value → H) :
    ReturnsInHanded {} Try.checked os 3 .any (Rows.caveatValidSpec.pre6 enc Try.prog Try.f3 Rows.caveatValidRow.domain false) (Rows.caveatValidSpec.post enc Try.prog Try.f3 false true false false) := by
  refine returnsInHanded_of_change (C := Try.checked) row_own started (by kernel_rfl) Try.func3
    (ChangeSpec.witness6 (enc := enc) (C := Try.checked) false ⟨#[], #[.agg #[.bool false, .int .i64 0, .int .u64 0, .int .i64 0, .int .i64 0, .string ⟨#[]⟩, .int .i64 0, .int .i64 0, .slice none 0 0, .slice none 0 0], .slice none 0 0, .slice none 0 0, .int .u8 0, .int .i64 0], []⟩ 8 (by kernel_rfl) (by kernel_rfl) (by kernel_rfl) (by kernel_rfl)) ?_
  intro W base args ds gs before hval0 hW _ _
  have hval : ∀ (j : Nat) t v, Try.f3.params[j]? = some t → args[j]? = some v → Value.okWide Try.prog W .any base t v := hval0
  have hW' := hW
  obtain ⟨p, q, hA0, hV, rfl, _, _⟩ := hW
  have hA : DataW.TrodAll enc Try.prog W 0 (fun _ => true) true Try.f3.params.toList args.toList ds p := hA0
  rw [Try.params3] at hA hval
  obtain ⟨v0, v1, v2, v3, v4, d0, d1, d2, d3, d4, p0, p1, p2, p3, p4, rfl, rfl, rfl, h0, h1, h2, h3, h4⟩ := trodAll_five hA
  obtain ⟨rfl, rfl⟩ := trodVars_none hV
  clear hA0 hval0
  simp only [List.append_nil] at hW'
  obtain ⟨th0, q0, pa0, CA0, cx0, cj0, CB0, cy0, ck0, rfl, hcx0, hcy0, hcm0, hcn0⟩ := cav_arg (hval 0 27 v0 rfl rfl) h0
  obtain ⟨A1, l1, c1, rfl, hI1⟩ := ints_of_arg (okWide_slice Try.underlying28 (hval 1 28 v1 rfl rfl)) h1
  obtain ⟨A2, l2, c2, rfl, hI2⟩ := ints_of_arg (okWide_slice Try.underlying28 (hval 2 28 v2 rfl rfl)) h2
  obtain ⟨n3, rfl, rfl, rfl, w3⟩ := open_int Try.underlying5 (hval 3 5 v3 rfl rfl) h3
  have hi3 : 0 ≤ n3 ∧ n3 ≤ 255 := by simpa [Lit.wf, IntKind.min, IntKind.max, IntKind.signed, IntKind.bits] using w3
  obtain ⟨m3, rfl⟩ := Int.eq_ofNat_of_zero_le hi3.1
  obtain ⟨n4, rfl, rfl, rfl, w4⟩ := open_int Try.underlying3 (hval 4 3 v4 rfl rfl) h4
  have hi4 : -9223372036854775808 ≤ n4 ∧ n4 ≤ 9223372036854775807 := by simpa [Lit.wf, IntKind.min, IntKind.max, IntKind.signed, IntKind.bits] using w4
  have hlt0 : ∀ x ∈ p0, x.block < W.heap.size := fun x hx => by simpa using hW'.lt x (by simp [hx])
  have hlt1 : ∀ x ∈ p1, x.block < W.heap.size := fun x hx => by simpa using hW'.lt x (by simp [hx])
  have hlt2 : ∀ x ∈ p2, x.block < W.heap.size := fun x hx => by simpa using hW'.lt x (by simp [hx])
  have hcall := cval_law th0 q0 pa0 CA0 cx0 cj0 CB0 cy0 ck0 A1 l1 c1 A2 l2 c2 m3 (by omega) n4 hi4 W hcx0 hcy0 hcm0 hcn0 (hI1.within (Nat.le_refl _)) (hI2.within (Nat.le_refl _))
  refine hcall.mono fun e W' ⟨he, hnx⟩ => ?_
  subst he
  exact ⟨_, rfl, ⟨_, _, _, [], _, [], hW', trodAll_mk1 (shut_bool Try.underlying4 true), trodAll_mk5 (Below.trod row_laidOut (by kernel_rfl) (of_decide_eq_true (by kernel_rfl)) h0 hnx hlt0) (Below.trod row_laidOut (by kernel_rfl) (of_decide_eq_true (by kernel_rfl)) h1 hnx hlt1) (Below.trod row_laidOut (by kernel_rfl) (of_decide_eq_true (by kernel_rfl)) h2 hnx hlt2) (shut_int Try.underlying5 w3) (shut_int Try.underlying3 w4), rfl, hnx.frame _, fun h => by cases h⟩⟩
theorem caveatValid_holds : Rows.CaveatValidSaid :=
  OpenClaim.holds_of_wide 3 Try.f3 rfl rfl rfl rfl rfl rfl rfl ⟨rfl, rfl, rfl, rfl, rfl⟩ rfl rfl rfl rfl rfl (by kernel_rfl) Try.func3 (by kernel_rfl)
    (of_decide_eq_true (by kernel_rfl)) (by unfold Func.isWrapper; first | (rw [if_pos (by decide +kernel)]; kernel_rfl) | (rw [if_neg (by decide +kernel)]; exact ⟨rfl, rfl⟩))
    (fun os started H enc _ => caveatValid_lifted os started H enc)
end Go.Proofs.Ytodmfippjcfbbaa
