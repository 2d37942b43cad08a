/-
  A region that draws its order: an invariant that speaks of what has come up, kept by each operation.
-/
import Derived.OrdersHeld
namespace Go.Proofs.YtiikhjifjdpgdaaDoor
open Go

section
variable {P : Program} {ops : Array Oper} {Q : Exit → Act → World → Prop} {md : Region.Mode}
/-- How many have not come up. -/
def left (ops : Array Oper) (listed : Array Bool) : Nat := ((List.range ops.size).filter fun i => !listed.getD i true).length
theorem left_zero {listed : Array Bool} (h : left ops listed = 0) : Region.ready md ops listed = [] := by
  unfold left at h
  have h1 := List.length_eq_zero_iff.1 h
  unfold Region.ready
  rw [List.filter_eq_nil_iff] at h1 ⊢
  intro i hi hc
  rw [Bool.and_eq_true] at hc
  exact h1 i hi hc.1
theorem filter_less {p q : Nat → Bool} (i : Nat) (hpq : ∀ j, q j = true → p j = true) (hp : p i = true) (hq : q i = false) : ∀ l : List Nat, i ∈ l → (l.filter q).length < (l.filter p).length := by
  have hle : ∀ l : List Nat, (l.filter q).length ≤ (l.filter p).length := by
    intro l
    induction l with
    | nil => simp
    | cons x t ih =>
      simp only [List.filter_cons]
      by_cases hx : q x = true
      · rw [if_pos hx, if_pos (hpq x hx)]; simpa using ih
      · rw [if_neg hx]
        split
        · simp only [List.length_cons]; omega
        · exact ih
  intro l
  induction l with
  | nil => intro h; cases h
  | cons x t ih =>
    intro h
    simp only [List.filter_cons]
    by_cases hxi : x = i
    · subst hxi
      rw [if_neg (by rw [hq]; simp), if_pos hp]
      have := hle t
      simp only [List.length_cons]; omega
    · have hi : i ∈ t := by
        rcases List.mem_cons.1 h with h | h
        · exact absurd h.symm hxi
        · exact h
      have := ih hi
      by_cases hx : q x = true
      · rw [if_pos hx, if_pos (hpq x hx)]; simpa using this
      · rw [if_neg hx]
        split
        · simp only [List.length_cons]; omega
        · exact this
theorem left_set {listed : Array Bool} {i : Nat} (hi : i ∈ Region.ready md ops listed) : left ops (listed.setIfInBounds i true) < left ops listed := by
  have h1 : i ∈ List.range ops.size ∧ (!listed.getD i true) = true := by
    unfold Region.ready at hi
    rw [List.mem_filter, Bool.and_eq_true] at hi
    exact ⟨hi.1, hi.2.1⟩
  have hlt : i < listed.size := by
    by_cases h : i < listed.size
    · exact h
    · have h2 := h1.2
      have : listed.getD i true = true := by
        rw [Array.getD_eq_getD_getElem?, Array.getElem?_eq_none (by omega)]; rfl
      rw [this] at h2
      cases h2
  unfold left
  refine filter_less i (fun j hj => ?_) h1.2 ?_ _ h1.1
  · by_cases hij : i = j
    · subst hij; exact h1.2
    · have : (listed.setIfInBounds i true).getD j true = listed.getD j true := by
        simp only [Array.getD_eq_getD_getElem?, Array.getElem?_setIfInBounds_ne hij]
      rw [this] at hj
      exact hj
  · have : (listed.setIfInBounds i true).getD i true = true := by
      rw [Array.getD_eq_getD_getElem?, Array.getElem?_setIfInBounds_self, if_pos hlt]; rfl
    rw [this]; rfl
theorem wpAny_rely {I : Array Bool → Act → World → Prop}
    (hstep : ∀ listed a w i, i ∈ Region.ready md ops listed → I listed a w → wpOp P ops Q i (fun a' w' => I (listed.setIfInBounds i true) a' w') a w)
    (hend : ∀ listed a w, I listed a w → Region.ready md ops listed = [] → Q .normal a w) :
    ∀ (fuel : Nat) (listed : Array Bool) (a : Act) (w : World), left ops listed ≤ fuel → I listed a w → wpAny P md ops Q fuel listed a w
  | 0, listed, a, w, hf, hI => by
    have hr := left_zero (md := md) (Nat.le_zero.1 hf)
    exact ⟨hr, hend _ _ _ hI hr⟩
  | fuel + 1, listed, a, w, hf, hI => by
    refine ⟨fun hr => hend _ _ _ hI hr, fun i hi => wpOp_mono_in (hstep listed a w i hi hI) fun a' w' h' => wpAny_rely hstep hend fuel _ a' w' ?_ h'⟩
    have := left_set hi
    omega
where
  wpOp_mono_in {i : Nat} {K K' : Act → World → Prop} {a : Act} {w : World} (hh : wpOp P ops Q i K a w) (h : ∀ a w, K a w → K' a w) : wpOp P ops Q i K' a w := wpOp_mono h hh
/-- The edges lead back: when nothing is ready, all have come up. -/
def backward (md : Region.Mode) (ops : Array Oper) : Bool := (List.range ops.size).all fun i => ((ops[i]?).map fun o => o.after.all fun e => !Region.binds md e || decide (e.on < i)).getD false
theorem all_come {listed : Array Bool} (hb : backward md ops = true) (hs : listed.size = ops.size) (hr : Region.ready md ops listed = []) : ∀ i, i < ops.size → listed.getD i true = true := by
  intro i
  induction i using Nat.strongRecOn with
  | ind i ih =>
    intro hi
    cases hc : listed.getD i true with
    | true => rfl
    | false =>
      exfalso
      have h1 : i ∈ Region.ready md ops listed := by
        unfold Region.ready
        rw [List.mem_filter]
        refine ⟨List.mem_range.2 hi, ?_⟩
        rw [hc]
        have h2 := List.all_eq_true.1 hb i (List.mem_range.2 hi)
        cases ho : ops[i]? with
        | none => rw [ho] at h2; simp at h2
        | some o =>
          rw [ho] at h2
          simp only [Option.map_some, Option.getD_some, Bool.not_false, Bool.true_and] at h2 ⊢
          rw [Array.all_eq_true] at h2 ⊢
          intro j hj
          have h3 := h2 j hj
          rw [Bool.or_eq_true] at h3 ⊢
          rcases h3 with h3 | h3
          · exact .inl h3
          · right
            have h4 := of_decide_eq_true h3
            have h5 := ih _ h4 (by omega)
            have : (o.after[j]).on < listed.size := by omega
            rw [Array.getD_eq_getD_getElem?, Array.getElem?_eq_getElem this] at h5 ⊢
            exact h5
      rw [hr] at h1
      cases h1
theorem wp_region_rely {id : Nat} {a : Act} {w : World} (hm : P.follows .mixedOrders = true) (I : Array Bool → Act → World → Prop) (hb : backward .any ops = true)
    (h0 : I (Array.replicate ops.size false) a { w with drawn := w.drawn + 1 })
    (hstep : ∀ listed a w i, i ∈ Region.ready .any ops listed → listed.size = ops.size → I listed a w → wpOp P ops Q i (fun a' w' => I (listed.setIfInBounds i true) a' w') a w)
    (hend : ∀ listed a w, I listed a w → (∀ i, i < ops.size → listed.getD i true = true) → Q .normal a w) : (Code.region id ops true).wp P Q a w := by
  refine wp_region_any hm (wpAny_rely (I := fun l a w => l.size = ops.size ∧ I l a w) ?_ ?_ _ _ _ _ ?_ ⟨by simp, h0⟩)
  · intro listed a w i hi hI
    refine wpOp_mono (fun a' w' h => ?_) (hstep listed a w i hi hI.1 hI.2)
    exact ⟨by rw [Array.size_setIfInBounds]; exact hI.1, h⟩
  · intro listed a w hI hr
    exact hend listed a w hI.2 (all_come hb hI.1 hr)
  · unfold left
    have := List.length_filter_le (fun i => !(Array.replicate ops.size false).getD i true) (List.range ops.size)
    simpa using this
end
end Go.Proofs.YtiikhjifjdpgdaaDoor
