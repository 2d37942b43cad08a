/-
  A region that draws its order, reads first and stores last: what it reads holds till the first of its stores comes up.
-/
import Derived.OrdersHeld
import Derived.Deep.RegionHeld3
import Derived.StillTailTactics
namespace Go.Proofs.YteekdhcffiaaaaaDoor
open Go

section
variable {P : Program} {ops : Array Oper} {Q : Exit → Act → World → Prop} {md : Region.Mode} {C B : World → Prop} {ks : List Nat}
/-- One of ks has come up. -/
def come (ks : List Nat) (listed : Array Bool) : Bool := ks.any fun k => listed.getD k false
/-- What one of ks waits for has come up ahead of it. -/
def Ahead (md : Region.Mode) (ops : Array Oper) (ks : List Nat) (listed : Array Bool) : Prop := ∀ k ∈ ks, listed.getD k false = true → ∀ o, ops[k]? = some o → ∀ e ∈ o.after, Region.binds md e = true → listed.getD e.on false = true
theorem Ahead.set {listed : Array Bool} (h : Ahead md ops ks listed) {i : Nat} (hi : i ∈ Region.ready md ops listed) : Ahead md ops ks (listed.setIfInBounds i true) := by
  intro k hk hl o ho e he hb
  obtain ⟨_, oi, hoi, hall⟩ := mem_ready.1 hi
  by_cases hik : i = k
  · subst hik
    have : o = oi := Option.some.inj (ho.symm.trans hoi)
    subst this
    exact getD_set_true (hall e he hb)
  · rw [getD_set_ne false hik] at hl
    exact getD_set_true (h k hk hl o ho e he hb)
/-- Whatever order is picked from here on; behind every operation B holds, and C till one of ks has come up. -/
def AnyG (P : Program) (md : Region.Mode) (ops : Array Oper) (Q : Exit → Act → World → Prop) (C B : World → Prop) (ks : List Nat) : Nat → Array Bool → Act → World → Prop
  | 0, listed, a, w => Ahead md ops ks listed → Region.ready md ops listed = [] ∧ Q .normal a w
  | fuel + 1, listed, a, w => Ahead md ops ks listed → (Region.ready md ops listed = [] → Q .normal a w) ∧
      ∀ i ∈ Region.ready md ops listed, wpOp P ops Q i (fun a' w' => ((come ks (listed.setIfInBounds i true) = true ∨ C w') ∧ B w') ∧ AnyG P md ops Q C B ks fuel (listed.setIfInBounds i true) a' w') a w
theorem wpAny_of_G : ∀ (fuel : Nat) (listed : Array Bool) (a : Act) (w : World), Ahead md ops ks listed → AnyG P md ops Q C B ks fuel listed a w → wpAny P md ops Q fuel listed a w
  | 0, _, _, _, hA, h => h hA
  | fuel + 1, _, _, _, hA, h => ⟨(h hA).1, fun i hi => wpOp_mono (fun a' w' h' => wpAny_of_G fuel _ a' w' (hA.set hi) h'.2) ((h hA).2 i hi)⟩
theorem come_no {listed : Array Bool} (hA : Ahead md ops ks listed) {i : Nat} (hk : ks.all (fun k => k != i && Region.waitsFor md ops k i) = true) (hun : listed.getD i false = false) : come ks listed = false := by
  unfold come
  rw [List.any_eq_false]
  intro k hm hl
  have h1 := List.all_eq_true.1 hk k hm
  rw [Bool.and_eq_true] at h1
  obtain ⟨ok, hok, e, he, hb, hon⟩ := Region.waitsFor_spec h1.2
  have := hA k hm hl ok hok e he hb
  rw [hon, hun] at this
  cases this
theorem come_set {listed : Array Bool} {i : Nat} (hk : ∀ k ∈ ks, ¬ i = k) : come ks (listed.setIfInBounds i true) = come ks listed := by
  unfold come
  have : ∀ l : List Nat, (∀ k ∈ l, ¬ i = k) → (l.any fun k => (listed.setIfInBounds i true).getD k false) = l.any fun k => listed.getD k false := by
    intro l
    induction l with
    | nil => intro _; rfl
    | cons k t ih =>
      intro h
      rw [List.any_cons, List.any_cons, getD_set_ne false (h k (by simp)), ih fun x hx => h x (List.mem_cons_of_mem _ hx)]
  exact this ks hk
theorem AnyG_first {i : Nat} {oi : Oper} {v : Value} (hi : ops[i]? = some oi) (hsel : ∀ (j : Nat) (o : Oper) cs b, ops[j]? = some o → o.op ≠ .select cs b)
    (hQ : ∀ c a w, Q (.panic c) (a.put oi.dst v) w → Q (.panic c) a w) (hk : ks.all (fun k => k != i && Region.waitsFor md ops k i) = true) :
    ∀ (fuel : Nat) (listed : Array Bool) (a : Act) (w : World),
      (∀ j oj, ops[j]? = some oj → j ≠ i → listed.getD j true = false → (∀ e ∈ oj.after, Region.binds md e = true → e.on ≠ i) → oi.apart ops oj = true) →
      i ∈ Region.ready md ops listed → YieldsIf P ops C oi v a → C w → B w →
      AnyG P md ops Q C B ks fuel (listed.setIfInBounds i true) (a.put oi.dst v) w → AnyG P md ops Q C B ks (fuel + 1) listed a w := by
  have hki : ∀ k ∈ ks, ¬ i = k := fun k hm e => by
    have h1 := List.all_eq_true.1 hk k hm
    rw [Bool.and_eq_true] at h1
    rw [e] at h1
    simp at h1
  intro fuel
  induction fuel with
  | zero =>
    intro listed a w _ hr hy hC hB H hA
    have H' := H (hA.set hr)
    refine ⟨fun h => (by rw [h] at hr; cases hr), fun j hj => ?_⟩
    by_cases hji : j = i
    · subst hji; exact hy.wpOp hi hC ⟨⟨.inr hC, hB⟩, H⟩
    · have := ready_mono hj hji
      rw [H'.1] at this
      cases this
  | succ fuel ih =>
    intro listed a w hfree hr hy hC hB H hA
    refine ⟨fun h => (by rw [h] at hr; cases hr), fun j hj => ?_⟩
    by_cases hji : j = i
    · subst hji; exact hy.wpOp hi hC ⟨⟨.inr hC, hB⟩, H⟩
    · have h1 := (H (hA.set hr)).2 j (ready_mono hj hji)
      obtain ⟨hjun, oj, hoj, hall⟩ := mem_ready.1 hj
      have hun : listed.getD i true = false := (mem_ready.1 hr).1
      have hnot : ∀ e ∈ oj.after, Region.binds md e = true → e.on ≠ i := fun e he hb heq => by
        have h1 := hall e he hb
        rw [heq, getD_both hun] at h1
        cases h1
      have h2 := wpOp_putIf hoj (hfree j oj hoj hji hjun hnot) (fun cs b => hsel i oi cs b hi) (fun cs b => hsel j oj cs b hoj) hQ hy h1
      have hfree' : ∀ k ok, ops[k]? = some ok → k ≠ i → (listed.setIfInBounds j true).getD k true = false →
          (∀ e ∈ ok.after, Region.binds md e = true → e.on ≠ i) → oi.apart ops ok = true := fun k ok hk hki hun hno => by
        refine hfree k ok hk hki ?_ hno
        by_cases hjk : j = k
        · subst hjk; exact hjun
        · rw [getD_set_ne true hjk] at hun; exact hun
      have hr' := ready_mono hr (Ne.symm hji)
      have hno : come ks (listed.setIfInBounds j true) = false := come_no (hA.set hj) hk (getD_both (mem_ready.1 hr').1)
      refine wpOp_mono (fun a' w' h3 => ?_) h2
      obtain ⟨h3, ⟨h4, h6⟩, h5⟩ := h3
      have hC' : C w' := by
        rcases h4 with h4 | h4
        · rw [Array.setIfInBounds_comm _ _ (Ne.symm hji), come_set hki, hno] at h4
          cases h4
        · exact h4
      refine ⟨⟨.inr hC', h6⟩, ih (listed.setIfInBounds j true) a' w' hfree' hr' h3 hC' h6 ?_⟩
      rw [Array.setIfInBounds_comm _ _ hji]
      exact h5
theorem AnyG_pure1 {i : Nat} {oi : Oper} {v : Value} (hi : ops[i]? = some oi) (hsel : ∀ (j : Nat) (o : Oper) cs b, ops[j]? = some o → o.op ≠ .select cs b)
    (hQ : ∀ c a w, Q (.panic c) (a.put oi.dst v) w → Q (.panic c) a w) (hki : ∀ k ∈ ks, ¬ i = k) :
    ∀ (fuel : Nat) (listed : Array Bool) (a : Act) (w : World),
      (∀ j oj, ops[j]? = some oj → j ≠ i → listed.getD j true = false → (∀ e ∈ oj.after, Region.binds md e = true → e.on ≠ i) → oi.apart ops oj = true) →
      i ∈ Region.ready md ops listed → YieldsIf P ops B oi v a → (come ks listed = true ∨ C w) → B w →
      AnyG P md ops Q C B ks fuel (listed.setIfInBounds i true) (a.put oi.dst v) w → AnyG P md ops Q C B ks (fuel + 1) listed a w := by
  intro fuel
  induction fuel with
  | zero =>
    intro listed a w _ hr hy hC hB H hA
    have H' := H (hA.set hr)
    refine ⟨fun h => (by rw [h] at hr; cases hr), fun j hj => ?_⟩
    by_cases hji : j = i
    · subst hji; exact hy.wpOp hi hB ⟨⟨by rw [come_set hki]; exact hC, hB⟩, H⟩
    · have := ready_mono hj hji
      rw [H'.1] at this
      cases this
  | succ fuel ih =>
    intro listed a w hfree hr hy hC hB H hA
    refine ⟨fun h => (by rw [h] at hr; cases hr), fun j hj => ?_⟩
    by_cases hji : j = i
    · subst hji; exact hy.wpOp hi hB ⟨⟨by rw [come_set hki]; exact hC, hB⟩, H⟩
    · have h1 := (H (hA.set hr)).2 j (ready_mono hj hji)
      obtain ⟨hjun, oj, hoj, hall⟩ := mem_ready.1 hj
      have hun : listed.getD i true = false := (mem_ready.1 hr).1
      have hnot : ∀ e ∈ oj.after, Region.binds md e = true → e.on ≠ i := fun e he hb heq => by
        have h1 := hall e he hb
        rw [heq, getD_both hun] at h1
        cases h1
      have h2 := wpOp_putIf hoj (hfree j oj hoj hji hjun hnot) (fun cs b => hsel i oi cs b hi) (fun cs b => hsel j oj cs b hoj) hQ hy h1
      have hfree' : ∀ k ok, ops[k]? = some ok → k ≠ i → (listed.setIfInBounds j true).getD k true = false →
          (∀ e ∈ ok.after, Region.binds md e = true → e.on ≠ i) → oi.apart ops ok = true := fun k ok hk hki hun hno => by
        refine hfree k ok hk hki ?_ hno
        by_cases hjk : j = k
        · subst hjk; exact hjun
        · rw [getD_set_ne true hjk] at hun; exact hun
      refine wpOp_mono (fun a' w' h3 => ?_) h2
      obtain ⟨h3, ⟨h4, h6⟩, h5⟩ := h3
      have hC' : come ks (listed.setIfInBounds j true) = true ∨ C w' := by
        rw [Array.setIfInBounds_comm _ _ (Ne.symm hji), come_set hki] at h4
        exact h4
      refine ⟨⟨hC', h6⟩, ih (listed.setIfInBounds j true) a' w' hfree' (ready_mono hr (Ne.symm hji)) h3 hC' h6 ?_⟩
      rw [Array.setIfInBounds_comm _ _ hji]
      exact h5
/-- A read is taken first: each of ks waits for it. -/
theorem AnyG_take {i : Nat} {oi : Oper} {v : Value} {fuel : Nat} {listed : Array Bool} {a : Act} {w : World} (hi : ops[i]? = some oi)
    (hs : Region.noSelect ops = true) (hf : Region.free md ops listed i = true) (hr : (Region.ready md ops listed).contains i = true) (hk : ks.all (fun k => k != i && Region.waitsFor md ops k i) = true)
    (hQ : ∀ c a w, Q (.panic c) (a.put oi.dst v) w → Q (.panic c) a w) (hy : YieldsIf P ops C oi v a) (hC : C w) (hB : B w)
    (h : AnyG P md ops Q C B ks fuel (listed.setIfInBounds i true) (a.put oi.dst v) w) : AnyG P md ops Q C B ks (fuel + 1) listed a w :=
  AnyG_first hi (Region.noSelect_spec hs) hQ hk fuel listed a w (Region.free_spec hi hf) (by simpa using hr) hy hC hB h
/-- What asks nothing but B of the world is taken first. -/
theorem AnyG_pure {i : Nat} {oi : Oper} {v : Value} {fuel : Nat} {listed : Array Bool} {a : Act} {w : World} (hi : ops[i]? = some oi)
    (hs : Region.noSelect ops = true) (hf : Region.free md ops listed i = true) (hr : (Region.ready md ops listed).contains i = true) (hk : ks.all (fun k => i != k) = true)
    (hQ : ∀ c a w, Q (.panic c) (a.put oi.dst v) w → Q (.panic c) a w) (hy : YieldsIf P ops B oi v a) (hC : come ks listed = true ∨ C w) (hB : B w)
    (h : AnyG P md ops Q C B ks fuel (listed.setIfInBounds i true) (a.put oi.dst v) w) : AnyG P md ops Q C B ks (fuel + 1) listed a w :=
  AnyG_pure1 hi (Region.noSelect_spec hs) hQ (fun k hm e => by have := List.all_eq_true.1 hk k hm; rw [e] at this; simp at this) fuel listed a w (Region.free_spec hi hf) (by simpa using hr) hy hC hB h
/-- The only one that may come up. -/
theorem AnyG_one {i : Nat} {o : Oper} {fuel : Nat} {listed : Array Bool} {a : Act} {w : World} (hr : Region.ready md ops listed = [i]) (ho : ops[i]? = some o)
    (h : ∀ K' : Act → World → Prop, Shut (∀ a w, (come ks (listed.setIfInBounds i true) = true ∨ C w) → B w → AnyG P md ops Q C B ks fuel (listed.setIfInBounds i true) a w → K' a w) → if Region.wanted o (yielded ops a.tmps) = true then Oper.wp P o a w K' Q else K' (a.put o.dst undef) w) :
    AnyG P md ops Q C B ks (fuel + 1) listed a w := fun _ => ⟨fun h0 => (by rw [hr] at h0; cases h0), fun j hj => by
  rw [hr] at hj
  have e : j = i := by simpa using hj
  subst e
  exact wpOp_step ho (fun K' hK => h K' (fun a w hS hB hW => hK a w ⟨⟨hS, hB⟩, hW⟩))⟩
theorem AnyG_done {listed : Array Bool} {a : Act} {w : World} (hr : Region.ready md ops listed = []) (h : Q .normal a w) : ∀ fuel, AnyG P md ops Q C B ks fuel listed a w
  | 0 => fun _ => ⟨hr, h⟩
  | _ + 1 => fun _ => ⟨fun _ => h, by rw [hr]; simp⟩
theorem wp_region_G (C B : World → Prop) (ks : List Nat) {id : Nat} {a : Act} {w : World} (hm : P.follows .mixedOrders = true) (h : AnyG P .any ops Q C B ks ops.size (Array.replicate ops.size false) a w.drew) : (Code.region id ops true).wp P Q a w :=
  wp_region_any hm (wpAny_of_G (C := C) (B := B) (ks := ks) _ _ _ _ (fun k _ hl => by rw [getD_replicate_false] at hl; cases hl) h)
end
end Go.Proofs.YteekdhcffiaaaaaDoor
