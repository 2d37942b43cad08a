/-
  Plain words for layer 4: a field, the field at the beginning of bytes, fields joined, the fields of which bytes consist. No function of a program is named here.
-/
import Derived.Test.YtfokedbipicmoaaVarSpec
namespace Go.Proofs.Ytfokedbipicmoaa
open Go Go.RowKit Sh Leaf

/-- A field: the number of its bytes, and the bytes. -/
def fld (x : List B8) : List B8 := enc x.length ++ x
theorem fld_pos (x : List B8) : 0 < (fld x).length := by have := enc_pos x.length; simp [fld]; omega
theorem fld_len {x : List B8} (h : x.length ≤ 281474976710656) : (fld x).length ≤ x.length + 7 := by have := enc_len7 h; simp [fld]; omega

/-- The field at the beginning of bytes, how many bytes it has with its length, and the error. -/
def rdf (b : List B8) : List B8 × Nat × Nat :=
  if (rd b).2.2 ≠ 0 then ([], 0, (rd b).2.2)
  else if 1024 < (rd b).1 then ([], 0, 2)
  else if b.length - (rd b).2.1 < (rd b).1 then ([], 0, 3)
  else ((b.drop (rd b).2.1).take (rd b).1, (rd b).2.1 + (rd b).1, 0)
theorem rdf_e {b : List B8} {n k e : Nat} (h : rd b = (n, k, e)) (he : e ≠ 0) : rdf b = ([], 0, e) := by unfold rdf; rw [h, if_pos he]
theorem rdf_limit {b : List B8} {n k : Nat} (h : rd b = (n, k, 0)) (hn : 1024 < n) : rdf b = ([], 0, 2) := by unfold rdf; rw [h, if_neg (by simp), if_pos hn]
theorem rdf_short {b : List B8} {n k : Nat} (h : rd b = (n, k, 0)) (hn : ¬ 1024 < n) (hl : b.length - k < n) : rdf b = ([], 0, 3) := by
  unfold rdf; rw [h, if_neg (by simp), if_neg hn, if_pos hl]
theorem rdf_ok {b : List B8} {n k : Nat} (h : rd b = (n, k, 0)) (hn : ¬ 1024 < n) (hl : ¬ b.length - k < n) : rdf b = ((b.drop k).take n, k + n, 0) := by
  unfold rdf; rw [h, if_neg (by simp), if_neg hn, if_neg hl]
theorem rdf_cases (b : List B8) : (∃ e, e ≠ 0 ∧ rdf b = ([], 0, e)) ∨ ∃ n k, rd b = (n, k, 0) ∧ 0 < k ∧ n ≤ 1024 ∧ k + n ≤ b.length ∧ ((b.drop k).take n).length = n ∧ rdf b = ((b.drop k).take n, k + n, 0) := by
  obtain ⟨n, k, e, h⟩ : ∃ n k e, rd b = (n, k, e) := ⟨_, _, _, rfl⟩
  by_cases he : e = 0
  · subst he
    by_cases hn : 1024 < n
    · exact .inl ⟨2, by omega, rdf_limit h hn⟩
    by_cases hl : b.length - k < n
    · exact .inl ⟨3, by omega, rdf_short h hn hl⟩
    obtain ⟨h1, _, h3⟩ := rd_unique h
    have hk : 0 < k := by
      have := congrArg List.length h3
      have := enc_pos n
      simp at *; omega
    exact .inr ⟨n, k, h, hk, by omega, by omega, by simp; omega, rdf_ok h hn hl⟩
  · exact .inl ⟨e, he, rdf_e h he⟩
theorem rdf_fld (x t : List B8) (hx : x.length ≤ 1024) : rdf (fld x ++ t) = (x, (fld x).length, 0) := by
  have h := rd_enc x.length (by omega) (x ++ t)
  rw [← List.append_assoc] at h
  have e1 : ((enc x.length ++ x) ++ t).drop (enc x.length).length = x ++ t := by rw [List.append_assoc]; exact List.drop_left
  have := rdf_ok h (by omega) (by simp)
  rw [e1, List.take_left] at this
  rw [show fld x = enc x.length ++ x by rfl, this]
  simp
theorem rdf_back {b x : List B8} {k : Nat} (h : rdf b = (x, k, 0)) : b = fld x ++ b.drop k ∧ 0 < k ∧ k ≤ b.length ∧ x.length ≤ 1024 := by
  rcases rdf_cases b with ⟨e, he, h'⟩ | ⟨n, j, hr, hj, hn, hjn, hl, h'⟩
  · rw [h] at h'
    simp at h'
    omega
  · rw [h] at h'
    simp only [Prod.mk.injEq, and_true] at h'
    obtain ⟨rfl, rfl⟩ := h'
    obtain ⟨h1, _, h3⟩ := rd_unique hr
    refine ⟨?_, by omega, hjn, by rw [hl]; exact hn⟩
    rw [fld, hl, h3, ← List.drop_drop]
    rw [List.append_assoc, List.take_append_drop, List.take_append_drop]

/-- Fields, one after another, and the error. -/
def okl (l : List (List B8)) : Prop := ∀ x ∈ l, x.length ≤ 1024
def cat (l : List (List B8)) : List B8 := l.flatMap fld
theorem cat_nil : cat [] = [] := rfl
theorem cat_cons (x : List B8) (l : List (List B8)) : cat (x :: l) = fld x ++ cat l := by simp [cat]
theorem cat_snoc (l : List (List B8)) (x : List B8) : cat (l ++ [x]) = cat l ++ fld x := by simp [cat]
theorem okl_snoc {l : List (List B8)} {x : List B8} (h : okl l) (hx : x.length ≤ 1024) : okl (l ++ [x]) := by
  intro y hy
  rcases List.mem_append.1 hy with h' | h'
  · exact h y h'
  · simp at h'; subst h'; exact hx
theorem cat_len {l : List (List B8)} (h : okl l) : (cat l).length ≤ l.length * 1031 := by
  induction l with
  | nil => simp [cat]
  | cons x l ih =>
    have h1 := ih (fun y hy => h y (by simp [hy]))
    have h2 := h x (by simp)
    have h3 := fld_len (x := x) (by omega)
    rw [cat_cons]
    simp only [List.length_append, List.length_cons]
    omega
open Classical in
noncomputable def jn (l : List (List B8)) : List B8 × Nat := if okl l then (cat l, 0) else ([], 2)
theorem jn_ok {l : List (List B8)} (h : okl l) : jn l = (cat l, 0) := by unfold jn; rw [if_pos h]
theorem jn_bad {l : List (List B8)} (j : Nat) (hj : j < l.length) (h : 1024 < l[j].length) : jn l = ([], 2) := by
  unfold jn; rw [if_neg]; intro hk; have := hk l[j] (List.getElem_mem _); omega
theorem jn_len (l : List (List B8)) : (jn l).1.length ≤ l.length * 1031 := by
  unfold jn
  split
  · rename_i h; exact cat_len h
  · simp

/-- The fields of which bytes consist, behind those that were found, and the error. -/
def allA : Nat → List (List B8) → List B8 → List (List B8) × Nat
  | _, acc, [] => (acc, 0)
  | 0, _, _ :: _ => ([], 1)
  | f + 1, acc, y :: b => if (rdf (y :: b)).2.2 = 0 then allA f (acc ++ [(rdf (y :: b)).1]) ((y :: b).drop (rdf (y :: b)).2.1) else ([], (rdf (y :: b)).2.2)
def alls (b : List B8) : List (List B8) × Nat := allA b.length [] b
theorem allA_nil (f : Nat) (acc : List (List B8)) : allA f acc [] = (acc, 0) := by cases f <;> rfl
theorem allA_ok {f : Nat} {acc : List (List B8)} {b x : List B8} {k : Nat} (hf : b.length ≤ f + 1) (h0 : 0 < b.length) (h : rdf b = (x, k, 0)) :
    allA (f + 1) acc b = allA f (acc ++ [x]) (b.drop k) ∧ (b.drop k).length ≤ f := by
  cases b with
  | nil => simp at h0
  | cons y b =>
    have := (rdf_back h).2.1
    refine ⟨?_, by simp at *; omega⟩
    show (if (rdf (y :: b)).2.2 = 0 then _ else _) = _
    rw [h, if_pos rfl]
theorem allA_err {f : Nat} {acc : List (List B8)} {b : List B8} {e : Nat} (hf : b.length ≤ f) (h0 : 0 < b.length) (he : e ≠ 0) (h : rdf b = ([], 0, e)) : allA f acc b = ([], e) := by
  cases b with
  | nil => simp at h0
  | cons y b =>
    cases f with
    | zero => simp at hf
    | succ f =>
      show (if (rdf (y :: b)).2.2 = 0 then _ else _) = _
      rw [h, if_neg he]
theorem allA_cat : ∀ (l acc : List (List B8)) (f : Nat), okl l → (cat l).length ≤ f → allA f acc (cat l) = (acc ++ l, 0) := by
  intro l
  induction l with
  | nil => intro acc f _ _; rw [cat_nil, allA_nil]; simp
  | cons x l ih =>
    intro acc f h hf
    have hx := h x (by simp)
    have h1 := rdf_fld x (cat l) hx
    have hp := fld_pos x
    rw [cat_cons] at hf ⊢
    simp only [List.length_append] at hf
    obtain ⟨f, rfl⟩ : ∃ g, f = g + 1 := ⟨f - 1, by omega⟩
    rw [(allA_ok (by simp; omega) (by simp; omega) h1).1, List.drop_left, ih _ _ (fun y hy => h y (by simp [hy])) (by omega)]
    simp
theorem alls_cat {l : List (List B8)} (h : okl l) : alls (cat l) = (l, 0) := by
  have := allA_cat l [] (cat l).length h (Nat.le_refl _)
  simpa [alls] using this
theorem allA_back : ∀ (f : Nat) (acc : List (List B8)) (b : List B8) (k : List (List B8)), b.length ≤ f → allA f acc b = (k, 0) → ∃ t, k = acc ++ t ∧ okl t ∧ cat t = b := by
  intro f
  induction f with
  | zero =>
    intro acc b k hf h
    have : b = [] := List.eq_nil_of_length_eq_zero (by omega)
    subst this
    rw [allA_nil] at h
    simp at h
    exact ⟨[], by simp [h], (by intro x hx; cases hx), rfl⟩
  | succ f ih =>
    intro acc b k hf h
    by_cases h0 : 0 < b.length
    · rcases rdf_cases b with ⟨e, he, h'⟩ | ⟨n, j, hr, hj, hn, hjn, hl, h'⟩
      · rw [allA_err hf h0 he h'] at h
        simp at h
        omega
      · obtain ⟨h1, h2⟩ := allA_ok (acc := acc) hf h0 h'
        rw [h1] at h
        obtain ⟨t, ht, hok, hc⟩ := ih _ _ _ h2 h
        have hb := rdf_back h'
        refine ⟨((b.drop j).take n) :: t, by rw [ht]; simp, ?_, by rw [cat_cons, hc]; exact hb.1.symm⟩
        intro x hx
        rcases List.mem_cons.1 hx with rfl | hx
        · exact hb.2.2.2
        · exact hok x hx
    · have : b = [] := List.eq_nil_of_length_eq_zero (by omega)
      subst this
      rw [allA_nil] at h
      simp at h
      exact ⟨[], by simp [h], (by intro x hx; cases hx), rfl⟩
theorem alls_back {b : List B8} {k : List (List B8)} (h : alls b = (k, 0)) : okl k ∧ cat k = b := by
  obtain ⟨t, ht, hok, hc⟩ := allA_back _ _ _ _ (Nat.le_refl _) h
  simp at ht
  subst ht
  exact ⟨hok, hc⟩
theorem allA_bad : ∀ (f : Nat) (acc : List (List B8)) (b : List B8) (k : List (List B8)) (e : Nat), b.length ≤ f → allA f acc b = (k, e) → e ≠ 0 → k = [] := by
  intro f
  induction f with
  | zero =>
    intro acc b k e hf h he
    have : b = [] := List.eq_nil_of_length_eq_zero (by omega)
    subst this
    rw [allA_nil] at h
    simp at h
    omega
  | succ f ih =>
    intro acc b k e hf h he
    by_cases h0 : 0 < b.length
    · rcases rdf_cases b with ⟨e', he', h'⟩ | ⟨n, j, hr, hj, hn, hjn, hl, h'⟩
      · rw [allA_err hf h0 he' h'] at h
        simp at h
        exact h.1
      · obtain ⟨h1, h2⟩ := allA_ok (acc := acc) hf h0 h'
        rw [h1] at h
        exact ih _ _ _ _ h2 h he
    · have : b = [] := List.eq_nil_of_length_eq_zero (by omega)
      subst this
      rw [allA_nil] at h
      simp at h
      omega
theorem alls_bad {b : List B8} {k : List (List B8)} {e : Nat} (h : alls b = (k, e)) (he : e ≠ 0) : k = [] := allA_bad _ _ _ _ _ (Nat.le_refl _) h he
theorem allA_count : ∀ (f : Nat) (acc : List (List B8)) (b : List B8), b.length ≤ f → (allA f acc b).1.length ≤ acc.length + b.length := by
  intro f
  induction f with
  | zero =>
    intro acc b hf
    have : b = [] := List.eq_nil_of_length_eq_zero (by omega)
    subst this
    rw [allA_nil]; simp
  | succ f ih =>
    intro acc b hf
    by_cases h0 : 0 < b.length
    · rcases rdf_cases b with ⟨e', he', h'⟩ | ⟨n, j, hr, hj, hn, hjn, hl, h'⟩
      · rw [allA_err hf h0 he' h']; simp
      · obtain ⟨h1, h2⟩ := allA_ok (acc := acc) hf h0 h'
        rw [h1]
        have := ih (acc ++ [(b.drop j).take n]) _ h2
        simp at this ⊢
        omega
    · have : b = [] := List.eq_nil_of_length_eq_zero (by omega)
      subst this
      rw [allA_nil]; simp
theorem alls_count (b : List B8) : (alls b).1.length ≤ b.length := by have := allA_count b.length [] b (Nat.le_refl _); simpa [alls] using this
end Go.Proofs.Ytfokedbipicmoaa
