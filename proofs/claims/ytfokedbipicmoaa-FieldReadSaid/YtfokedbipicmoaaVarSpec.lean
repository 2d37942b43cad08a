/-
  Plain words for layer 3: the bytes of a number, and the number at the beginning of bytes. No function of a program is named here.
-/
import Derived.Test.YtfokedbipicmoaaKMem
namespace Go.Proofs.Ytfokedbipicmoaa
open Go Go.RowKit Sh Leaf

/-- The bytes of a number. -/
def enc (n : Nat) : List B8 := if n < 128 then [BitVec.ofNat 8 n] else BitVec.ofNat 8 (n % 128 + 128) :: enc (n / 128)
termination_by n
decreasing_by omega
theorem enc_lt {n : Nat} (h : n < 128) : enc n = [BitVec.ofNat 8 n] := by rw [enc, if_pos h]
theorem enc_ge {n : Nat} (h : ¬ n < 128) : enc n = BitVec.ofNat 8 (n % 128 + 128) :: enc (n / 128) := by rw [enc, if_neg h]
theorem enc_pos (n : Nat) : 0 < (enc n).length := by
  by_cases h : n < 128
  · rw [enc_lt h]; simp
  · rw [enc_ge h]; simp
theorem enc_len (k : Nat) : ∀ n, n < 128 ^ (k + 1) → (enc n).length ≤ k + 1 := by
  induction k with
  | zero => intro n h; rw [enc_lt (by omega)]; simp
  | succ k ih =>
    intro n h
    by_cases h1 : n < 128
    · rw [enc_lt h1]; simp
    · rw [enc_ge h1]
      have : n / 128 < 128 ^ (k + 1) := by rw [Nat.pow_succ] at h; omega
      have := ih _ this
      simp; omega
theorem enc_len7 {n : Nat} (h : n ≤ 281474976710656) : (enc n).length ≤ 7 := enc_len 6 n (by omega)
theorem enc_mono : ∀ b a : Nat, a ≤ b → (enc a).length ≤ (enc b).length := by
  intro b
  induction b using Nat.strongRecOn with
  | _ b ih =>
    intro a h
    by_cases h1 : a < 128
    · rw [enc_lt h1]; have := enc_pos b; simp; omega
    · rw [enc_ge h1, enc_ge (show ¬ b < 128 by omega)]
      have := ih (b / 128) (by omega) (a / 128) (by omega)
      simp; omega

/-- The number whose groups the bytes are, the least significant one first. -/
def val : List B8 → Nat
  | [] => 0
  | x :: l => x.toNat % 128 + 128 * val l
theorem val_snoc (l : List B8) (x : B8) : val (l ++ [x]) = val l + 128 ^ l.length * (x.toNat % 128) := by
  induction l with
  | nil => simp [val]
  | cons y l ih => simp only [List.cons_append, val, ih, List.length_cons, Nat.pow_succ, Nat.mul_add]; rw [Nat.mul_comm (128 ^ l.length) 128, Nat.mul_assoc]; omega
theorem val_lt (l : List B8) : val l < 128 ^ l.length := by
  induction l with
  | nil => simp [val]
  | cons y l ih => simp only [val, List.length_cons, Nat.pow_succ]; omega

/-- How many of the first seven bytes have the bit 128, up to the first one that has it not. -/
def lead : Nat → List B8 → Nat
  | 0, _ => 0
  | _, [] => 0
  | k + 1, x :: l => if 128 ≤ x.toNat then lead k l + 1 else 0
theorem lead_le : ∀ (m : Nat) (l : List B8), lead m l ≤ m ∧ lead m l ≤ l.length
  | 0, l => by simp [lead]
  | m + 1, [] => by simp [lead]
  | m + 1, x :: l => by
    have := lead_le m l
    simp only [lead, List.length_cons]
    split <;> omega
theorem lead_of : ∀ (m : Nat) (l : List B8) (k : Nat), k ≤ m → k ≤ l.length → (∀ j (h : j < l.length), j < k → 128 ≤ l[j].toNat) → (k < m → ∀ h : k < l.length, l[k].toNat < 128) → lead m l = k
  | 0, l, k, h, _, _, _ => by simp [lead]; omega
  | m + 1, [], k, _, h, _, _ => by simp at h; simp [lead, h]
  | m + 1, x :: l, 0, _, _, _, h => by
    have := h (by omega) (by simp)
    simp at this
    simp [lead]; omega
  | m + 1, x :: l, k + 1, h1, h2, h3, h4 => by
    have h0 := h3 0 (by simp) (by omega)
    simp at h0
    simp only [lead, if_pos h0]
    rw [lead_of m l k (by omega) (by simpa using h2) (fun j hj hk => by have := h3 (j + 1) (by simpa using hj) (by omega); rwa [List.getElem_cons_succ] at this) (fun hk hl => by have := h4 (by omega) (by simpa using hl); rwa [List.getElem_cons_succ] at this)]
theorem lead_ge : ∀ (m : Nat) (l : List B8) (j : Nat) (h : j < l.length), j < lead m l → 128 ≤ l[j].toNat
  | 0, l, j, h, hj => by simp [lead] at hj
  | m + 1, [], j, h, hj => by simp [lead] at hj
  | m + 1, x :: l, j, h, hj => by
    simp only [lead] at hj
    split at hj
    · cases j with
      | zero => simpa
      | succ j => simpa using lead_ge m l j (by simpa using h) (by omega)
    · omega
theorem lead_stop : ∀ (m : Nat) (l : List B8) (h : lead m l < l.length), lead m l < m → l[lead m l].toNat < 128
  | 0, l, h, hj => by simp [lead] at hj
  | m + 1, [], h, hj => by simp [lead] at h
  | m + 1, x :: l, h, hj => by
    by_cases hx : 128 ≤ x.toNat
    · have e : lead (m + 1) (x :: l) = lead m l + 1 := by simp [lead, hx]
      have := lead_stop m l (by rw [e] at h; simpa using h) (by rw [e] at hj; omega)
      simp only [e]
      simpa using this
    · have e : lead (m + 1) (x :: l) = 0 := by simp [lead, hx]
      simp only [e]
      simp; omega

/-- The number at the beginning of bytes, how many bytes it has, and the error. -/
def rd (l : List B8) : Nat × Nat × Nat :=
  if lead 7 l = 7 then (0, 0, 5)
  else if lead 7 l = l.length then (0, 0, 3)
  else if 0 < lead 7 l ∧ (l.getD (lead 7 l) 0).toNat = 0 then (0, 0, 5)
  else if 281474976710656 < val (l.take (lead 7 l + 1)) then (0, 0, 1)
  else (val (l.take (lead 7 l + 1)), lead 7 l + 1, 0)
theorem rd_form7 {l : List B8} {k : Nat} (h : lead 7 l = k) (h7 : k = 7) : rd l = (0, 0, 5) := by unfold rd; rw [h, if_pos h7]
theorem rd_short {l : List B8} {k : Nat} (h : lead 7 l = k) (h7 : k ≠ 7) (hl : k = l.length) : rd l = (0, 0, 3) := by unfold rd; rw [h, if_neg h7, if_pos hl]
theorem rd_form0 {l : List B8} {k : Nat} (h : lead 7 l = k) (h7 : k ≠ 7) (hl : k < l.length) (h0 : 0 < k) (hx : l[k].toNat = 0) : rd l = (0, 0, 5) := by
  unfold rd
  rw [h, if_neg h7, if_neg (by omega), if_pos ⟨h0, by simpa [List.getD_eq_getElem?_getD, hl] using hx⟩]
theorem rd_range {l : List B8} {k : Nat} (h : lead 7 l = k) (h7 : k ≠ 7) (hl : k < l.length) (hx : ¬ (0 < k ∧ l[k].toNat = 0)) (hv : 281474976710656 < val (l.take (k + 1))) : rd l = (0, 0, 1) := by
  unfold rd
  rw [h, if_neg h7, if_neg (by omega), if_neg (by simpa [List.getD_eq_getElem?_getD, hl] using hx), if_pos hv]
theorem rd_ok {l : List B8} {k : Nat} (h : lead 7 l = k) (h7 : k ≠ 7) (hl : k < l.length) (hx : ¬ (0 < k ∧ l[k].toNat = 0)) (hv : ¬ 281474976710656 < val (l.take (k + 1))) : rd l = (val (l.take (k + 1)), k + 1, 0) := by
  unfold rd
  rw [h, if_neg h7, if_neg (by omega), if_neg (by simpa [List.getD_eq_getElem?_getD, hl] using hx), if_neg hv]
theorem take_snoc {l : List B8} {k : Nat} (hl : k < l.length) : l.take (k + 1) = l.take k ++ [l[k]] := by rw [List.take_add_one, List.getElem?_eq_getElem hl]; rfl
theorem val_take {l : List B8} {k : Nat} (hl : k < l.length) : val (l.take (k + 1)) = val (l.take k) + 128 ^ k * (l[k].toNat % 128) := by
  rw [take_snoc hl, val_snoc, List.length_take, Nat.min_eq_left (by omega)]
theorem val_take_lt (l : List B8) (k : Nat) : val (l.take k) < 128 ^ k := by
  have h := val_lt (l.take k)
  refine Nat.lt_of_lt_of_le h (Nat.pow_le_pow_right (by omega) (by simp; omega))

/-- What was written is read. -/
theorem val_enc : ∀ n : Nat, val (enc n) = n := by
  intro n
  induction n using Nat.strongRecOn with
  | _ n ih =>
    by_cases h : n < 128
    · rw [enc_lt h]; simp [val]; omega
    · rw [enc_ge h]
      simp only [val]
      rw [ih (n / 128) (by omega)]
      simp; omega
theorem enc_get : ∀ (n : Nat) (j : Nat) (h : j < (enc n).length), (j + 1 < (enc n).length → 128 ≤ (enc n)[j].toNat) ∧ (j + 1 = (enc n).length → (enc n)[j].toNat < 128 ∧ (0 < j → (enc n)[j].toNat ≠ 0)) := by
  intro n
  induction n using Nat.strongRecOn with
  | _ n ih =>
    intro j h
    by_cases hn : n < 128
    · simp only [enc_lt hn] at h ⊢
      have : j = 0 := by simpa using h
      subst this
      simp; omega
    · simp only [enc_ge hn] at h ⊢
      cases j with
      | zero =>
        have := enc_pos (n / 128)
        refine ⟨fun _ => by simp; omega, fun h => ?_⟩
        simp only [List.length_cons] at h
        omega
      | succ j =>
        have hj : j < (enc (n / 128)).length := by simpa using h
        have := ih (n / 128) (by omega) j hj
        simp only [List.length_cons, List.getElem_cons_succ]
        refine ⟨fun h => this.1 (by omega), fun h => ⟨(this.2 (by omega)).1, fun _ => ?_⟩⟩
        by_cases hj0 : 0 < j
        · exact (this.2 (by omega)).2 hj0
        · have hj1 : j = 0 := by omega
          subst hj1
          have hl : (enc (n / 128)).length = 1 := by omega
          by_cases hm : n / 128 < 128
          · simp only [enc_lt hm]; simp; omega
          · rw [enc_ge hm] at hl
            have := enc_pos (n / 128 / 128)
            simp at hl; simp [hl] at this
theorem rd_enc (n : Nat) (hn : n ≤ 281474976710656) (t : List B8) : rd (enc n ++ t) = (n, (enc n).length, 0) := by
  have hp := enc_pos n
  have h7 := enc_len7 hn
  have hg : ∀ j (h : j < (enc n).length), (enc n ++ t)[j]'(by simp; omega) = (enc n)[j] := fun j h => List.getElem_append_left h
  have hlead : lead 7 (enc n ++ t) = (enc n).length - 1 := by
    refine lead_of _ _ _ (by omega) (by simp; omega) (fun j h hj => ?_) (fun _ h => ?_)
    · rw [hg j (by omega)]; exact (enc_get n j (by omega)).1 (by omega)
    · rw [hg _ (by omega)]; exact ((enc_get n _ (by omega)).2 (by omega)).1
  have ht : (enc n ++ t).take ((enc n).length - 1 + 1) = enc n := by rw [Nat.sub_add_cancel hp]; exact List.take_left
  rw [rd_ok hlead (by omega) (by simp; omega) (fun h => ?_) (by rw [ht, val_enc]; omega), ht, val_enc, Nat.sub_add_cancel hp]
  rw [hg _ (by omega)] at h
  exact ((enc_get n _ (by omega)).2 (by omega)).2 h.1 h.2
/-- What is read is written as the same bytes. -/
theorem enc_val : ∀ (l : List B8) (x : B8), (∀ y ∈ l, 128 ≤ y.toNat) → x.toNat < 128 → (0 < l.length → x.toNat ≠ 0) → enc (val (l ++ [x])) = l ++ [x]
  | [], x, _, hx, _ => by
    simp only [List.nil_append, val]
    rw [enc_lt (by omega), Nat.mod_eq_of_lt hx]
    simp
  | y :: l, x, h, hx, h0 => by
    have hy := h y (by simp)
    have hlt := y.isLt
    have hpos : 0 < val (l ++ [x]) := by
      rw [val_snoc, Nat.mod_eq_of_lt hx]
      have : 0 < 128 ^ l.length * x.toNat := Nat.mul_pos (Nat.pow_pos (by omega)) (by have := h0 (by simp); omega)
      omega
    have ih := enc_val l x (fun z hz => h z (by simp [hz])) hx (fun _ => h0 (by simp))
    simp only [List.cons_append, val]
    rw [enc_ge (by omega)]
    have e1 : (y.toNat % 128 + 128 * val (l ++ [x])) / 128 = val (l ++ [x]) := by omega
    have e2 : BitVec.ofNat 8 ((y.toNat % 128 + 128 * val (l ++ [x])) % 128 + 128) = y := by
      apply BitVec.eq_of_toNat_eq
      rw [BitVec.toNat_ofNat]
      omega
    rw [e1, e2, ih]
theorem rd_unique {l : List B8} {n k : Nat} (h : rd l = (n, k, 0)) : k ≤ l.length ∧ n ≤ 281474976710656 ∧ enc n = l.take k := by
  have hle := lead_le 7 l
  unfold rd at h
  split at h
  · simp at h
  split at h
  · simp at h
  split at h
  · simp at h
  split at h
  · simp at h
  rename_i h7 hl hx hv
  simp only [Prod.mk.injEq, and_true] at h
  obtain ⟨rfl, rfl⟩ := h
  have hlt : lead 7 l < l.length := by omega
  refine ⟨by omega, by omega, ?_⟩
  rw [take_snoc hlt]
  refine enc_val _ _ (fun y hy => ?_) (lead_stop 7 l hlt (by omega)) (fun h0 hz => hx ⟨?_, ?_⟩)
  · obtain ⟨j, hj, rfl⟩ := List.getElem_of_mem hy
    rw [List.getElem_take]
    exact lead_ge 7 l j (by simp at hj; omega) (by simp at hj; omega)
  · simp at h0; omega
  · simpa [List.getD_eq_getElem?_getD, hlt] using hz
theorem rd_err {l : List B8} {n k e : Nat} (h : rd l = (n, k, e)) (he : e ≠ 0) : n = 0 ∧ k = 0 := by
  unfold rd at h
  (repeat' split at h) <;> simp at h <;> omega
end Go.Proofs.Ytfokedbipicmoaa
