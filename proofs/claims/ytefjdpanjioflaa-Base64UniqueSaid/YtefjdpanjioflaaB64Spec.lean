/-
  Layer 5 in plain words: a list of digits as a number, the text of bytes, the bytes of a text.
-/
import Derived.Test.YtefjdpanjioflaaKMem
namespace Go.Proofs.Ytefjdpanjioflaa
open Go Go.RowKit Sh Leaf
namespace Sh

theorem snoc_ind {P : List B8 → Prop} (h0 : P []) (h1 : ∀ l x, P l → P (l ++ [x])) (l : List B8) : P l := by
  have h : ∀ r : List B8, P r.reverse := fun r => by
    induction r with
    | nil => exact h0
    | cons x r ih => rw [List.reverse_cons]; exact h1 _ _ ih
  simpa using h l.reverse

/-- The number with the digits l in base 2^t, the most significant one first. -/
def nv (t : Nat) (l : List B8) : Nat := l.foldl (fun a x => a * 2 ^ t + x.toNat) 0
/-- The last n digits of N in base 2^t. -/
def digs (t : Nat) : Nat → Nat → List B8
  | 0, _ => []
  | n + 1, N => digs t n (N / 2 ^ t) ++ [BitVec.ofNat 8 (N % 2 ^ t)]
/-- Digits in base 2^t. -/
def Dig (t : Nat) (l : List B8) : Prop := ∀ x ∈ l, x.toNat < 2 ^ t
theorem Dig.nil (t : Nat) : Dig t [] := by intro x hx; cases hx
theorem Dig.snoc {t : Nat} {l : List B8} {x : B8} (h : Dig t l) (hx : x.toNat < 2 ^ t) : Dig t (l ++ [x]) := by
  intro y hy
  rcases List.mem_append.1 hy with hy | hy
  · exact h y hy
  · rw [List.mem_singleton.1 hy]; exact hx
theorem Dig.take {t : Nat} {l : List B8} (h : Dig t l) (k : Nat) : Dig t (l.take k) := fun x hx => h x (List.mem_of_mem_take hx)
theorem Dig.get {t : Nat} {l : List B8} (h : Dig t l) (k : Nat) : (l.getD k 0).toNat < 2 ^ t := by
  rw [List.getD_eq_getElem?_getD]
  rcases Nat.lt_or_ge k l.length with hk | hk
  · rw [List.getElem?_eq_getElem hk]; exact h _ (List.getElem_mem hk)
  · rw [List.getElem?_eq_none hk]; exact Nat.two_pow_pos t
theorem dig8 (l : List B8) : Dig 8 l := fun x _ => x.isLt
theorem nv_nil (t : Nat) : nv t [] = 0 := rfl
theorem nv_snoc (t : Nat) (l : List B8) (x : B8) : nv t (l ++ [x]) = nv t l * 2 ^ t + x.toNat := by simp [nv]
theorem nv_lt {t : Nat} {l : List B8} : Dig t l → nv t l < 2 ^ (t * l.length) := by
  induction l using snoc_ind with
  | h0 => intro _; simp [nv_nil]
  | h1 l x ih =>
    intro h
    have h1 := ih fun y hy => h y (List.mem_append_left _ hy)
    have h2 := h x (by simp)
    rw [nv_snoc, List.length_append, List.length_singleton, Nat.mul_add, Nat.mul_one, Nat.pow_add]
    have h3 : (nv t l + 1) * 2 ^ t ≤ 2 ^ (t * l.length) * 2 ^ t := Nat.mul_le_mul_right _ h1
    rw [Nat.add_mul, Nat.one_mul] at h3
    omega
theorem digs_length (t : Nat) : ∀ n N, (digs t n N).length = n
  | 0, _ => rfl
  | n + 1, N => by simp [digs, digs_length t n]
theorem mod_byte {t : Nat} (ht : t ≤ 8) (N : Nat) : (BitVec.ofNat 8 (N % 2 ^ t)).toNat = N % 2 ^ t := by
  rw [BitVec.toNat_ofNat]
  have h1 : N % 2 ^ t < 2 ^ t := Nat.mod_lt _ (Nat.two_pow_pos t)
  have h2 : 2 ^ t ≤ 2 ^ 8 := Nat.pow_le_pow_right (by omega) ht
  exact Nat.mod_eq_of_lt (by omega)
theorem digs_dig {t : Nat} (ht : t ≤ 8) : ∀ n N, Dig t (digs t n N)
  | 0, _ => Dig.nil t
  | n + 1, N => Dig.snoc (digs_dig ht n _) (by rw [mod_byte ht]; exact Nat.mod_lt _ (Nat.two_pow_pos t))
theorem nv_digs {t : Nat} (ht : t ≤ 8) : ∀ n N, N < 2 ^ (t * n) → nv t (digs t n N) = N
  | 0, N, h => by simp at h; simp [digs, nv_nil, h]
  | n + 1, N, h => by
    have hN : N / 2 ^ t < 2 ^ (t * n) := by
      rw [Nat.mul_add, Nat.mul_one, Nat.pow_add] at h
      exact (Nat.div_lt_iff_lt_mul (Nat.two_pow_pos t)).2 h
    rw [digs, nv_snoc, nv_digs ht n _ hN, mod_byte ht]
    have := Nat.div_add_mod N (2 ^ t)
    rw [Nat.mul_comm] at this
    exact this
theorem digs_nv {t : Nat} (l : List B8) : Dig t l → digs t l.length (nv t l) = l := by
  induction l using snoc_ind with
  | h0 => intro _; rfl
  | h1 l x ih =>
    intro h
    have h2 := h x (by simp)
    rw [List.length_append, List.length_singleton, digs, nv_snoc]
    have e1 : (nv t l * 2 ^ t + x.toNat) / 2 ^ t = nv t l := by
      rw [Nat.mul_comm, Nat.mul_add_div (Nat.two_pow_pos t), Nat.div_eq_of_lt h2, Nat.add_zero]
    have e2 : (nv t l * 2 ^ t + x.toNat) % 2 ^ t = x.toNat := by
      rw [Nat.mul_comm, Nat.mul_add_mod, Nat.mod_eq_of_lt h2]
    rw [e1, e2, ih fun y hy => h y (List.mem_append_left _ hy)]
    congr 1
    simp
/-- Digits are known by their number and their value. -/
theorem digs_of {t : Nat} {l : List B8} (h : Dig t l) {n N : Nat} (hn : l.length = n) (hN : nv t l = N) : l = digs t n N := by
  subst hn hN; exact (digs_nv l h).symm

/-! ### Bits -/
/-- Bit i of the digits l, f bits each. -/
def bit (f : Nat) (l : List B8) (i : Nat) : Nat := (l.getD (i / f) 0).toNat / 2 ^ (f - 1 - i % f) % 2
/-- The number of the first i bits. -/
def top (f : Nat) (l : List B8) : Nat → Nat
  | 0 => 0
  | i + 1 => 2 * top f l i + bit f l i
theorem bit_lt (f : Nat) (l : List B8) (i : Nat) : bit f l i < 2 := Nat.mod_lt _ (by omega)
theorem top_shift (f : Nat) (l : List B8) (i : Nat) : ∀ d, top f l (i + d) / 2 ^ d = top f l i
  | 0 => by simp
  | d + 1 => by
    have h1 := top_shift f l i d
    have h2 := bit_lt f l (i + d)
    have h3 : top f l (i + (d + 1)) = 2 * top f l (i + d) + bit f l (i + d) := rfl
    rw [Nat.pow_succ, Nat.mul_comm, ← Nat.div_div_eq_div_mul, h3, show (2 * top f l (i + d) + bit f l (i + d)) / 2 = top f l (i + d) by omega, h1]
theorem top_in {f : Nat} {l : List B8} (hl : Dig f l) (k : Nat) : ∀ j, j ≤ f → top f l (f * k + j) = top f l (f * k) * 2 ^ j + (l.getD k 0).toNat / 2 ^ (f - j)
  | 0, _ => by
    have := hl.get k
    rw [Nat.add_zero, Nat.pow_zero, Nat.mul_one, Nat.sub_zero, Nat.div_eq_of_lt this, Nat.add_zero]
  | j + 1, hj => by
    have h1 := top_in hl k j (by omega)
    have h3 : top f l (f * k + (j + 1)) = 2 * top f l (f * k + j) + bit f l (f * k + j) := rfl
    have h4 : (f * k + j) / f = k := by rw [Nat.mul_add_div (by omega), Nat.div_eq_of_lt (by omega), Nat.add_zero]
    have h5 : (f * k + j) % f = j := by rw [Nat.mul_add_mod, Nat.mod_eq_of_lt (by omega)]
    rw [h3, h1, bit, h4, h5]
    generalize (l.getD k 0).toNat = x
    have e1 : f - j = (f - 1 - j) + 1 := by omega
    have e2 : f - (j + 1) = f - 1 - j := by omega
    rw [e1, e2, Nat.pow_succ 2 (f - 1 - j), ← Nat.div_div_eq_div_mul, Nat.pow_succ 2 j, ← Nat.mul_assoc]
    generalize x / 2 ^ (f - 1 - j) = y
    generalize top f l (f * k) * 2 ^ j = z
    omega
theorem top_take {f : Nat} {l : List B8} (hl : Dig f l) : ∀ k, k ≤ l.length → top f l (f * k) = nv f (l.take k)
  | 0, _ => by simp [top, nv_nil]
  | k + 1, hk => by
    have h := top_in hl k f (Nat.le_refl _)
    have hk' : k < l.length := by omega
    rw [Nat.mul_add, Nat.mul_one, h, top_take hl k (by omega), List.take_add_one, List.getElem?_eq_getElem hk', Option.toList_some, nv_snoc, Nat.sub_self, Nat.pow_zero, Nat.div_one, List.getD_eq_getElem?_getD, List.getElem?_eq_getElem hk']
    rfl
theorem top_all {f : Nat} {l : List B8} (hl : Dig f l) : top f l (f * l.length) = nv f l := by rw [top_take hl _ (Nat.le_refl _), List.take_length]
theorem bit_out {f : Nat} {l : List B8} {i : Nat} (hf : 0 < f) (h : f * l.length ≤ i) : bit f l i = 0 := by
  have : l.length ≤ i / f := (Nat.le_div_iff_mul_le hf).2 (by rw [Nat.mul_comm]; exact h)
  unfold bit
  rw [List.getD_eq_getElem?_getD, List.getElem?_eq_none this]
  simp
theorem top_out {f : Nat} {l : List B8} (hf : 0 < f) (hl : Dig f l) : ∀ j, top f l (f * l.length + j) = nv f l * 2 ^ j
  | 0 => by rw [Nat.add_zero, top_all hl]; simp
  | j + 1 => by
    have h3 : top f l (f * l.length + (j + 1)) = 2 * top f l (f * l.length + j) + bit f l (f * l.length + j) := rfl
    rw [h3, top_out hf hl j, bit_out hf (by omega), Nat.pow_succ, Nat.add_zero, ← Nat.mul_assoc (nv f l) (2 ^ j) 2, Nat.mul_comm 2]

/-! ### Characters -/
/-- The characters. -/
def alpha : List B8 := [65, 66, 67, 68, 69, 70, 71, 72, 73, 74, 75, 76, 77, 78, 79, 80, 81, 82, 83, 84, 85, 86, 87, 88, 89, 90, 97, 98, 99, 100, 101, 102, 103, 104, 105, 106, 107, 108, 109, 110, 111, 112, 113, 114, 115, 116, 117, 118, 119, 120, 121, 122, 48, 49, 50, 51, 52, 53, 54, 55, 56, 57, 45, 95]
/-- The character with a value. -/
@[irreducible] def ch (v : B8) : B8 := alpha.getD v.toNat 0
/-- The value of a character. -/
@[irreducible] def vof (c : B8) : Option B8 :=
  if c = 95 then some 63 else if c = 45 then some 62 else if 48 ≤ c.toNat ∧ c.toNat ≤ 57 then some (c + 4) else if 97 ≤ c.toNat ∧ c.toNat ≤ 122 then some (c - 71) else if 65 ≤ c.toNat ∧ c.toNat ≤ 90 then some (c - 65) else none
theorem all_bytes {p : B8 → Bool} (h : (List.range 256).all (fun n => p (BitVec.ofNat 8 n)) = true) (x : B8) : p x = true := by
  have := List.all_eq_true.1 h x.toNat (List.mem_range.2 x.isLt)
  simpa using this
theorem vof_ch (v : B8) (h : v.toNat < 64) : vof (ch v) = some v := by
  have := all_bytes (p := fun v => decide (v.toNat < 64 → vof (ch v) = some v)) (by decide +kernel) v
  simp only [decide_eq_true_eq] at this
  exact this h
theorem ch_vof (c v : B8) (h : vof c = some v) : ch v = c ∧ v.toNat < 64 := by
  have := all_bytes (p := fun c => match vof c with | none => true | some v => decide (ch v = c ∧ v.toNat < 64)) (by decide +kernel) c
  simp only [h, decide_eq_true_eq] at this
  exact this
def okc (c : B8) : Bool := (vof c).isSome
def vl (l : List B8) : List B8 := l.map fun c => (vof c).getD 0
theorem vl_length (l : List B8) : (vl l).length = l.length := by simp [vl]
theorem vl_dig {l : List B8} (h : l.all okc = true) : Dig 6 (vl l) := by
  intro x hx
  obtain ⟨c, hc, rfl⟩ := List.mem_map.1 hx
  have h1 := List.all_eq_true.1 h c hc
  unfold okc at h1
  cases hv : vof c with
  | none => rw [hv] at h1; cases h1
  | some v => exact (ch_vof c v hv).2
theorem ch_vl {l : List B8} (h : l.all okc = true) : (vl l).map ch = l := by
  unfold vl
  rw [List.map_map]
  conv => rhs; rw [← List.map_id l]
  refine List.map_congr_left fun c hc => ?_
  have h1 := List.all_eq_true.1 h c hc
  unfold okc at h1
  cases hv : vof c with
  | none => rw [hv] at h1; cases h1
  | some v => simp [hv, (ch_vof c v hv).1]
theorem vl_ch {V : List B8} (h : Dig 6 V) : vl (V.map ch) = V := by
  unfold vl
  rw [List.map_map]
  conv => rhs; rw [← List.map_id V]
  refine List.map_congr_left fun v hv => ?_
  simp [vof_ch v (h v hv)]
theorem okc_ch {V : List B8} (h : Dig 6 V) : (V.map ch).all okc = true := by
  rw [List.all_eq_true]
  intro c hc
  obtain ⟨v, hv, rfl⟩ := List.mem_map.1 hc
  simp [okc, vof_ch v (h v hv)]

/-! ### Text and bytes -/
/-- The values of the characters of the text of b. -/
def enc6 (b : List B8) : List B8 := digs 6 ((8 * b.length + 5) / 6) (nv 8 b * 2 ^ (6 * ((8 * b.length + 5) / 6) - 8 * b.length))
/-- The text of b. -/
def txt (b : List B8) : List B8 := (enc6 b).map ch
/-- Encode: the text and the error. -/
def ec (b : List B8) : List B8 × Nat := if 4096 < b.length then ([], 2) else (txt b, 0)
/-- The bits behind the last whole byte. -/
def rest (V : List B8) : Nat := nv 6 V % 2 ^ (6 * V.length % 8)
/-- The whole bytes. -/
def dec8 (V : List B8) : List B8 := digs 8 (6 * V.length / 8) (nv 6 V / 2 ^ (6 * V.length % 8))
/-- Decode: the bytes and the error. -/
def dc (s : List B8) : List B8 × Nat :=
  if 5462 < s.length then ([], 2) else if s.all okc = false then ([], 8) else if s.length % 4 = 1 then ([], 3) else if rest (vl s) = 0 then (dec8 (vl s), 0) else ([], 5)

theorem enc6_length (b : List B8) : (enc6 b).length = (8 * b.length + 5) / 6 := digs_length _ _ _
theorem enc6_dig (b : List B8) : Dig 6 (enc6 b) := digs_dig (by omega) _ _
theorem enc6_fit (b : List B8) : nv 8 b * 2 ^ (6 * ((8 * b.length + 5) / 6) - 8 * b.length) < 2 ^ (6 * ((8 * b.length + 5) / 6)) := by
  have h1 := nv_lt (dig8 b)
  have h2 : 6 * ((8 * b.length + 5) / 6) = 8 * b.length + (6 * ((8 * b.length + 5) / 6) - 8 * b.length) := by omega
  conv => rhs; rw [h2]
  rw [Nat.pow_add]
  exact Nat.mul_lt_mul_of_pos_right h1 (Nat.two_pow_pos _)
theorem nv_enc6 (b : List B8) : nv 6 (enc6 b) = nv 8 b * 2 ^ (6 * ((8 * b.length + 5) / 6) - 8 * b.length) := nv_digs (by omega) _ _ (enc6_fit b)
theorem txt_length (b : List B8) : (txt b).length = (8 * b.length + 5) / 6 := by simp [txt, enc6_length]
/-- What is written is read. -/
theorem dc_txt (b : List B8) (h : b.length ≤ 4096) : dc (txt b) = (b, 0) := by
  have hl := txt_length b
  have h1 : vl (txt b) = enc6 b := vl_ch (enc6_dig b)
  have h2 : (txt b).all okc = true := okc_ch (enc6_dig b)
  have h3 : 6 * ((8 * b.length + 5) / 6) % 8 = 6 * ((8 * b.length + 5) / 6) - 8 * b.length := by omega
  have h4 : 6 * ((8 * b.length + 5) / 6) / 8 = b.length := by omega
  have h5 : rest (enc6 b) = 0 := by rw [rest, nv_enc6, enc6_length, h3, Nat.mul_mod_left]
  unfold dc
  rw [if_neg (by omega), h2, if_neg (by simp), if_neg (by omega), h1, if_pos h5, dec8, nv_enc6, enc6_length, h3, h4, Nat.mul_div_cancel _ (Nat.two_pow_pos _), digs_nv b (dig8 b)]
theorem dc_cases (s : List B8) : (∃ e, e ≠ 0 ∧ dc s = ([], e)) ∨ (s.length ≤ 5462 ∧ s.all okc = true ∧ s.length % 4 ≠ 1 ∧ rest (vl s) = 0 ∧ dc s = (dec8 (vl s), 0)) := by
  unfold dc
  by_cases h1 : 5462 < s.length
  · exact .inl ⟨2, by omega, by rw [if_pos h1]⟩
  · rw [if_neg h1]
    by_cases h2 : s.all okc = false
    · exact .inl ⟨8, by omega, by rw [if_pos h2]⟩
    · rw [if_neg h2]
      by_cases h3 : s.length % 4 = 1
      · exact .inl ⟨3, by omega, by rw [if_pos h3]⟩
      · rw [if_neg h3]
        by_cases h4 : rest (vl s) = 0
        · exact .inr ⟨by omega, by simpa using h2, h3, h4, by rw [if_pos h4]⟩
        · exact .inl ⟨5, by omega, by rw [if_neg h4]⟩
theorem dec8_length (V : List B8) : (dec8 V).length = 6 * V.length / 8 := digs_length _ _ _
/-- What is read is written as it was. -/
theorem txt_dec {s : List B8} (h2 : s.all okc = true) (h3 : s.length % 4 ≠ 1) (h4 : rest (vl s) = 0) : txt (dec8 (vl s)) = s := by
  have hV := vl_dig h2
  have hn := nv_lt hV
  have hl := vl_length s
  have h5 : (8 * (6 * s.length / 8) + 5) / 6 = s.length := by
    obtain ⟨q, r, hr, e⟩ : ∃ q r, r < 4 ∧ s.length = 4 * q + r := ⟨s.length / 4, s.length % 4, by omega, by omega⟩
    rw [e] at h3 ⊢
    rcases (by omega : r = 0 ∨ r = 1 ∨ r = 2 ∨ r = 3) with rfl | rfl | rfl | rfl <;> omega
  have h6 : 6 * s.length - 8 * (6 * s.length / 8) = 6 * s.length % 8 := by omega
  have h7 : nv 6 (vl s) / 2 ^ (6 * s.length % 8) < 2 ^ (8 * (6 * s.length / 8)) := by
    rw [Nat.div_lt_iff_lt_mul (Nat.two_pow_pos _), ← Nat.pow_add, Nat.div_add_mod]
    rwa [hl] at hn
  have h8 : nv 8 (dec8 (vl s)) = nv 6 (vl s) / 2 ^ (6 * s.length % 8) := by
    rw [dec8, hl]
    exact nv_digs (by omega) _ _ h7
  have h9 : nv 6 (vl s) / 2 ^ (6 * s.length % 8) * 2 ^ (6 * s.length % 8) = nv 6 (vl s) := by
    rw [rest, hl] at h4
    exact Nat.div_mul_cancel (Nat.dvd_of_mod_eq_zero h4)
  have e : enc6 (dec8 (vl s)) = vl s := by
    rw [enc6, dec8_length, hl, h5, h6, h8, h9]
    have := digs_nv (t := 6) (vl s) hV
    rwa [hl] at this
  rw [txt, e, ch_vl h2]
end Sh
end Go.Proofs.Ytefjdpanjioflaa
