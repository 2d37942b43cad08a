/-
  Plain words for SHA-256 over 32-bit vectors, and how the walk's integers read as them. No function of a program is named here.
-/
import Derived.Laws.BitsAllLaws
import Derived.Laws.BitsLemmas
import Derived.IntWalk
namespace Go.Proofs.YtbbpdcnmoabooaaDoor
namespace Sh
open Go

abbrev W := BitVec 32
abbrev B8 := BitVec 8

/-- The integer that stands for a word; for a byte. -/
@[irreducible] def iv (x : W) : Int := (x.toNat : Int)
@[irreducible] def bv (x : B8) : Int := (x.toNat : Int)
theorem iv_nonneg (x : W) : 0 ≤ iv x := by unfold iv; exact Int.natCast_nonneg _
theorem iv_le (x : W) : iv x ≤ 4294967295 := by unfold iv; have := x.isLt; omega
theorem bv_nonneg (x : B8) : 0 ≤ bv x := by unfold bv; exact Int.natCast_nonneg _
theorem bv_le (x : B8) : bv x ≤ 255 := by unfold bv; have := x.isLt; omega
theorem iv_inj {x y : W} (h : iv x = iv y) : x = y := by unfold iv at h; exact BitVec.eq_of_toNat_eq (by omega)
theorem bv_inj {x y : B8} (h : bv x = bv y) : x = y := by unfold bv at h; exact BitVec.eq_of_toNat_eq (by omega)

theorem ofInt_iv (x : W) : BitVec.ofInt 32 (iv x) = x := by
  unfold iv; rw [BitVec.ofInt_natCast]; simp
theorem wrap_iv (x : W) : IntKind.u32.wrap (iv x) = iv x := by
  rw [IntKind.wrap_u32]; have := iv_nonneg x; have := iv_le x; omega
theorem wrap_toNat (x : W) : IntKind.u32.wrap (x.toNat : Int) = iv x := by have := wrap_iv x; unfold iv at this ⊢; exact this
theorem bits_xor_iv (x y : W) : bits .xor .u32 (iv x) (iv y) = iv (x ^^^ y) := by
  show IntKind.u32.wrap ((BitVec.ofInt 32 (iv x) ^^^ BitVec.ofInt 32 (iv y)).toNat : Int) = _
  rw [ofInt_iv, ofInt_iv]; exact wrap_toNat _
theorem bits_and_iv (x y : W) : bits .and .u32 (iv x) (iv y) = iv (x &&& y) := by
  show IntKind.u32.wrap ((BitVec.ofInt 32 (iv x) &&& BitVec.ofInt 32 (iv y)).toNat : Int) = _
  rw [ofInt_iv, ofInt_iv]; exact wrap_toNat _
theorem bits_or_iv (x y : W) : bits .or .u32 (iv x) (iv y) = iv (x ||| y) := by
  show IntKind.u32.wrap ((BitVec.ofInt 32 (iv x) ||| BitVec.ofInt 32 (iv y)).toNat : Int) = _
  rw [ofInt_iv, ofInt_iv]; exact wrap_toNat _
theorem u32_unsigned : IntKind.u32.signed = false := rfl
theorem bits_not_iv (y : W) : bits .xor .u32 IntKind.u32.max (iv y) = iv (~~~y) := by
  have e0 : IntKind.u32.max = 4294967295 := by decide
  rw [e0]
  show IntKind.u32.wrap ((BitVec.ofInt 32 4294967295 ^^^ BitVec.ofInt 32 (iv y)).toNat : Int) = _
  rw [ofInt_iv]
  have e : BitVec.ofInt 32 4294967295 = BitVec.allOnes 32 := by decide
  rw [e, BitVec.allOnes_xor]; exact wrap_toNat _
theorem wrap_add_iv (x y : W) : IntKind.u32.wrap (iv x + iv y) = iv (x + y) := by
  rw [IntKind.wrap_u32]; unfold iv; rw [BitVec.toNat_add]; omega
theorem add_mod_iv (x y : W) : (iv x + iv y) % 4294967296 = iv (x + y) := by
  rw [← wrap_add_iv, IntKind.wrap_u32]
theorem add3_mod_iv (x y z : W) : (iv x + iv y + iv z) % 4294967296 = iv (x + y + z) := by
  rw [← add_mod_iv, ← add_mod_iv]; omega
theorem add4_mod_iv (x y z t : W) : (iv x + iv y + iv z + iv t) % 4294967296 = iv (x + y + z + t) := by
  rw [← add_mod_iv, ← add_mod_iv, ← add_mod_iv]; omega
theorem add5_mod_iv (x y z t s : W) : (iv x + iv y + iv z + iv t + iv s) % 4294967296 = iv (x + y + z + t + s) := by
  rw [← add_mod_iv, ← add_mod_iv, ← add_mod_iv, ← add_mod_iv]; omega
theorem shl_iv (x : W) (n : Nat) : IntKind.u32.wrap (iv x * 2 ^ n) = iv (x <<< n) := by
  rw [IntKind.wrap_u32]; unfold iv
  rw [BitVec.toNat_shiftLeft, Nat.shiftLeft_eq]
  have : ((x.toNat : Int) * 2 ^ n) = ((x.toNat * 2 ^ n : Nat) : Int) := by simp
  rw [this]; omega
theorem shr_iv (x : W) (n : Nat) : (iv x).fdiv (2 ^ n) = iv (x >>> n) := by
  unfold iv
  rw [BitVec.toNat_ushiftRight, Nat.shiftRight_eq_div_pow]
  have e : ((2 : Int) ^ n) = ((2 ^ n : Nat) : Int) := by simp
  rw [e, Int.natCast_ediv, Int.fdiv_eq_ediv_of_nonneg _ (Int.natCast_nonneg _)]

theorem shl_mod_iv (x : W) (n : Nat) : iv x * 2 ^ n % 4294967296 = iv (x <<< n) := by rw [← shl_iv, IntKind.wrap_u32]
theorem shr_div_iv (x : W) (n : Nat) : iv x / 2 ^ n = iv (x >>> n) := by
  rw [← shr_iv]; rw [Int.fdiv_eq_ediv_of_nonneg _ (Int.le_of_lt (Int.pow_pos (by decide)))]
theorem bv_iv (x : B8) : bv x = iv (x.setWidth 32) := by
  unfold bv iv
  rw [BitVec.toNat_setWidth]
  have := x.isLt
  omega
theorem neg_and31 (n : Nat) (h0 : 0 < n) (h1 : n < 32) : bits .and .u64 (IntKind.u64.wrap (-(n : Int))) 31 = 32 - (n : Int) := by
  have h : ∀ j : Fin 32, 0 < j.val → bits .and .u64 (IntKind.u64.wrap (-(j.val : Int))) 31 = 32 - (j.val : Int) := by decide +kernel
  exact h ⟨n, h1⟩ h0

/-! ### The standard's functions -/
def rotr (x : W) (n : Nat) : W := x >>> n ||| x <<< (32 - n)
def s0 (x : W) : W := rotr x 7 ^^^ rotr x 18 ^^^ x >>> 3
def s1 (x : W) : W := rotr x 17 ^^^ rotr x 19 ^^^ x >>> 10
def S0 (x : W) : W := rotr x 2 ^^^ rotr x 13 ^^^ rotr x 22
def S1 (x : W) : W := rotr x 6 ^^^ rotr x 11 ^^^ rotr x 25
def ch (x y z : W) : W := (x &&& y) ^^^ (~~~x &&& z)
def maj (x y z : W) : W := (x &&& y) ^^^ (x &&& z) ^^^ (y &&& z)

def kList : List W := [1116352408, 1899447441, 3049323471, 3921009573, 961987163, 1508970993, 2453635748, 2870763221, 3624381080, 310598401, 607225278, 1426881987, 1925078388, 2162078206, 2614888103, 3248222580, 3835390401, 4022224774, 264347078, 604807628, 770255983, 1249150122, 1555081692, 1996064986, 2554220882, 2821834349, 2952996808, 3210313671, 3336571891, 3584528711, 113926993, 338241895, 666307205, 773529912, 1294757372, 1396182291, 1695183700, 1986661051, 2177026350, 2456956037, 2730485921, 2820302411, 3259730800, 3345764771, 3516065817, 3600352804, 4094571909, 275423344, 430227734, 506948616, 659060556, 883997877, 958139571, 1322822218, 1537002063, 1747873779, 1955562222, 2024104815, 2227730452, 2361852424, 2428436474, 2756734187, 3204031479, 3329325298]
def kAt (t : Nat) : W := kList.getD t 0

structure St where
  (a b c d e f g h : W)
def init : St := ⟨1779033703, 3144134277, 1013904242, 2773480762, 1359893119, 2600822924, 528734635, 1541459225⟩
def St.list (s : St) : List W := [s.a, s.b, s.c, s.d, s.e, s.f, s.g, s.h]

def t1 (s : St) (k w : W) : W := s.h + S1 s.e + ch s.e s.f s.g + k + w
def t2 (s : St) : W := S0 s.a + maj s.a s.b s.c
def step (s : St) (k w : W) : St := ⟨t1 s k w + t2 s, s.a, s.b, s.c, s.d + t1 s k w, s.e, s.f, s.g⟩
def rounds (w : Nat → W) (s : St) : Nat → St
  | 0 => s
  | n + 1 => step (rounds w s n) (kAt n) (w n)
def St.add (x y : St) : St := ⟨x.a + y.a, x.b + y.b, x.c + y.c, x.d + y.d, x.e + y.e, x.f + y.f, x.g + y.g, x.h + y.h⟩

def St.at (s : St) (j : Nat) : W := s.list.getD j 0
/-- The sum of two states, of which the first k numbers have been added. -/
def mix (x y : St) (k j : Nat) : W := if j < k then x.at j + y.at j else x.at j
theorem mix_zero (x y : St) : mix x y 0 = x.at := by funext j; simp [mix]
theorem mix_all (x y : St) (j : Nat) (h : j < 8) : mix x y 8 j = (x.add y).at j := by
  unfold mix
  rw [if_pos h]
  have hj : j = 0 ∨ j = 1 ∨ j = 2 ∨ j = 3 ∨ j = 4 ∨ j = 5 ∨ j = 6 ∨ j = 7 := by omega
  rcases hj with rfl | rfl | rfl | rfl | rfl | rfl | rfl | rfl <;> rfl
theorem mix_succ (x y : St) (k j : Nat) : mix x y (k + 1) j = if j = k then x.at k + y.at k else mix x y k j := by
  unfold mix
  by_cases h : j = k
  · subst h; simp
  · rw [if_neg h]
    by_cases h2 : j < k
    · rw [if_pos (by omega), if_pos h2]
    · rw [if_neg (by omega), if_neg h2]
/-- Four bytes as a number, the most significant one first. -/
def word (a b c d : B8) : W := a.setWidth 32 <<< 24 ||| b.setWidth 32 <<< 16 ||| c.setWidth 32 <<< 8 ||| d.setWidth 32
def first (m : List B8) (t : Nat) : W := word (m.getD (4 * t) 0) (m.getD (4 * t + 1) 0) (m.getD (4 * t + 2) 0) (m.getD (4 * t + 3) 0)
/-- The numbers w of a block: sixteen, and n more. -/
def sched (m : List B8) : Nat → List W
  | 0 => (List.range 16).map (first m)
  | n + 1 => sched m n ++ [s1 ((sched m n).getD (n + 14) 0) + (sched m n).getD (n + 9) 0 + s0 ((sched m n).getD (n + 1) 0) + (sched m n).getD n 0]
theorem sched_length (m : List B8) (n : Nat) : (sched m n).length = 16 + n := by
  induction n with
  | zero => simp [sched]
  | succ n ih => simp [sched, ih]; omega
theorem sched_getD_succ (m : List B8) (n t : Nat) (h : t < 16 + n) : (sched m (n + 1)).getD t 0 = (sched m n).getD t 0 := by
  simp only [sched]
  rw [List.getD_eq_getElem?_getD, List.getElem?_append_left (by rw [sched_length]; exact h), ← List.getD_eq_getElem?_getD]
theorem sched_getD_add (m : List B8) (n k t : Nat) (h : t < 16 + n) : (sched m (n + k)).getD t 0 = (sched m n).getD t 0 := by
  induction k with
  | zero => rfl
  | succ k ih => rw [← Nat.add_assoc, sched_getD_succ m (n + k) t (by omega), ih]
def wAt (m : List B8) (t : Nat) : W := (sched m 48).getD t 0
theorem wAt_first (m : List B8) (t : Nat) (h : t < 16) : wAt m t = first m t := by
  have := sched_getD_add m 0 48 t (by omega)
  simp only [Nat.zero_add] at this
  rw [wAt, this]; simp [sched, List.getD_eq_getElem?_getD, h]
theorem wAt_next (m : List B8) (t : Nat) (h1 : 16 ≤ t) (h2 : t < 64) : wAt m t = s1 (wAt m (t - 2)) + wAt m (t - 7) + s0 (wAt m (t - 15)) + wAt m (t - 16) := by
  obtain ⟨n, rfl⟩ : ∃ n, t = 16 + n := ⟨t - 16, by omega⟩
  have e : ∀ j, j < 16 + n → wAt m j = (sched m n).getD j 0 := fun j hj => by
    have := sched_getD_add m n (48 - n) j hj
    rw [show n + (48 - n) = 48 by omega] at this
    exact this
  have e' : wAt m (16 + n) = (sched m (n + 1)).getD (16 + n) 0 := by
    have := sched_getD_add m (n + 1) (48 - (n + 1)) (16 + n) (by omega)
    rw [show n + 1 + (48 - (n + 1)) = 48 by omega] at this
    exact this
  rw [e', e _ (by omega), e _ (by omega), e _ (by omega), e _ (by omega)]
  simp only [sched, List.getD_eq_getElem?_getD]
  rw [List.getElem?_append_right (by rw [sched_length]; omega), sched_length]
  simp [show 16 + n - 2 = n + 14 by omega, show 16 + n - 7 = n + 9 by omega, show 16 + n - 15 = n + 1 by omega, show 16 + n - 16 = n by omega]

/-- The chaining value after a block. -/
def block (s : St) (m : List B8) : St := s.add (rounds (wAt m) s 64)
/-- The chaining value after n blocks of l. -/
def blocks (s : St) (l : List B8) : Nat → St
  | 0 => s
  | n + 1 => block (blocks s l n) ((l.drop (64 * n)).take 64)

theorem blocks_succ (s : St) (l : List B8) (n : Nat) : blocks s l (n + 1) = block (blocks s l n) ((l.drop (64 * n)).take 64) := rfl
/-- A number as bytes, the most significant one first: the last n of its bytes. -/
def beBytes (x : Nat) : Nat → List B8
  | 0 => []
  | n + 1 => BitVec.ofNat 8 (x / 256 ^ n) :: beBytes x n
theorem beBytes_length (x n : Nat) : (beBytes x n).length = n := by
  induction n with
  | zero => rfl
  | succ n ih => simp [beBytes, ih]
theorem beBytes_get (x n i : Nat) (h : i < n) : (beBytes x n)[i]? = some (BitVec.ofNat 8 (x / 256 ^ (n - 1 - i))) := by
  induction n generalizing i with
  | zero => omega
  | succ n ih =>
    cases i with
    | zero => simp [beBytes]
    | succ i => simp only [beBytes, List.getElem?_cons_succ]; rw [ih i (by omega), show n + 1 - 1 - (i + 1) = n - 1 - i by omega]
theorem beBytes_take_succ (x n i : Nat) (h : i < n) : (beBytes x n).take (i + 1) = (beBytes x n).take i ++ [BitVec.ofNat 8 (x / 256 ^ (n - 1 - i))] := by
  rw [List.take_add_one, beBytes_get x n i h]; rfl
theorem bv_ofNat (n : Nat) : bv (BitVec.ofNat 8 n) = ((n % 256 : Nat) : Int) := by unfold bv; rw [BitVec.toNat_ofNat]
def pad (len : Nat) : List B8 := 128 :: (List.replicate ((119 - len % 64) % 64) 0 ++ beBytes (len * 8) 8)
theorem pad_length (n : Nat) : (pad n).length = 9 + (119 - n % 64) % 64 := by simp [pad, beBytes_length]; omega
theorem pad_le (n : Nat) : (pad n).length ≤ 72 := by rw [pad_length]; omega
def digest (s : St) : List B8 := s.list.flatMap fun x => beBytes x.toNat 4
def dig (s : St) (k : Nat) : List B8 := (s.list.take k).flatMap fun x => beBytes x.toNat 4
theorem dig_all (s : St) : dig s 8 = digest s := rfl
theorem dig_succ (s : St) (k : Nat) (hk : k < 8) : dig s (k + 1) = dig s k ++ beBytes (s.at k).toNat 4 := by
  have h : s.list[k]? = some (s.at k) := by
    unfold St.at
    rw [List.getD_eq_getElem?_getD]
    have : k < s.list.length := hk
    rw [List.getElem?_eq_getElem this]; rfl
  unfold dig
  rw [List.take_add_one, h]
  simp
theorem dig_length (s : St) (k : Nat) (hk : k ≤ 8) : (dig s k).length = 4 * k := by
  induction k with
  | zero => rfl
  | succ k ih => rw [dig_succ s k (by omega), List.length_append, ih (by omega), beBytes_length]; omega
theorem digest_length (s : St) : (digest s).length = 32 := dig_length s 8 (by omega)
theorem dig_get (s : St) (k j : Nat) (hk : k ≤ 8) (hj : j < 4 * k) : (dig s k)[j]? = some (BitVec.ofNat 8 ((s.at (j / 4)).toNat / 256 ^ (3 - j % 4))) := by
  induction k with
  | zero => omega
  | succ k ih =>
    rw [dig_succ s k (by omega), List.getElem?_append, dig_length s k (by omega)]
    by_cases h : j < 4 * k
    · rw [if_pos h]; exact ih (by omega) h
    · rw [if_neg h, beBytes_get _ 4 _ (by omega), show j / 4 = k by omega, show 4 - 1 - (j - 4 * k) = 3 - j % 4 by omega]
theorem digest_get (s : St) (j : Nat) (hj : j < 32) : (digest s).getD j 0 = BitVec.ofNat 8 ((s.at (j / 4)).toNat / 256 ^ (3 - j % 4)) := by
  rw [List.getD_eq_getElem?_getD, ← dig_all, dig_get s 8 j (by omega) (by omega)]; rfl
def sha (l : List B8) : List B8 := digest (blocks init (l ++ pad l.length) ((l ++ pad l.length).length / 64))
end Sh
end Go.Proofs.YtbbpdcnmoabooaaDoor
