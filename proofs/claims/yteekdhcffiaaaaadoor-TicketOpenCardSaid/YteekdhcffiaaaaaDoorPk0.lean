/-
  KMem
  ShaSpec
  ShaLeaf
  ShaMem
  ShaPlain
  KOt
  VarSpec
  KNum
  PsnSpec
-/
import Derived.Laws.BitsAllLaws
import Derived.Laws.BitsLemmas
import Derived.IntWalk
import Derived.Test.YteekdhcffiaaaaaDoorChecked
import Derived.WalkKit
import Derived.WalkLawsBesides
import Derived.Deep.WholeRow
import Derived.Deep.MidRow
import Derived.Deep.Draws
import Derived.Lib.Hide
namespace Go.Proofs.YteekdhcffiaaaaaDoor
namespace Sh
open Go
abbrev B8 := BitVec 8
@[irreducible] def bv (x : B8) : Int := (x.toNat : Int)
theorem bv_nonneg (x : B8) : 0 ≤ bv x := by unfold bv; exact Int.natCast_nonneg _
theorem bv_le (x : B8) : bv x ≤ 255 := by unfold bv; have := x.isLt; omega
theorem bv_inj {x y : B8} (h : bv x = bv y) : x = y := by unfold bv at h; exact BitVec.eq_of_toNat_eq (by omega)
theorem bv_ofNat (n : Nat) : bv (BitVec.ofNat 8 n) = ((n % 256 : Nat) : Int) := by unfold bv; rw [BitVec.toNat_ofNat]
end Sh
namespace Leaf
end Leaf
open Go Go.RowKit Sh Leaf

theorem ret_int {k : IntKind} {a b : Int} (h : a = b) : Ending.returned (.int k a) = .returned (.int k b) := by rw [h]
theorem ofInt_bv (x : B8) : BitVec.ofInt 8 (bv x) = x := by
  unfold bv; rw [BitVec.ofInt_natCast]; simp
theorem wrap_bv (x : B8) : IntKind.u8.wrap (bv x) = bv x := by
  have h1 := bv_nonneg x
  have h2 := bv_le x
  have e : ∀ z : Int, 0 ≤ z → z ≤ 255 → IntKind.u8.wrap z = z := fun z h1 h2 => by
    rw [IntKind.wrap_u8]; omega
  exact e _ h1 h2
theorem wrap_toNat8 (x : B8) : IntKind.u8.wrap (x.toNat : Int) = bv x := by have := wrap_bv x; unfold bv at this ⊢; exact this
theorem bits_xor_bv (x y : B8) : bits .xor .u8 (bv x) (bv y) = bv (x ^^^ y) := by
  show IntKind.u8.wrap ((BitVec.ofInt 8 (bv x) ^^^ BitVec.ofInt 8 (bv y)).toNat : Int) = _
  rw [ofInt_bv, ofInt_bv]; exact wrap_toNat8 _
theorem bits_or_bv (x y : B8) : bits .or .u8 (bv x) (bv y) = bv (x ||| y) := by
  show IntKind.u8.wrap ((BitVec.ofInt 8 (bv x) ||| BitVec.ofInt 8 (bv y)).toNat : Int) = _
  rw [ofInt_bv, ofInt_bv]; exact wrap_toNat8 _
theorem bv_zero : bv 0 = 0 := by unfold bv; rfl
theorem bv_lit (n : Nat) (h : n < 256) : bv (BitVec.ofNat 8 n) = (n : Int) := by rw [bv_ofNat]; omega
abbrev byt (x : B8) : Value := .int .u8 (bv x)
@[irreducible] def brow (n : Nat) (f : Nat → B8) : Array Value := ((List.range n).map fun j => byt (f j)).toArray
theorem brow_size (n : Nat) (f : Nat → B8) : (brow n f).size = n := by unfold brow; simp
theorem brow_get (n : Nat) (f : Nat → B8) (j : Nat) (h : j < n) : (brow n f)[j]? = some (byt (f j)) := by unfold brow; simp [h]
theorem brow_congr {n : Nat} {f g : Nat → B8} (h : ∀ j, j < n → f j = g j) : brow n f = brow n g := by
  unfold brow
  congr 1
  exact List.map_congr_left fun j hj => by rw [h j (List.mem_range.1 hj)]
theorem brow_set (n : Nat) (f : Nat → B8) (k : Nat) (x : B8) (hk : k < n) : (brow n f).setIfInBounds k (byt x) = brow n (fun j => if j = k then x else f j) := by
  apply Array.ext_getElem?
  intro i
  rw [Array.getElem?_setIfInBounds, brow_size]
  by_cases hi : k = i
  · subst hi; simp [hk, brow_get]
  · rw [if_neg hi]
    by_cases hn : i < n
    · rw [brow_get n _ i hn, brow_get n _ i hn, if_neg (fun e => hi e.symm)]
    · rw [Array.getElem?_eq_none (by rw [brow_size]; omega), Array.getElem?_eq_none (by rw [brow_size]; omega)]
theorem brow_one (n : Nat) (f : Nat → B8) : (brow n f).all (·.oneCell') = true := by
  rw [Array.all_eq_true_iff_forall_mem]
  intro v hv
  unfold brow at hv
  simp at hv
  obtain ⟨j, _, rfl⟩ := hv
  rfl
theorem brow_list (l : List B8) : brow l.length (fun j => l.getD j 0) = (l.map byt).toArray := by
  apply Array.ext_getElem?
  intro i
  by_cases h : i < l.length
  · rw [brow_get _ _ _ h]; simp [h, List.getD_eq_getElem?_getD]
  · rw [Array.getElem?_eq_none (by rw [brow_size]; omega), Array.getElem?_eq_none (by simp; omega)]
theorem brow_zero (n : Nat) : brow n (fun _ => 0) = Array.replicate n (.int .u8 0) := by
  have h0 : bv 0 = 0 := by unfold bv; rfl
  unfold brow
  apply Array.ext_getElem?
  intro i
  by_cases h : i < n
  · simp [h]; exact h0
  · simp [h]

def Whole (w : World) (g : Nat) (t : TypeId) (cs : Array Value) : Prop := w.heap[g]? = some (.cells cs t (0, 0))
section
variable {w w' : World} {g : Nat} {t : TypeId} {cs : Array Value}
theorem Whole.lt (h : Whole w g t cs) : g < w.heap.size := by
  unfold Whole at h
  rcases Nat.lt_or_ge g w.heap.size with hl | hl
  · exact hl
  · rw [Array.getElem?_eq_none hl] at h; cases h
theorem Whole.eq (h : Whole w g t cs) : w.heap[g]? = some (.cells cs t (0, 0)) := h
theorem Whole.cell (h : Whole w g t cs) (i : Nat) : w.cell? ⟨g, i, none⟩ = cs[i]? := cell_of_row w g i cs t (0, 0) h
theorem Whole.frozen (h : Whole w g t cs) (i : Nat) : w.frozen? ⟨g, i, none⟩ = false := frozen_of_row w g i cs t h
theorem Whole.alloc (h : Whole w g t cs) (o : Obj) : Whole (w.alloc o) g t cs := (Below.heap_alloc w o g h.lt).trans h
theorem Whole.set (h : Whole w g t cs) (i : Nat) (v : Value) : Whole (w.setCell ⟨g, i, none⟩ v) g t (cs.setIfInBounds i v) := heap_setCell_same w g i cs t v h
theorem Whole.far (h : Whole w g t cs) {a : Addr} (ha : g ≠ a.block) (v : Value) : Whole (w.setCell a v) g t cs := (heap_setCell_other w a g v ha).trans h
theorem Whole.below {B : Nat} (h : Whole w g t cs) (hb : Below B w w') (hg : g < B) : Whole w' g t cs := (hb.block g hg).trans h
theorem Whole.drewN (h : Whole w g t cs) (n : Nat) : Whole (w.drewN n) g t cs := h
theorem Whole.drew (h : Whole w g t cs) : Whole w.drew g t cs := h
theorem Whole.here (w : World) (t : TypeId) (cs : Array Value) : Whole (w.alloc (.cells cs t)) w.heap.size t cs := heap_alloc_new w _
theorem Whole.at_ (w : World) (t : TypeId) (cs : Array Value) (g : Nat) (hg : g = w.heap.size) : Whole (w.alloc (.cells cs t)) g t cs := by subst hg; exact Whole.here w t cs
end
theorem bcell {W w1 : World} (hb : Below W.heap.size W w1) : (∀ b o, b < W.heap.size → w1.cell? ⟨b, o, none⟩ = W.cell? ⟨b, o, none⟩) ∧ (∀ b o, b < W.heap.size → w1.frozen? ⟨b, o, none⟩ = W.frozen? ⟨b, o, none⟩) :=
  ⟨fun b o h => hb.cell (p := ⟨b, o, none⟩) h, fun b o h => hb.frozen (p := ⟨b, o, none⟩) h⟩
theorem below_drewN {B : Nat} {a w : World} (h : Below B a w) (n : Nat) : Below B a (w.drewN n) := ⟨h.os, h.tape, h.output, h.size, h.block⟩
theorem below_setRow {B : Nat} {a w : World} (h : Below B a w) {g : Nat} (hg : B ≤ g) (cs : Array Value) : Below B a (w.setRow g cs) :=
  h.trans ⟨rfl, rfl, rfl, by simp, fun k hk => setRow_other w g k cs (by omega)⟩
theorem Whole.setRow {w : World} {g : Nat} {t : TypeId} {cs : Array Value} (h : Whole w g t cs) (cs' : Array Value) : Whole (w.setRow g cs') g t cs' := setRow_heap w g cs cs' t _ h
theorem Whole.setRow_far {w : World} {g g' : Nat} {t : TypeId} {cs : Array Value} (h : Whole w g t cs) (hg : g ≠ g') (cs' : Array Value) : Whole (w.setRow g' cs') g t cs := (setRow_other w g' g cs' hg).trans h

section
variable {P : Program}
theorem run_sizeOf_one {e : TypeId} (hc : (P.info? e).map (·.size) = some 1) (W : World) : (sizeOf e).run P W = .ok 1 W := by
  cases hq : P.info? e with
  | none => simp [hq] at hc
  | some i => simp [hq] at hc; simp [sizeOf, typeInfo, hq, hc]
theorem run_sliceAt_arr {t e : TypeId} {n : Nat} (ht : P.underlying t = some (.array n e)) (hc : (P.info? e).map (·.size) = some 1) (g l h : Nat) (h1 : l < h) (h2 : h ≤ n) (W : World) :
    (Instr.sliceAt t (.pointer (some ⟨g, 0, none⟩)) (some (.int .i64 (l : Int))) (some (.int .i64 (h : Int))) none).run P W = .ok (.slice (some ⟨g, l, none⟩) (h - l) (n - l)) W := by
  have e1 := run_sliceBound (P := P) W .i64 (h : Int) n .sliceAlen (by omega) (by omega)
  have e2 := run_sliceBound (P := P) W .i64 (l : Int) h .sliceB (by omega) (by omega)
  have ha : (⟨g, 0, none⟩ : Addr).add l = ⟨g, l, none⟩ := by rw [Addr.add_mid]; simp
  have hne : ¬ n = l := by omega
  simp [Instr.sliceAt, run_underlying ht, Instr.sureAddr, Instr.sliceBounds, e1, e2, run_sizeOf_one hc, ha, hne]
theorem run_arrayAt {t e : TypeId} {n : Nat} (ht : P.underlying t = some (.array n e)) (a : Option Addr) (len c : Nat) (h : n ≤ len) (W : World) :
    (Instr.arrayAt t (.slice a len c)).run P W = .ok (.pointer a) W := by
  have hn : ¬ len < n := by omega
  simp [Instr.arrayAt, run_underlying ht, hn]
theorem run_index_agg {t e : TypeId} {n : Nat} {d : TypeDesc} (ht : P.underlying t = some (.array n e)) (he : P.underlying e = some d) (hd : d.isRow = false)
    (hc : (P.info? e).map (·.size) = some 1) (cs : Array Value) (k : Nat) (v : Value) (hk : k < n) (hv : cs[k]? = some v) (W : World) :
    (Instr.index t (.agg cs) (.int .i64 (k : Int))).run P W = .ok v W := by
  have hagg : (isAgg e).run P W = .ok false W := by
    unfold isAgg
    rw [Sem.run_bind, run_underlying he W]
    cases d <;> simp_all
  simp [Instr.index, asIntOf, run_underlying ht, hk, run_sizeOf_one hc, Go.part, hagg, hv]
theorem wpList_build_as {ops : Array Oper} {rest : List Oper} {o : Oper} {a : Act} {w : World} {Q : Exit → Act → World → Prop} (hg : o.guard = none) (t : TypeId) (parts : Array (Nat × Operand)) (ho : o.op = .build t parts)
    (cs : Array Value) (hv : P.built t (parts.map fun (i, x) => (i, a.eval x)).toList = some cs) (h : wpList P ops Q rest (a.put o.dst (.agg cs)) w) : wpList P ops Q (o :: rest) a w :=
  wpList_build hg t parts ho (by rw [hv]; rfl) (by rw [hv]; exact h)
end
theorem run_sliceAt_whole {P : Program} {t e : TypeId} {n : Nat} (ht : P.underlying t = some (.array n e)) (hc : (P.info? e).map (·.size) = some 1) (g : Nat) (W : World) :
    (Instr.sliceAt t (.pointer (some ⟨g, 0, none⟩)) none none none).run P W = .ok (.slice (some ⟨g, 0, none⟩) n n) W := by
  have ha : (⟨g, 0, none⟩ : Addr).add 0 = ⟨g, 0, none⟩ := by rw [Addr.add_mid]
  simp [Instr.sliceAt, run_underlying ht, Instr.sureAddr, Instr.sliceBounds, run_sizeOf_one hc, ha]
theorem Whole.range {w : World} {g : Nat} {t : TypeId} {cs : List Value} (h : Whole w g t cs.toArray) : w.rangeAt g 0 cs := fun j v hj => by
  rw [Nat.zero_add, h.cell, List.getElem?_toArray]
  exact hj
end Go.Proofs.YteekdhcffiaaaaaDoor
namespace Go.Proofs.YteekdhcffiaaaaaDoor
namespace Sh
open Go

abbrev W := BitVec 32
@[irreducible] def iv (x : W) : Int := (x.toNat : Int)
theorem iv_nonneg (x : W) : 0 ≤ iv x := by unfold iv; exact Int.natCast_nonneg _
theorem iv_le (x : W) : iv x ≤ 4294967295 := by unfold iv; have := x.isLt; omega
theorem ofInt_iv (x : W) : BitVec.ofInt 32 (iv x) = x := by
  unfold iv; rw [BitVec.ofInt_natCast]; simp
theorem wrap_iv (x : W) : IntKind.u32.wrap (iv x) = iv x := by
  rw [IntKind.wrap_u32]; have := iv_nonneg x; have := iv_le x; omega
theorem wrap_toNat (x : W) : IntKind.u32.wrap (x.toNat : Int) = iv x := by have := wrap_iv x; unfold iv at this ⊢; exact this
theorem bits_xor_iv (x y : W) : bits .xor .u32 (iv x) (iv y) = iv (x ^^^ y) := by
  show IntKind.u32.wrap ((BitVec.ofInt 32 (iv x) ^^^ BitVec.ofInt 32 (iv y)).toNat : Int) = _
  rw [ofInt_iv, ofInt_iv]; exact wrap_toNat _
theorem bits_and_iv (x y : W) : bits .and .u32 (iv x) (iv y) = iv (x &&& y) := by
  show IntKind.u32.wrap ((BitVec.ofInt 32 (iv x) &&& BitVec.ofInt 32 (iv y)).toNat : Int) = _
  rw [ofInt_iv, ofInt_iv]; exact wrap_toNat _
theorem bits_or_iv (x y : W) : bits .or .u32 (iv x) (iv y) = iv (x ||| y) := by
  show IntKind.u32.wrap ((BitVec.ofInt 32 (iv x) ||| BitVec.ofInt 32 (iv y)).toNat : Int) = _
  rw [ofInt_iv, ofInt_iv]; exact wrap_toNat _
theorem u32_unsigned : IntKind.u32.signed = false := rfl
theorem bits_not_iv (y : W) : bits .xor .u32 IntKind.u32.max (iv y) = iv (~~~y) := by
  have e0 : IntKind.u32.max = 4294967295 := by decide
  rw [e0]
  show IntKind.u32.wrap ((BitVec.ofInt 32 4294967295 ^^^ BitVec.ofInt 32 (iv y)).toNat : Int) = _
  rw [ofInt_iv]
  have e : BitVec.ofInt 32 4294967295 = BitVec.allOnes 32 := by decide
  rw [e, BitVec.allOnes_xor]; exact wrap_toNat _
theorem wrap_add_iv (x y : W) : IntKind.u32.wrap (iv x + iv y) = iv (x + y) := by
  rw [IntKind.wrap_u32]; unfold iv; rw [BitVec.toNat_add]; omega
theorem add_mod_iv (x y : W) : (iv x + iv y) % 4294967296 = iv (x + y) := by
  rw [← wrap_add_iv, IntKind.wrap_u32]
theorem add4_mod_iv (x y z t : W) : (iv x + iv y + iv z + iv t) % 4294967296 = iv (x + y + z + t) := by
  rw [← add_mod_iv, ← add_mod_iv, ← add_mod_iv]; omega
theorem add5_mod_iv (x y z t s : W) : (iv x + iv y + iv z + iv t + iv s) % 4294967296 = iv (x + y + z + t + s) := by
  rw [← add_mod_iv, ← add_mod_iv, ← add_mod_iv, ← add_mod_iv]; omega
theorem shl_iv (x : W) (n : Nat) : IntKind.u32.wrap (iv x * 2 ^ n) = iv (x <<< n) := by
  rw [IntKind.wrap_u32]; unfold iv
  rw [BitVec.toNat_shiftLeft, Nat.shiftLeft_eq]
  have : ((x.toNat : Int) * 2 ^ n) = ((x.toNat * 2 ^ n : Nat) : Int) := by simp
  rw [this]; omega
theorem shr_iv (x : W) (n : Nat) : (iv x).fdiv (2 ^ n) = iv (x >>> n) := by
  unfold iv
  rw [BitVec.toNat_ushiftRight, Nat.shiftRight_eq_div_pow]
  have e : ((2 : Int) ^ n) = ((2 ^ n : Nat) : Int) := by simp
  rw [e, Int.natCast_ediv, Int.fdiv_eq_ediv_of_nonneg _ (Int.natCast_nonneg _)]

theorem shl_mod_iv (x : W) (n : Nat) : iv x * 2 ^ n % 4294967296 = iv (x <<< n) := by rw [← shl_iv, IntKind.wrap_u32]
theorem shr_div_iv (x : W) (n : Nat) : iv x / 2 ^ n = iv (x >>> n) := by
  rw [← shr_iv]; rw [Int.fdiv_eq_ediv_of_nonneg _ (Int.le_of_lt (Int.pow_pos (by decide)))]
theorem bv_iv (x : B8) : bv x = iv (x.setWidth 32) := by
  unfold bv iv
  rw [BitVec.toNat_setWidth]
  have := x.isLt
  omega
theorem neg_and31 (n : Nat) (h0 : 0 < n) (h1 : n < 32) : bits .and .u64 (IntKind.u64.wrap (-(n : Int))) 31 = 32 - (n : Int) := by
  have h : ∀ j : Fin 32, 0 < j.val → bits .and .u64 (IntKind.u64.wrap (-(j.val : Int))) 31 = 32 - (j.val : Int) := by decide +kernel
  exact h ⟨n, h1⟩ h0

def rotr (x : W) (n : Nat) : W := x >>> n ||| x <<< (32 - n)
def s0 (x : W) : W := rotr x 7 ^^^ rotr x 18 ^^^ x >>> 3
def s1 (x : W) : W := rotr x 17 ^^^ rotr x 19 ^^^ x >>> 10
def S0 (x : W) : W := rotr x 2 ^^^ rotr x 13 ^^^ rotr x 22
def S1 (x : W) : W := rotr x 6 ^^^ rotr x 11 ^^^ rotr x 25
def shCh (x y z : W) : W := (x &&& y) ^^^ (~~~x &&& z)
def maj (x y z : W) : W := (x &&& y) ^^^ (x &&& z) ^^^ (y &&& z)

def kList : List W := [1116352408, 1899447441, 3049323471, 3921009573, 961987163, 1508970993, 2453635748, 2870763221, 3624381080, 310598401, 607225278, 1426881987, 1925078388, 2162078206, 2614888103, 3248222580, 3835390401, 4022224774, 264347078, 604807628, 770255983, 1249150122, 1555081692, 1996064986, 2554220882, 2821834349, 2952996808, 3210313671, 3336571891, 3584528711, 113926993, 338241895, 666307205, 773529912, 1294757372, 1396182291, 1695183700, 1986661051, 2177026350, 2456956037, 2730485921, 2820302411, 3259730800, 3345764771, 3516065817, 3600352804, 4094571909, 275423344, 430227734, 506948616, 659060556, 883997877, 958139571, 1322822218, 1537002063, 1747873779, 1955562222, 2024104815, 2227730452, 2361852424, 2428436474, 2756734187, 3204031479, 3329325298]
def kAt (t : Nat) : W := kList.getD t 0

structure St where
  (a b c d e f g h : W)
def init : St := ⟨1779033703, 3144134277, 1013904242, 2773480762, 1359893119, 2600822924, 528734635, 1541459225⟩
def St.list (s : St) : List W := [s.a, s.b, s.c, s.d, s.e, s.f, s.g, s.h]

def t1 (s : St) (k w : W) : W := s.h + S1 s.e + shCh s.e s.f s.g + k + w
def t2 (s : St) : W := S0 s.a + maj s.a s.b s.c
def step (s : St) (k w : W) : St := ⟨t1 s k w + t2 s, s.a, s.b, s.c, s.d + t1 s k w, s.e, s.f, s.g⟩
def rounds (w : Nat → W) (s : St) : Nat → St
  | 0 => s
  | n + 1 => step (rounds w s n) (kAt n) (w n)
def St.add (x y : St) : St := ⟨x.a + y.a, x.b + y.b, x.c + y.c, x.d + y.d, x.e + y.e, x.f + y.f, x.g + y.g, x.h + y.h⟩

def St.at (s : St) (j : Nat) : W := s.list.getD j 0
def shMix (x y : St) (k j : Nat) : W := if j < k then x.at j + y.at j else x.at j
theorem shMix_zero (x y : St) : shMix x y 0 = x.at := by funext j; simp [shMix]
theorem shMix_all (x y : St) (j : Nat) (h : j < 8) : shMix x y 8 j = (x.add y).at j := by
  unfold shMix
  rw [if_pos h]
  have hj : j = 0 ∨ j = 1 ∨ j = 2 ∨ j = 3 ∨ j = 4 ∨ j = 5 ∨ j = 6 ∨ j = 7 := by omega
  rcases hj with rfl | rfl | rfl | rfl | rfl | rfl | rfl | rfl <;> rfl
theorem mix_succ (x y : St) (k j : Nat) : shMix x y (k + 1) j = if j = k then x.at k + y.at k else shMix x y k j := by
  unfold shMix
  by_cases h : j = k
  · subst h; simp
  · rw [if_neg h]
    by_cases h2 : j < k
    · rw [if_pos (by omega), if_pos h2]
    · rw [if_neg (by omega), if_neg h2]
def word (a b c d : B8) : W := a.setWidth 32 <<< 24 ||| b.setWidth 32 <<< 16 ||| c.setWidth 32 <<< 8 ||| d.setWidth 32
def first (m : List B8) (t : Nat) : W := word (m.getD (4 * t) 0) (m.getD (4 * t + 1) 0) (m.getD (4 * t + 2) 0) (m.getD (4 * t + 3) 0)
def sched (m : List B8) : Nat → List W
  | 0 => (List.range 16).map (first m)
  | n + 1 => sched m n ++ [s1 ((sched m n).getD (n + 14) 0) + (sched m n).getD (n + 9) 0 + s0 ((sched m n).getD (n + 1) 0) + (sched m n).getD n 0]
theorem sched_length (m : List B8) (n : Nat) : (sched m n).length = 16 + n := by
  induction n with
  | zero => simp [sched]
  | succ n ih => simp [sched, ih]; omega
theorem sched_getD_succ (m : List B8) (n t : Nat) (h : t < 16 + n) : (sched m (n + 1)).getD t 0 = (sched m n).getD t 0 := by
  simp only [sched]
  rw [List.getD_eq_getElem?_getD, List.getElem?_append_left (by rw [sched_length]; exact h), ← List.getD_eq_getElem?_getD]
theorem sched_getD_add (m : List B8) (n k t : Nat) (h : t < 16 + n) : (sched m (n + k)).getD t 0 = (sched m n).getD t 0 := by
  induction k with
  | zero => rfl
  | succ k ih => rw [← Nat.add_assoc, sched_getD_succ m (n + k) t (by omega), ih]
def wAt (m : List B8) (t : Nat) : W := (sched m 48).getD t 0
theorem wAt_first (m : List B8) (t : Nat) (h : t < 16) : wAt m t = first m t := by
  have := sched_getD_add m 0 48 t (by omega)
  simp only [Nat.zero_add] at this
  rw [wAt, this]; simp [sched, List.getD_eq_getElem?_getD, h]
theorem wAt_next (m : List B8) (t : Nat) (h1 : 16 ≤ t) (h2 : t < 64) : wAt m t = s1 (wAt m (t - 2)) + wAt m (t - 7) + s0 (wAt m (t - 15)) + wAt m (t - 16) := by
  obtain ⟨n, rfl⟩ : ∃ n, t = 16 + n := ⟨t - 16, by omega⟩
  have e : ∀ j, j < 16 + n → wAt m j = (sched m n).getD j 0 := fun j hj => by
    have := sched_getD_add m n (48 - n) j hj
    rw [show n + (48 - n) = 48 by omega] at this
    exact this
  have e' : wAt m (16 + n) = (sched m (n + 1)).getD (16 + n) 0 := by
    have := sched_getD_add m (n + 1) (48 - (n + 1)) (16 + n) (by omega)
    rw [show n + 1 + (48 - (n + 1)) = 48 by omega] at this
    exact this
  rw [e', e _ (by omega), e _ (by omega), e _ (by omega), e _ (by omega)]
  simp only [sched, List.getD_eq_getElem?_getD]
  rw [List.getElem?_append_right (by rw [sched_length]; omega), sched_length]
  simp [show 16 + n - 2 = n + 14 by omega, show 16 + n - 7 = n + 9 by omega, show 16 + n - 15 = n + 1 by omega, show 16 + n - 16 = n by omega]

def block (s : St) (m : List B8) : St := s.add (rounds (wAt m) s 64)
def blocks (s : St) (l : List B8) : Nat → St
  | 0 => s
  | n + 1 => block (blocks s l n) ((l.drop (64 * n)).take 64)

theorem blocks_succ (s : St) (l : List B8) (n : Nat) : blocks s l (n + 1) = block (blocks s l n) ((l.drop (64 * n)).take 64) := rfl
def beBytes (x : Nat) : Nat → List B8
  | 0 => []
  | n + 1 => BitVec.ofNat 8 (x / 256 ^ n) :: beBytes x n
theorem beBytes_length (x n : Nat) : (beBytes x n).length = n := by
  induction n with
  | zero => rfl
  | succ n ih => simp [beBytes, ih]
theorem beBytes_get (x n i : Nat) (h : i < n) : (beBytes x n)[i]? = some (BitVec.ofNat 8 (x / 256 ^ (n - 1 - i))) := by
  induction n generalizing i with
  | zero => omega
  | succ n ih =>
    cases i with
    | zero => simp [beBytes]
    | succ i => simp only [beBytes, List.getElem?_cons_succ]; rw [ih i (by omega), show n + 1 - 1 - (i + 1) = n - 1 - i by omega]
theorem beBytes_take_succ (x n i : Nat) (h : i < n) : (beBytes x n).take (i + 1) = (beBytes x n).take i ++ [BitVec.ofNat 8 (x / 256 ^ (n - 1 - i))] := by
  rw [List.take_add_one, beBytes_get x n i h]; rfl
def pad (len : Nat) : List B8 := 128 :: (List.replicate ((119 - len % 64) % 64) 0 ++ beBytes (len * 8) 8)
theorem pad_length (n : Nat) : (pad n).length = 9 + (119 - n % 64) % 64 := by simp [pad, beBytes_length]; omega
theorem pad_le (n : Nat) : (pad n).length ≤ 72 := by rw [pad_length]; omega
def digest (s : St) : List B8 := s.list.flatMap fun x => beBytes x.toNat 4
def dig (s : St) (k : Nat) : List B8 := (s.list.take k).flatMap fun x => beBytes x.toNat 4
theorem dig_all (s : St) : dig s 8 = digest s := rfl
theorem dig_succ (s : St) (k : Nat) (hk : k < 8) : dig s (k + 1) = dig s k ++ beBytes (s.at k).toNat 4 := by
  have h : s.list[k]? = some (s.at k) := by
    unfold St.at
    rw [List.getD_eq_getElem?_getD]
    have : k < s.list.length := hk
    rw [List.getElem?_eq_getElem this]; rfl
  unfold dig
  rw [List.take_add_one, h]
  simp
theorem dig_length (s : St) (k : Nat) (hk : k ≤ 8) : (dig s k).length = 4 * k := by
  induction k with
  | zero => rfl
  | succ k ih => rw [dig_succ s k (by omega), List.length_append, ih (by omega), beBytes_length]; omega
theorem digest_length (s : St) : (digest s).length = 32 := dig_length s 8 (by omega)
theorem dig_get (s : St) (k j : Nat) (hk : k ≤ 8) (hj : j < 4 * k) : (dig s k)[j]? = some (BitVec.ofNat 8 ((s.at (j / 4)).toNat / 256 ^ (3 - j % 4))) := by
  induction k with
  | zero => omega
  | succ k ih =>
    rw [dig_succ s k (by omega), List.getElem?_append, dig_length s k (by omega)]
    by_cases h : j < 4 * k
    · rw [if_pos h]; exact ih (by omega) h
    · rw [if_neg h, beBytes_get _ 4 _ (by omega), show j / 4 = k by omega, show 4 - 1 - (j - 4 * k) = 3 - j % 4 by omega]
theorem digest_get (s : St) (j : Nat) (hj : j < 32) : (digest s).getD j 0 = BitVec.ofNat 8 ((s.at (j / 4)).toNat / 256 ^ (3 - j % 4)) := by
  rw [List.getD_eq_getElem?_getD, ← dig_all, dig_get s 8 j (by omega) (by omega)]; rfl
def sha (l : List B8) : List B8 := digest (blocks init (l ++ pad l.length) ((l ++ pad l.length).length / 64))
end Sh
end Go.Proofs.YteekdhcffiaaaaaDoor
namespace Go.Proofs.YteekdhcffiaaaaaDoor
open Go Go.RowKit Sh

namespace Leaf
abbrev u (x : W) : Value := .int .u32 (iv x)
abbrev Gives (f : FuncId) (args : Array Value) (r : W) (w : World) : Prop := Calls Tryd.prog f args w fun e w' => e = .returned (.int .u32 (iv r)) ∧ w = w'

set_option maxRecDepth 20000 in
theorem choose (x y z : W) (w : World) : Gives 92 #[u x, u y, u z] (shCh x y z) w := by
  have h1 := bits_and_iv
  have h2 := bits_xor_iv
  have h3 := bits_not_iv
  have h4 := u32_unsigned
  go_enter Tryd.func92, Tryd.ntmps92
  go_wp2
  go_ret
  exact ⟨rfl, rfl⟩
set_option maxRecDepth 20000 in
theorem majority (x y z : W) (w : World) : Gives 94 #[u x, u y, u z] (maj x y z) w := by
  have h1 := bits_and_iv
  have h2 := bits_xor_iv
  go_enter Tryd.func94, Tryd.ntmps94
  go_wp2
  go_ret
  exact ⟨rfl, rfl⟩
set_option maxRecDepth 20000 in
theorem rotl (x : W) (n : Nat) (h0 : 0 < n) (h1 : n < 32) (w : World) : Gives 99 #[u x, .int .i64 (-(n : Int))] (rotr x n) w := by
  have a1 := neg_and31 n h0 h1
  have a5 : 32 - (32 - (n : Int)) = n := by omega
  go_enter Tryd.func99, Tryd.ntmps99
  go_wp2
  go_ret
  exact ⟨ret_int (by rw [shl_mod_iv, shr_div_iv, bits_or_iv, rotr, BitVec.or_comm]), rfl⟩
set_option maxRecDepth 20000 in
theorem rotate (x : W) (n : Nat) (h0 : 0 < n) (h1 : n < 32) (w : World) : Gives 98 #[u x, .int .i64 (n : Int)] (rotr x n) w := by
  go_enter Tryd.func98, Tryd.ntmps98
  go_wp2_with (go_at_call 99; refine (rotl x n h0 h1 _).mono ?_; rintro e w' ⟨rfl, rfl⟩)
  go_ret
  exact ⟨rfl, rfl⟩
set_option maxRecDepth 20000 in
theorem bigSigma0 (x : W) (w : World) : Gives 93 #[u x] (S0 x) w := by
  have h2 := bits_xor_iv
  go_enter Tryd.func93, Tryd.ntmps93
  go_wp2_with fail
  refine (rotate x 2 (by omega) (by omega) _).mono ?_; rintro e w' ⟨rfl, rfl⟩
  go_wp2_with fail
  refine (rotate x 13 (by omega) (by omega) _).mono ?_; rintro e w' ⟨rfl, rfl⟩
  go_wp2_with fail
  refine (rotate x 22 (by omega) (by omega) _).mono ?_; rintro e w' ⟨rfl, rfl⟩
  go_wp2
  go_ret
  exact ⟨rfl, rfl⟩
set_option maxRecDepth 20000 in
theorem bigSigma1 (x : W) (w : World) : Gives 91 #[u x] (S1 x) w := by
  have h2 := bits_xor_iv
  go_enter Tryd.func91, Tryd.ntmps91
  go_wp2_with fail
  refine (rotate x 6 (by omega) (by omega) _).mono ?_; rintro e w' ⟨rfl, rfl⟩
  go_wp2_with fail
  refine (rotate x 11 (by omega) (by omega) _).mono ?_; rintro e w' ⟨rfl, rfl⟩
  go_wp2_with fail
  refine (rotate x 25 (by omega) (by omega) _).mono ?_; rintro e w' ⟨rfl, rfl⟩
  go_wp2
  go_ret
  exact ⟨rfl, rfl⟩
set_option maxRecDepth 20000 in
theorem smallSigma0 (x : W) (w : World) : Gives 97 #[u x] (s0 x) w := by
  have h2 := bits_xor_iv
  have h5 : iv x / (8 : Int) = iv (x >>> 3) := shr_div_iv x 3
  go_enter Tryd.func97, Tryd.ntmps97
  go_wp2_with fail
  refine (rotate x 7 (by omega) (by omega) _).mono ?_; rintro e w' ⟨rfl, rfl⟩
  go_wp2_with fail
  refine (rotate x 18 (by omega) (by omega) _).mono ?_; rintro e w' ⟨rfl, rfl⟩
  go_wp2
  go_ret
  exact ⟨rfl, rfl⟩
set_option maxRecDepth 20000 in
theorem smallSigma1 (x : W) (w : World) : Gives 96 #[u x] (s1 x) w := by
  have h2 := bits_xor_iv
  have h5 : iv x / (1024 : Int) = iv (x >>> 10) := shr_div_iv x 10
  go_enter Tryd.func96, Tryd.ntmps96
  go_wp2_with fail
  refine (rotate x 17 (by omega) (by omega) _).mono ?_; rintro e w' ⟨rfl, rfl⟩
  go_wp2_with fail
  refine (rotate x 19 (by omega) (by omega) _).mono ?_; rintro e w' ⟨rfl, rfl⟩
  go_wp2
  go_ret
  exact ⟨rfl, rfl⟩
set_option maxRecDepth 20000 in
theorem rotated (x : W) (n : Nat) (h0 : 0 < n) (h1 : n < 32) (w : World) : Gives 79 #[u x, .int .u64 (n : Int)] (rotr x n) w := by
  go_enter Tryd.func79, Tryd.ntmps79
  go_wp2
  go_ret
  exact ⟨ret_int (by rw [shl_mod_iv, shr_div_iv, bits_or_iv, rotr]), rfl⟩
theorem rotatedI (x : W) (y : Int) (h0 : 0 < y) (h1 : y < 32) (w : World) : Gives 79 #[u x, .int .u64 y] (rotr x y.toNat) w := by
  obtain ⟨n, rfl⟩ := Int.eq_ofNat_of_zero_le (Int.le_of_lt h0)
  exact rotated x n (by omega) (by omega) w
end Leaf
end Go.Proofs.YteekdhcffiaaaaaDoor
namespace Go.Proofs.YteekdhcffiaaaaaDoor
open Go Go.RowKit Sh Leaf

@[irreducible] def wrow (n : Nat) (f : Nat → W) : Array Value := ((List.range n).map fun j => u (f j)).toArray
theorem wrow_size (n : Nat) (f : Nat → W) : (wrow n f).size = n := by unfold wrow; simp
theorem wrow_get (n : Nat) (f : Nat → W) (j : Nat) (h : j < n) : (wrow n f)[j]? = some (u (f j)) := by unfold wrow; simp [h]
theorem wrow_congr {n : Nat} {f g : Nat → W} (h : ∀ j, j < n → f j = g j) : wrow n f = wrow n g := by
  unfold wrow
  congr 1
  exact List.map_congr_left fun j hj => by rw [h j (List.mem_range.1 hj)]
theorem wrow_set (n : Nat) (f : Nat → W) (k : Nat) (x : W) (hk : k < n) : (wrow n f).setIfInBounds k (u x) = wrow n (fun j => if j = k then x else f j) := by
  apply Array.ext_getElem?
  intro i
  rw [Array.getElem?_setIfInBounds, wrow_size]
  by_cases hi : k = i
  · subst hi; simp [hk, wrow_get]
  · rw [if_neg hi]
    by_cases hn : i < n
    · rw [wrow_get n _ i hn, wrow_get n _ i hn, if_neg (fun e => hi e.symm)]
    · rw [Array.getElem?_eq_none (by rw [wrow_size]; omega), Array.getElem?_eq_none (by rw [wrow_size]; omega)]
theorem wrow_one (n : Nat) (f : Nat → W) : (wrow n f).all (·.oneCell') = true := by
  rw [Array.all_eq_true_iff_forall_mem]
  intro v hv
  unfold wrow at hv
  simp at hv
  obtain ⟨j, _, rfl⟩ := hv
  rfl
theorem iv_zero : iv 0 = 0 := by unfold iv; rfl
theorem wrow_zero (n : Nat) : wrow n (fun _ => 0) = Array.replicate n (.int .u32 0) := by
  unfold wrow
  apply Array.ext_getElem?
  intro i
  by_cases h : i < n
  · simp [h]; exact iv_zero
  · simp [h]

section
variable {w w' : World} {g : Nat} {t : TypeId} {cs : Array Value}
end
section
variable {P : Program}
end
theorem range4 {wr : World} {g : Nat} {t : TypeId} {m : List B8} (h : Whole wr g t (m.map byt).toArray) (o : Nat) (ho : o + 4 ≤ m.length) :
    wr.rangeAt g o [byt (m.getD o 0), byt (m.getD (o + 1) 0), byt (m.getD (o + 2) 0), byt (m.getD (o + 3) 0)] := by
  intro j v hv
  rw [h.cell]
  have hg : ∀ i, i < m.length → (m.map byt).toArray[i]? = some (byt (m.getD i 0)) := fun i hi => by
    simp [List.getD_eq_getElem?_getD, hi]
  match j, hv with
  | 0, hv => simp at hv; subst hv; exact hg _ (by omega)
  | 1, hv => simp at hv; subst hv; exact hg _ (by omega)
  | 2, hv => simp at hv; subst hv; exact hg _ (by omega)
  | 3, hv => simp at hv; subst hv; exact hg _ (by omega)
  | j + 4, hv => simp at hv
end Go.Proofs.YteekdhcffiaaaaaDoor
namespace Go.Proofs.YteekdhcffiaaaaaDoor
namespace Sh

def stAfter (l : List B8) : St := blocks init l (l.length / 64)
def restOf (l : List B8) : List B8 := l.drop (64 * (l.length / 64))
theorem restOf_length (l : List B8) : (restOf l).length = l.length % 64 := by unfold restOf; rw [List.length_drop]; omega
theorem blocks_more (s : St) (l : List B8) (q n : Nat) : blocks (blocks s l q) (l.drop (64 * q)) n = blocks s l (q + n) := by
  induction n with
  | zero => rfl
  | succ n ih =>
    rw [blocks_succ, ih, ← Nat.add_assoc, blocks_succ, List.drop_drop]
    congr 3
    omega
theorem blocks_prefix (s : St) (l b : List B8) (q : Nat) (h : 64 * q ≤ l.length) : blocks s (l ++ b) q = blocks s l q := by
  induction q with
  | zero => rfl
  | succ q ih =>
    rw [blocks_succ, blocks_succ, ih (by omega), List.drop_append, List.take_append]
    have h1 : 64 * q - l.length = 0 := by omega
    have h2 : 64 - (l.drop (64 * q)).length = 0 := by rw [List.length_drop]; omega
    rw [h2, List.take_zero, List.append_nil]
theorem rest_append (l b : List B8) : restOf l ++ b = (l ++ b).drop (64 * (l.length / 64)) := by
  unfold restOf
  rw [List.drop_append_of_le_length (by omega)]
theorem st_write (l b : List B8) : blocks (stAfter l) (restOf l ++ b) ((restOf l ++ b).length / 64) = stAfter (l ++ b) := by
  have h : 64 * (l.length / 64) ≤ l.length := by omega
  unfold stAfter
  rw [← blocks_prefix init l b _ h, rest_append, blocks_more]
  congr 1
  rw [List.length_drop, List.length_append]
  omega
theorem rest_write (l b : List B8) : (restOf l ++ b).drop (64 * ((restOf l ++ b).length / 64)) = restOf (l ++ b) := by
  rw [rest_append, List.drop_drop]
  unfold restOf
  congr 1
  rw [List.length_drop, List.length_append]
  omega
theorem sha_eq (l : List B8) : sha l = digest (stAfter (l ++ pad l.length)) := rfl
end Sh
end Go.Proofs.YteekdhcffiaaaaaDoor
namespace Go.Proofs.YteekdhcffiaaaaaDoor
open Go Go.RowKit Sh Leaf

structure Oth (g : Nat) (w w' : World) : Prop where
  oth : ∀ b t cs, b ≠ g → ∀ {fr : Nat × Nat}, w.heap[b]? = some (.cells cs t fr) → w'.heap[b]? = some (.cells cs t fr)
  zero : ∀ v, w.cell? ⟨g, 0, none⟩ = some v → w'.cell? ⟨g, 0, none⟩ = some v
instance {g : Nat} {w w' : World} : CoeFun (Oth g w w') (fun _ => ∀ b t cs, b ≠ g → ∀ {fr : Nat × Nat}, w.heap[b]? = some (.cells cs t fr) → w'.heap[b]? = some (.cells cs t fr)) := ⟨Oth.oth⟩
theorem lt_of_heap {w : World} {b : Nat} {o : Obj} (h : w.heap[b]? = some o) : b < w.heap.size := (Array.getElem?_eq_some_iff.1 h).1
theorem lt_of_cell {w : World} {b i : Nat} {v : Value} (h : w.cell? ⟨b, i, none⟩ = some v) : b < w.heap.size := World.block_lt_of_cell? w _ h
theorem Oth.trans {g : Nat} {a b c : World} (h : Oth g a b) (k : Oth g b c) : Oth g a c := ⟨fun x t cs hx _ hw => k.oth x t cs hx (h.oth x t cs hx hw), fun v hv => k.zero v (h.zero v hv)⟩
theorem Oth.refl (g : Nat) (w : World) : Oth g w w := ⟨fun _ _ _ _ _ h => h, fun _ h => h⟩
theorem Oth.drew {g : Nat} {w w' : World} (h : Oth g w w') : Oth g w w'.drew := ⟨fun x t cs hx _ hw => h.oth x t cs hx hw, fun v hv => h.zero v hv⟩
theorem Oth.below (g : Nat) {B : Nat} {w w' : World} (h : Below B w w') (hB : w.heap.size ≤ B := by exact Nat.le_refl _) : Oth g w w' :=
  ⟨fun b _ _ _ _ hw => (h.block b (by have := lt_of_heap hw; omega)).trans hw, fun _ hv => (h.cell (p := ⟨g, 0, none⟩) (by have := lt_of_cell hv; show g < B; omega)).trans hv⟩
theorem Oth.alloc (g : Nat) (w : World) (o : Obj) : Oth g w (w.alloc o) := Oth.below g ((Below.refl w.heap.size w).alloc (Nat.le_refl _) o)
theorem Oth.cell {g : Nat} {w w' : World} (h : Oth g w w') {a : Addr} {v : Value} (ha : a.block ≠ g) (hv : w.cell? a = some v) : w'.cell? a = some v := by
  unfold World.cell? at hv ⊢
  cases hb : w.heap[a.block]? with
  | none => rw [hb] at hv; cases hv
  | some o =>
    cases o with
    | cells c t fr =>
      rw [hb] at hv
      rw [h.oth a.block t c ha hb]
      exact hv
    | _ => rw [hb] at hv; cases hv
end Go.Proofs.YteekdhcffiaaaaaDoor
namespace Go.Proofs.YteekdhcffiaaaaaDoor
open Go Go.RowKit Sh Leaf

def enc (n : Nat) : List B8 := if n < 128 then [BitVec.ofNat 8 n] else BitVec.ofNat 8 (n % 128 + 128) :: enc (n / 128)
termination_by n
decreasing_by omega
theorem enc_lt {n : Nat} (h : n < 128) : enc n = [BitVec.ofNat 8 n] := by rw [enc, if_pos h]
theorem enc_ge {n : Nat} (h : ¬ n < 128) : enc n = BitVec.ofNat 8 (n % 128 + 128) :: enc (n / 128) := by rw [enc, if_neg h]
theorem enc_pos (n : Nat) : 0 < (enc n).length := by
  by_cases h : n < 128
  · rw [enc_lt h]; simp
  · rw [enc_ge h]; simp
theorem enc_len (k : Nat) : ∀ n, n < 128 ^ (k + 1) → (enc n).length ≤ k + 1 := by
  induction k with
  | zero => intro n h; rw [enc_lt (by omega)]; simp
  | succ k ih =>
    intro n h
    by_cases h1 : n < 128
    · rw [enc_lt h1]; simp
    · rw [enc_ge h1]
      have : n / 128 < 128 ^ (k + 1) := by rw [Nat.pow_succ] at h; omega
      have := ih _ this
      simp; omega
theorem enc_len7 {n : Nat} (h : n ≤ 281474976710656) : (enc n).length ≤ 7 := enc_len 6 n (by omega)
def val : List B8 → Nat
  | [] => 0
  | x :: l => x.toNat % 128 + 128 * val l
theorem val_snoc (l : List B8) (x : B8) : val (l ++ [x]) = val l + 128 ^ l.length * (x.toNat % 128) := by
  induction l with
  | nil => simp [val]
  | cons y l ih => simp only [List.cons_append, val, ih, List.length_cons, Nat.pow_succ, Nat.mul_add]; rw [Nat.mul_comm (128 ^ l.length) 128, Nat.mul_assoc]; omega
theorem val_lt (l : List B8) : val l < 128 ^ l.length := by
  induction l with
  | nil => simp [val]
  | cons y l ih => simp only [val, List.length_cons, Nat.pow_succ]; omega

def lead : Nat → List B8 → Nat
  | 0, _ => 0
  | _, [] => 0
  | k + 1, x :: l => if 128 ≤ x.toNat then lead k l + 1 else 0
theorem lead_le : ∀ (m : Nat) (l : List B8), lead m l ≤ m ∧ lead m l ≤ l.length
  | 0, l => by simp [lead]
  | m + 1, [] => by simp [lead]
  | m + 1, x :: l => by
    have := lead_le m l
    simp only [lead, List.length_cons]
    split <;> omega
theorem lead_of : ∀ (m : Nat) (l : List B8) (k : Nat), k ≤ m → k ≤ l.length → (∀ j (h : j < l.length), j < k → 128 ≤ l[j].toNat) → (k < m → ∀ h : k < l.length, l[k].toNat < 128) → lead m l = k
  | 0, l, k, h, _, _, _ => by simp [lead]; omega
  | m + 1, [], k, _, h, _, _ => by simp at h; simp [lead, h]
  | m + 1, x :: l, 0, _, _, _, h => by
    have := h (by omega) (by simp)
    simp at this
    simp [lead]; omega
  | m + 1, x :: l, k + 1, h1, h2, h3, h4 => by
    have h0 := h3 0 (by simp) (by omega)
    simp at h0
    simp only [lead, if_pos h0]
    rw [lead_of m l k (by omega) (by simpa using h2) (fun j hj hk => by have := h3 (j + 1) (by simpa using hj) (by omega); rwa [List.getElem_cons_succ] at this) (fun hk hl => by have := h4 (by omega) (by simpa using hl); rwa [List.getElem_cons_succ] at this)]
theorem lead_ge : ∀ (m : Nat) (l : List B8) (j : Nat) (h : j < l.length), j < lead m l → 128 ≤ l[j].toNat
  | 0, l, j, h, hj => by simp [lead] at hj
  | m + 1, [], j, h, hj => by simp [lead] at hj
  | m + 1, x :: l, j, h, hj => by
    simp only [lead] at hj
    split at hj
    · cases j with
      | zero => simpa
      | succ j => simpa using lead_ge m l j (by simpa using h) (by omega)
    · omega
theorem lead_stop : ∀ (m : Nat) (l : List B8) (h : lead m l < l.length), lead m l < m → l[lead m l].toNat < 128
  | 0, l, h, hj => by simp [lead] at hj
  | m + 1, [], h, hj => by simp [lead] at h
  | m + 1, x :: l, h, hj => by
    by_cases hx : 128 ≤ x.toNat
    · have e : lead (m + 1) (x :: l) = lead m l + 1 := by simp [lead, hx]
      have := lead_stop m l (by rw [e] at h; simpa using h) (by rw [e] at hj; omega)
      simp only [e]
      simpa using this
    · have e : lead (m + 1) (x :: l) = 0 := by simp [lead, hx]
      simp only [e]
      simp; omega

def rd (l : List B8) : Nat × Nat × Nat :=
  if lead 7 l = 7 then (0, 0, 5)
  else if lead 7 l = l.length then (0, 0, 3)
  else if 0 < lead 7 l ∧ (l.getD (lead 7 l) 0).toNat = 0 then (0, 0, 5)
  else if 281474976710656 < val (l.take (lead 7 l + 1)) then (0, 0, 1)
  else (val (l.take (lead 7 l + 1)), lead 7 l + 1, 0)
theorem rd_form7 {l : List B8} {k : Nat} (h : lead 7 l = k) (h7 : k = 7) : rd l = (0, 0, 5) := by unfold rd; rw [h, if_pos h7]
theorem rd_short {l : List B8} {k : Nat} (h : lead 7 l = k) (h7 : k ≠ 7) (hl : k = l.length) : rd l = (0, 0, 3) := by unfold rd; rw [h, if_neg h7, if_pos hl]
theorem rd_form0 {l : List B8} {k : Nat} (h : lead 7 l = k) (h7 : k ≠ 7) (hl : k < l.length) (h0 : 0 < k) (hx : l[k].toNat = 0) : rd l = (0, 0, 5) := by
  unfold rd
  rw [h, if_neg h7, if_neg (by omega), if_pos ⟨h0, by simpa [List.getD_eq_getElem?_getD, hl] using hx⟩]
theorem rd_range {l : List B8} {k : Nat} (h : lead 7 l = k) (h7 : k ≠ 7) (hl : k < l.length) (hx : ¬ (0 < k ∧ l[k].toNat = 0)) (hv : 281474976710656 < val (l.take (k + 1))) : rd l = (0, 0, 1) := by
  unfold rd
  rw [h, if_neg h7, if_neg (by omega), if_neg (by simpa [List.getD_eq_getElem?_getD, hl] using hx), if_pos hv]
theorem rd_ok {l : List B8} {k : Nat} (h : lead 7 l = k) (h7 : k ≠ 7) (hl : k < l.length) (hx : ¬ (0 < k ∧ l[k].toNat = 0)) (hv : ¬ 281474976710656 < val (l.take (k + 1))) : rd l = (val (l.take (k + 1)), k + 1, 0) := by
  unfold rd
  rw [h, if_neg h7, if_neg (by omega), if_neg (by simpa [List.getD_eq_getElem?_getD, hl] using hx), if_neg hv]
theorem take_snoc {l : List B8} {k : Nat} (hl : k < l.length) : l.take (k + 1) = l.take k ++ [l[k]] := by rw [List.take_add_one, List.getElem?_eq_getElem hl]; rfl
theorem val_take {l : List B8} {k : Nat} (hl : k < l.length) : val (l.take (k + 1)) = val (l.take k) + 128 ^ k * (l[k].toNat % 128) := by
  rw [take_snoc hl, val_snoc, List.length_take, Nat.min_eq_left (by omega)]
theorem val_take_lt (l : List B8) (k : Nat) : val (l.take k) < 128 ^ k := by
  have h := val_lt (l.take k)
  refine Nat.lt_of_lt_of_le h (Nat.pow_le_pow_right (by omega) (by simp; omega))

theorem val_enc : ∀ n : Nat, val (enc n) = n := by
  intro n
  induction n using Nat.strongRecOn with
  | _ n ih =>
    by_cases h : n < 128
    · rw [enc_lt h]; simp [val]; omega
    · rw [enc_ge h]
      simp only [val]
      rw [ih (n / 128) (by omega)]
      simp; omega
theorem enc_get : ∀ (n : Nat) (j : Nat) (h : j < (enc n).length), (j + 1 < (enc n).length → 128 ≤ (enc n)[j].toNat) ∧ (j + 1 = (enc n).length → (enc n)[j].toNat < 128 ∧ (0 < j → (enc n)[j].toNat ≠ 0)) := by
  intro n
  induction n using Nat.strongRecOn with
  | _ n ih =>
    intro j h
    by_cases hn : n < 128
    · simp only [enc_lt hn] at h ⊢
      have : j = 0 := by simpa using h
      subst this
      simp; omega
    · simp only [enc_ge hn] at h ⊢
      cases j with
      | zero =>
        have := enc_pos (n / 128)
        refine ⟨fun _ => by simp; omega, fun h => ?_⟩
        simp only [List.length_cons] at h
        omega
      | succ j =>
        have hj : j < (enc (n / 128)).length := by simpa using h
        have := ih (n / 128) (by omega) j hj
        simp only [List.length_cons, List.getElem_cons_succ]
        refine ⟨fun h => this.1 (by omega), fun h => ⟨(this.2 (by omega)).1, fun _ => ?_⟩⟩
        by_cases hj0 : 0 < j
        · exact (this.2 (by omega)).2 hj0
        · have hj1 : j = 0 := by omega
          subst hj1
          have hl : (enc (n / 128)).length = 1 := by omega
          by_cases hm : n / 128 < 128
          · simp only [enc_lt hm]; simp; omega
          · rw [enc_ge hm] at hl
            have := enc_pos (n / 128 / 128)
            simp at hl; simp [hl] at this
theorem rd_enc (n : Nat) (hn : n ≤ 281474976710656) (t : List B8) : rd (enc n ++ t) = (n, (enc n).length, 0) := by
  have hp := enc_pos n
  have h7 := enc_len7 hn
  have hg : ∀ j (h : j < (enc n).length), (enc n ++ t)[j]'(by simp; omega) = (enc n)[j] := fun j h => List.getElem_append_left h
  have hlead : lead 7 (enc n ++ t) = (enc n).length - 1 := by
    refine lead_of _ _ _ (by omega) (by simp; omega) (fun j h hj => ?_) (fun _ h => ?_)
    · rw [hg j (by omega)]; exact (enc_get n j (by omega)).1 (by omega)
    · rw [hg _ (by omega)]; exact ((enc_get n _ (by omega)).2 (by omega)).1
  have ht : (enc n ++ t).take ((enc n).length - 1 + 1) = enc n := by rw [Nat.sub_add_cancel hp]; exact List.take_left
  rw [rd_ok hlead (by omega) (by simp; omega) (fun h => ?_) (by rw [ht, val_enc]; omega), ht, val_enc, Nat.sub_add_cancel hp]
  rw [hg _ (by omega)] at h
  exact ((enc_get n _ (by omega)).2 (by omega)).2 h.1 h.2
theorem enc_val : ∀ (l : List B8) (x : B8), (∀ y ∈ l, 128 ≤ y.toNat) → x.toNat < 128 → (0 < l.length → x.toNat ≠ 0) → enc (val (l ++ [x])) = l ++ [x]
  | [], x, _, hx, _ => by
    simp only [List.nil_append, val]
    rw [enc_lt (by omega), Nat.mod_eq_of_lt hx]
    simp
  | y :: l, x, h, hx, h0 => by
    have hy := h y (by simp)
    have hlt := y.isLt
    have hpos : 0 < val (l ++ [x]) := by
      rw [val_snoc, Nat.mod_eq_of_lt hx]
      have : 0 < 128 ^ l.length * x.toNat := Nat.mul_pos (Nat.pow_pos (by omega)) (by have := h0 (by simp); omega)
      omega
    have ih := enc_val l x (fun z hz => h z (by simp [hz])) hx (fun _ => h0 (by simp))
    simp only [List.cons_append, val]
    rw [enc_ge (by omega)]
    have e1 : (y.toNat % 128 + 128 * val (l ++ [x])) / 128 = val (l ++ [x]) := by omega
    have e2 : BitVec.ofNat 8 ((y.toNat % 128 + 128 * val (l ++ [x])) % 128 + 128) = y := by
      apply BitVec.eq_of_toNat_eq
      rw [BitVec.toNat_ofNat]
      omega
    rw [e1, e2, ih]
theorem rd_unique {l : List B8} {n k : Nat} (h : rd l = (n, k, 0)) : k ≤ l.length ∧ n ≤ 281474976710656 ∧ enc n = l.take k := by
  have hle := lead_le 7 l
  unfold rd at h
  split at h
  · simp at h
  split at h
  · simp at h
  split at h
  · simp at h
  split at h
  · simp at h
  rename_i h7 hl hx hv
  simp only [Prod.mk.injEq, and_true] at h
  obtain ⟨rfl, rfl⟩ := h
  have hlt : lead 7 l < l.length := by omega
  refine ⟨by omega, by omega, ?_⟩
  rw [take_snoc hlt]
  refine enc_val _ _ (fun y hy => ?_) (lead_stop 7 l hlt (by omega)) (fun h0 hz => hx ⟨?_, ?_⟩)
  · obtain ⟨j, hj, rfl⟩ := List.getElem_of_mem hy
    rw [List.getElem_take]
    exact lead_ge 7 l j (by simp at hj; omega) (by simp at hj; omega)
  · simp at h0; omega
  · simpa [List.getD_eq_getElem?_getD, hlt] using hz
theorem rd_err {l : List B8} {n k e : Nat} (h : rd l = (n, k, e)) (he : e ≠ 0) : n = 0 ∧ k = 0 := by
  unfold rd at h
  (repeat' split at h) <;> simp at h <;> omega
end Go.Proofs.YteekdhcffiaaaaaDoor
namespace Go.Proofs.YteekdhcffiaaaaaDoor
open Go Go.RowKit Sh Leaf
namespace Sh

def nmok (s : List B8) : Prop := 1 ≤ s.length ∧ s.length ≤ 16 ∧ ∀ c ∈ s, 97 ≤ c.toNat ∧ c.toNat ≤ 122
instance (s : List B8) : Decidable (nmok s) := by unfold nmok; infer_instance
def be8 (m : Nat) : List B8 := [BitVec.ofNat 8 (m / 2 ^ 56), BitVec.ofNat 8 (m / 2 ^ 48), BitVec.ofNat 8 (m / 2 ^ 40), BitVec.ofNat 8 (m / 2 ^ 32), BitVec.ofNat 8 (m / 2 ^ 24), BitVec.ofNat 8 (m / 2 ^ 16), BitVec.ofNat 8 (m / 2 ^ 8), BitVec.ofNat 8 m]
def beval (l : List B8) : Nat := l.foldl (fun a c => 256 * a + c.toNat) 0
theorem be8_length (m : Nat) : (be8 m).length = 8 := rfl
theorem beval_snoc (l : List B8) (x : B8) : beval (l ++ [x]) = 256 * beval l + x.toNat := by simp [beval]
theorem beval_be8 {m : Nat} (h : m < 2 ^ 64) : beval (be8 m) = m := by
  simp only [beval, be8, List.foldl_cons, List.foldl_nil, BitVec.toNat_ofNat]
  omega
theorem beval_lt : ∀ l : List B8, l.length ≤ 8 → beval l < 2 ^ 64
  | [], _ => by simp [beval]
  | [a], _ => by have := a.isLt; simp [beval]; omega
  | [a, b], _ => by have := a.isLt; have := b.isLt; simp [beval]; omega
  | [a, b, c], _ => by have := a.isLt; have := b.isLt; have := c.isLt; simp [beval]; omega
  | [a, b, c, d], _ => by have := a.isLt; have := b.isLt; have := c.isLt; have := d.isLt; simp [beval]; omega
  | [a, b, c, d, e], _ => by have := a.isLt; have := b.isLt; have := c.isLt; have := d.isLt; have := e.isLt; simp [beval]; omega
  | [a, b, c, d, e, f], _ => by have := a.isLt; have := b.isLt; have := c.isLt; have := d.isLt; have := e.isLt; have := f.isLt; simp [beval]; omega
  | [a, b, c, d, e, f, g], _ => by have := a.isLt; have := b.isLt; have := c.isLt; have := d.isLt; have := e.isLt; have := f.isLt; have := g.isLt; simp [beval]; omega
  | [a, b, c, d, e, f, g, h], _ => by have := a.isLt; have := b.isLt; have := c.isLt; have := d.isLt; have := e.isLt; have := f.isLt; have := g.isLt; have := h.isLt; simp [beval]; omega
  | _ :: _ :: _ :: _ :: _ :: _ :: _ :: _ :: _ :: _, h => by simp at h
theorem be8_beval (l : List B8) (h : l.length = 8) : be8 (beval l) = l := by
  match l, h with
  | [a, b, c, d, e, f, g, i], _ =>
    have h1 := a.isLt; have h2 := b.isLt; have h3 := c.isLt; have h4 := d.isLt; have h5 := e.isLt; have h6 := f.isLt; have h7 := g.isLt; have h8 := i.isLt
    have hv : beval [a, b, c, d, e, f, g, i] = a.toNat * 2 ^ 56 + b.toNat * 2 ^ 48 + c.toNat * 2 ^ 40 + d.toNat * 2 ^ 32 + e.toNat * 2 ^ 24 + f.toNat * 2 ^ 16 + g.toNat * 2 ^ 8 + i.toNat := by
      simp only [beval, List.foldl_cons, List.foldl_nil]; omega
    have key : ∀ (x : B8) (y : Nat), y % 256 = x.toNat → BitVec.ofNat 8 y = x := fun x y e => by
      apply BitVec.eq_of_toNat_eq
      rw [BitVec.toNat_ofNat]; exact e
    unfold be8
    rw [hv, key a _ (by omega), key b _ (by omega), key c _ (by omega), key d _ (by omega), key e _ (by omega), key f _ (by omega), key g _ (by omega), key i _ (by omega)]
theorem be8_take_succ (m : Nat) {k : Nat} (h : k < 8) : (be8 m).take (k + 1) = (be8 m).take k ++ [BitVec.ofNat 8 (m / 2 ^ (56 - 8 * k))] := by
  match k, h with
  | 0, _ => rfl
  | 1, _ => rfl
  | 2, _ => rfl
  | 3, _ => rfl
  | 4, _ => rfl
  | 5, _ => rfl
  | 6, _ => rfl
  | 7, _ => simp [be8]
end Sh
end Go.Proofs.YteekdhcffiaaaaaDoor
namespace Go.Proofs.YteekdhcffiaaaaaDoor
open Go Go.RowKit Sh Leaf

structure Psn where
  name : List B8
  born : Int
deriving DecidableEq
def pfind (l : List Psn) (n : List B8) : Option Psn := l.find? fun x => decide (x.name = n)
def age (born minute : Int) : Int := if 0 ≤ minute ∧ minute ≤ 67108864 ∧ -67108864 ≤ born ∧ born ≤ minute then min ((minute - born) / 525600) 150 else 0
end Go.Proofs.YteekdhcffiaaaaaDoor
