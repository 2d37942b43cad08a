/-
  Plain words for HMAC over bytes; small laws that the walks of package hmac want: copy of bytes into a row, a whole array as a slice.
-/
import Derived.Test.YtbbpdcnmoabooaaDoorShaStep
import Derived.Test.YtbbpdcnmoabooaaDoorShaDigest
import Derived.Laws.CopyOwn
namespace Go.Proofs.YtbbpdcnmoabooaaDoor
namespace Sh
open Go

/-- The key, or its digest where it is long. -/
def kb (key : List B8) : List B8 := if 64 < key.length then sha key else key
theorem sha_length (l : List B8) : (sha l).length = 32 := digest_length _
theorem kb_length (key : List B8) : (kb key).length ≤ 64 := by
  unfold kb
  split
  · rw [sha_length]; omega
  · omega
/-- A key as a block. -/
def ext (key : List B8) : List B8 := kb key ++ List.replicate (64 - (kb key).length) 0
theorem ext_length (key : List B8) : (ext key).length = 64 := by
  have := kb_length key
  simp [ext]; omega
def mask (k : List B8) (m : B8) : List B8 := k.map (· ^^^ m)
theorem mask_length (k : List B8) (m : B8) : (mask k m).length = k.length := by simp [mask]
def hmac (key msg : List B8) : List B8 := sha (mask (ext key) 92 ++ sha (mask (ext key) 54 ++ msg))

theorem ofInt_bv (x : B8) : BitVec.ofInt 8 (bv x) = x := by
  unfold bv; rw [BitVec.ofInt_natCast]; simp
theorem wrap_bv (x : B8) : IntKind.u8.wrap (bv x) = bv x := by
  have h1 := bv_nonneg x
  have h2 := bv_le x
  have e : ∀ z : Int, 0 ≤ z → z ≤ 255 → IntKind.u8.wrap z = z := fun z h1 h2 => by
    rw [IntKind.wrap_u8]; omega
  exact e _ h1 h2
theorem wrap_toNat8 (x : B8) : IntKind.u8.wrap (x.toNat : Int) = bv x := by have := wrap_bv x; unfold bv at this ⊢; exact this
theorem bits_xor_bv (x y : B8) : bits .xor .u8 (bv x) (bv y) = bv (x ^^^ y) := by
  show IntKind.u8.wrap ((BitVec.ofInt 8 (bv x) ^^^ BitVec.ofInt 8 (bv y)).toNat : Int) = _
  rw [ofInt_bv, ofInt_bv]; exact wrap_toNat8 _
theorem bits_or_bv (x y : B8) : bits .or .u8 (bv x) (bv y) = bv (x ||| y) := by
  show IntKind.u8.wrap ((BitVec.ofInt 8 (bv x) ||| BitVec.ofInt 8 (bv y)).toNat : Int) = _
  rw [ofInt_bv, ofInt_bv]; exact wrap_toNat8 _
end Sh
open Go Go.RowKit Sh Leaf

/-- A whole array as a slice. -/
theorem run_sliceAt_whole {P : Program} {t e : TypeId} {n : Nat} (ht : P.underlying t = some (.array n e)) (hc : (P.info? e).map (·.size) = some 1) (g : Nat) (W : World) :
    (Instr.sliceAt t (.pointer (some ⟨g, 0, none⟩)) none none none).run P W = .ok (.slice (some ⟨g, 0, none⟩) n n) W := by
  have ha : (⟨g, 0, none⟩ : Addr).add 0 = ⟨g, 0, none⟩ := by rw [Addr.add_mid]
  simp [Instr.sliceAt, run_underlying ht, Instr.sureAddr, Instr.sliceBounds, run_sizeOf_one hc, ha]

/-- A block of bytes, whole, as a slice. -/
theorem Whole.bytes {w : World} {g : Nat} {t : TypeId} {l : List B8} (h : Whole w g t (l.map byt).toArray) (hl : l.length ≤ 1000000) : Bytes w (fun b => b = g) (.slice (some ⟨g, 0, none⟩) l.length l.length) l :=
  ⟨some ⟨g, 0, none⟩, l.length, rfl, Nat.le_refl _, by unfold maxLen; omega, fun h => (by cases h), fun _ => ⟨g, 0, rfl, rfl, fun j x hj => by rw [h.cell, Nat.zero_add]; simp [hj]⟩⟩

/-- copy(row of the call's own, src), whatever src is. -/
theorem wpList_copy_bytes {w : World} {ops : Array Oper} {rest : List Oper} {o : Oper} {a : Act} {R : Exit → Act → World → Prop} (hgd : o.guard = none) (d s : Operand)
    (ho : o.op = .call { callee := .builtin .copy, args := #[d, s], argTypes := #[22, 22] })
    (g dLen dCap : Nat) (hd : a.eval d = .slice (some ⟨g, 0, none⟩) dLen dCap) (v2 : Value) (hs : a.eval s = v2) (Q : Nat → Prop) (ys : List B8) (hr : Bytes w Q v2 ys)
    (t : TypeId) (cur : List Value) (hg : Whole w g t cur.toArray) (hfit : ys.length ≤ dLen) (hsz : dLen ≤ cur.length)
    (h : ∀ w', Hid (Whole w' g t (ys.map byt ++ cur.drop ys.length).toArray) → Below g w w' → wpList Tryd.prog ops R rest (a.put o.dst (goInt ys.length)) w') : wpList Tryd.prog ops R (o :: rest) a w := by
  obtain ⟨A, c, rfl, hc1, hc2, hc3, hc4⟩ := hr
  have hcsl : (ys.map byt).length = ys.length := by simp
  refine wpList_copy_splice hgd d s 22 22 ho 5 Tryd.underlying22 (by kernel_rfl) (some ⟨g, 0, none⟩) A dLen dCap ys.length c hd hs g 0 cur t hg (ys.map byt) (by rw [hcsl]; exact (Nat.min_eq_left hfit).symm)
    ?_ (by rw [hcsl]; omega) (byt_one ys) g w (Below.refl _ _) (Nat.le_refl _) ?_
  · intro hp
    rw [hcsl] at hp
    obtain ⟨g', o', rfl, _, hcell⟩ := hc4 hp
    refine ⟨rfl, _, rfl, fun j v hj => ?_⟩
    rw [Addr.add_mid]
    rw [List.getElem?_map] at hj
    cases hx : ys[j]? with
    | none => rw [hx] at hj; cases hj
    | some x => rw [hx] at hj; injection hj with hj; subst hj; exact hcell j x hx
  · intro w' hg' hb'
    rw [hcsl]
    refine h w' (Lib.hid ?_) hb'
    have := hg'.out
    have e : splice cur 0 (ys.map byt) = ys.map byt ++ cur.drop ys.length := by simp [splice]
    rw [e] at this
    exact this
end Go.Proofs.YtbbpdcnmoabooaaDoor
