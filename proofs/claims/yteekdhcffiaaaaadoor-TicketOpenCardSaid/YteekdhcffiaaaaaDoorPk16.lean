/-
  AlgSpec
-/
import Derived.Test.YteekdhcffiaaaaaDoorPk15
import Derived.Test.YteekdhcffiaaaaaDoorPk8
namespace Go.Proofs.YteekdhcffiaaaaaDoor
open Go Go.RowKit Sh Leaf
namespace Sh

def u64n (z : Int) : Nat := (z % 18446744073709551616).toNat
def sym (k : B8) (z : Int) : List B8 := ([115#8, 121#8, 109#8, 98#8, 111#8, 108#8] ++ [k] ++ be8 (u64n z)) ++ List.replicate 17 0#8
theorem sym_length (k : B8) (z : Int) : (sym k z).length = 32 := by unfold sym; simp [be8_length]
theorem u64n_lt (z : Int) : u64n z < 2 ^ 64 := by unfold u64n; omega
theorem sym_inj {k k' : B8} {z z' : Int} (h : sym k z = sym k' z') : k = k' ∧ u64n z = u64n z' := by
  unfold sym at h
  have h1 := List.append_cancel_right h
  have h2 : [k] ++ be8 (u64n z) = [k'] ++ be8 (u64n z') := by simpa [List.append_assoc] using h1
  injection h2 with h3 h4
  refine ⟨h3, ?_⟩
  have h4' : be8 (u64n z) = be8 (u64n z') := h4
  have h5 := congrArg beval h4'
  rwa [beval_be8 (u64n_lt z), beval_be8 (u64n_lt z')] at h5
abbrev ztag : List B8 := List.replicate 32 0
abbrev zalg : Alg := ⟨false, ztag, 0, [], []⟩
def fnd (l : List Me) (k m : List B8) : Option (List B8) := (l.find? fun e => decide (e.key = k ∧ e.msg = m)).map (·.tag)
def ntag (a : Alg) (k m : List B8) : List B8 := if a.free = true then sym 109#8 ((a.macs.length + 1 : Nat) : Int) else hmac k m
def aMac (a : Alg) (k m : List B8) : Alg × List B8 × Int :=
  if 4096 < m.length then (zalg, ztag, 2)
  else match fnd a.macs k m with
    | some t => (a, t, 0)
    | none => if 65536 ≤ a.macs.length then (zalg, ztag, 2) else ({ a with macs := a.macs ++ [⟨k, m, ntag a k m⟩] }, ntag a k m, 0)
def aLook (a : Alg) (k m : List B8) : List B8 × Bool :=
  if a.free = true then (match fnd a.macs k m with | some t => (t, true) | none => (ztag, false))
  else if 4096 < m.length then (ztag, false) else (hmac k m, true)
def frs : ByteArray := { data := #[102, 114, 101, 115, 104] }
def aKey (a : Alg) : Alg × List B8 × Int :=
  if 65536 ≤ a.fresh then (zalg, ztag, 2)
  else ({ a with fresh := a.fresh + 1 }, if a.free = true then sym 107#8 (a.fresh + 1) else (der a.seed frs (a.fresh + 1)).1, 0)
theorem frs_ok : LabOK frs := by
  refine ⟨by decide, by decide, fun j h => ?_⟩
  have hj : j < 5 := h
  rcases (by omega : j = 0 ∨ j = 1 ∨ j = 2 ∨ j = 3 ∨ j = 4) with rfl | rfl | rfl | rfl | rfl <;> (clear hj; revert h; decide)
theorem der_frs {K : List B8} {z : Int} (h0 : 0 ≤ z) (h1 : z ≤ 65536) : (der K frs z).2 = 0 ∧ der K frs z = (hmac K (purp frs z.toNat), 0) := by
  have : der K frs z = (hmac K (purp frs z.toNat), 0) := by
    unfold der
    rw [if_pos frs_ok, if_neg (by omega)]
  exact ⟨by rw [this], this⟩
theorem hmac_length (K m : List B8) : (hmac K m).length = 32 := sha_length _
theorem ntag_length (a : Alg) (k m : List B8) : (ntag a k m).length = 32 := by
  unfold ntag
  split
  · exact sym_length _ _
  · exact hmac_length _ _
end Sh
end Go.Proofs.YteekdhcffiaaaaaDoor
