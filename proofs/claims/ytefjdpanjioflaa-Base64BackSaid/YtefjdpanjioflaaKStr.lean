/-
  Strings as lists of bytes: length, index, parts, sums, comparison; a string of bytes in memory.
-/
import Derived.Test.YtefjdpanjioflaaKMark
import Derived.Laws.DeepStrings4
import Derived.Laws.Concat
namespace Go.Proofs.Ytefjdpanjioflaa
open Go Go.RowKit Sh Leaf

/-- The string of the bytes l. -/
@[irreducible] def sof (l : List B8) : ByteArray := ⟨(l.map UInt8.ofBitVec).toArray⟩
theorem sof_size (l : List B8) : (sof l).size = l.length := by unfold sof; simp [ByteArray.size]
theorem sof_bytes (s : ByteArray) : sof (sbytes s) = s := by
  unfold sof sbytes
  apply ByteArray.ext
  simp [List.map_map, Function.comp_def]
theorem sbytes_sof (l : List B8) : sbytes (sof l) = l := by
  unfold sof sbytes
  simp [List.map_map, Function.comp_def]
theorem str_sof (s : ByteArray) : ∃ l : List B8, s = sof l ∧ l.length = s.size := ⟨sbytes s, (sof_bytes s).symm, sbytes_length s⟩
theorem sof_inj {a b : List B8} (h : sof a = sof b) : a = b := by rw [← sbytes_sof a, h, sbytes_sof]
theorem sof_toList (l : List B8) : (sof l).toList = l.map UInt8.ofBitVec := by rw [ByteArray.toList_eq]; unfold sof; simp
theorem sof_beq (a b : List B8) : ((sof a).toList == (sof b).toList) = decide (a = b) := by
  rw [sof_toList, sof_toList]
  by_cases h : a = b
  · subst h; simp
  · have : ¬ a.map UInt8.ofBitVec = b.map UInt8.ofBitVec := fun e => h (by
      have := congrArg (List.map UInt8.toBitVec) e
      simpa [List.map_map, Function.comp_def] using this)
    rw [decide_eq_false h]
    simpa using this
theorem sof_self (a : List B8) : ((sof a).toList == (sof a).toList) = true := by rw [sof_beq]; simp
theorem sof_append (a b : List B8) : sof a ++ sof b = sof (a ++ b) := by
  unfold sof; rw [ByteArray.mk_append_mk, List.map_append]
theorem sof_extract (l : List B8) (a b : Nat) : (sof l).extract a b = sof ((l.drop a).take (b - a)) := by
  unfold sof; rw [ByteArray.extract_mk, ← List.map_drop, ← List.map_take]
theorem sof_to (l : List B8) (b : Nat) : (sof l).extract 0 b = sof (l.take b) := by rw [sof_extract]; simp
theorem sof_from (l : List B8) (a : Nat) : (sof l).extract a (sof l).size = sof (l.drop a) := by
  rw [sof_extract, sof_size, List.take_of_length_le (by simp)]
theorem sof_get (l : List B8) (k : Nat) (h : k < (sof l).size) : (((sof l)[k]'h).toNat : Int) = bv (l.getD k 0) := by
  have hk : k < l.length := by rwa [sof_size] at h
  have e : ((sof l)[k]'h) = UInt8.ofBitVec (l.getD k 0) := by
    have h1 : (sof l).data[k]? = some ((sof l)[k]'h) := by
      rw [Array.getElem?_eq_getElem h]; rfl
    have h2 : (sof l).data[k]? = some (UInt8.ofBitVec (l.getD k 0)) := by
      unfold sof
      simp [List.getD_eq_getElem?_getD, hk]
    rw [h2] at h1
    exact (Option.some.inj h1).symm
  rw [e]
  unfold bv
  rfl
/-- s[k] -/
theorem run_index_sof {P : Program} (w : World) (t : TypeId) (l : List B8) (q : IntKind) (z : Int) (k : Nat) (h : P.underlying t = some .string) (hz : z = (k : Int)) (hk : k < l.length) :
    (Instr.index t (.string (sof l)) (.int q z)).run P w = .ok (byt (l.getD k 0)) w := by
  subst hz
  have hi : 0 ≤ (k : Int) ∧ (k : Int) < ((sof l).size : Int) := ⟨by omega, by rw [sof_size]; omega⟩
  rw [run_index_string w t _ q _ h, dif_pos hi]
  have := sof_get l k (by rw [sof_size]; exact hk)
  simp only [Int.toNat_natCast]
  rw [this]
/-- string(b) -/
theorem run_str_of {P : Program} {w : World} {Q : Nat → Prop} (src dst e : TypeId) (hs : P.underlying src = some (.slice e)) (he : P.underlying e = some (.int .u8)) (hd : P.underlying dst = some .string)
    {v : Value} {l : List B8} (hr : Bytes w Q v l) : (convert src dst v).run P w = .ok (.string (sof l)) w := by
  obtain ⟨A, c, rfl, h1, h2, h3, h4⟩ := hr
  cases A with
  | none =>
    have h0 := h3 rfl
    have hl : l = [] := List.eq_nil_of_length_eq_zero (by omega)
    subst hl
    rw [run_convert_bytes_string w src dst e none _ _ hs he hd]
    have e0 : sof [] = ByteArray.empty := by unfold sof; rfl
    rw [e0]
    rfl
  | some ad =>
    have := run_convert_bytes_back (P := P) w src dst e ad c (l.map UInt8.ofBitVec) hs he hd (by
      intro j hj
      rw [List.length_map] at hj
      obtain ⟨g, o, hA, _, hcell⟩ := h4 (by omega)
      obtain rfl := Option.some.inj hA
      rw [Addr.add_mid, hcell j l[j] (List.getElem?_eq_getElem hj)]
      simp only [List.getElem_map, byt]
      unfold bv
      rfl)
    rw [List.length_map] at this
    rw [this]
    unfold sof
    rfl
theorem conv_sof {w : World} {Q : Nat → Prop} {v : Value} {l : List B8} (hr : Bytes w Q v l) : (convert 22 9 v).run Try.prog w = .ok (.string (sof l)) w :=
  run_str_of 22 9 5 Try.underlying22 Try.underlying5 Try.underlying9 hr
end Go.Proofs.Ytefjdpanjioflaa
