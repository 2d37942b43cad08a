/-
  Strings as lists of bytes: length, index, parts, sums, comparison.
  The reference's Name, by its contract.
-/
import Derived.Laws.DeepStrings4
import Derived.Laws.Concat
import Derived.Test.YtiikhjifjdpgdaaDoorPk3
import Derived.Test.YtiikhjifjdpgdaaDoorPk0
namespace Go.Proofs.YtiikhjifjdpgdaaDoor
open Go Go.RowKit Sh Leaf

/-- The bytes of a string. -/
def sbytes (s : ByteArray) : List B8 := s.data.toList.map UInt8.toBitVec
theorem sbytes_length (s : ByteArray) : (sbytes s).length = s.size := by simp [sbytes]
/-- The string of the bytes l. -/
@[irreducible] def sof (l : List B8) : ByteArray := ⟨(l.map UInt8.ofBitVec).toArray⟩
theorem sof_size (l : List B8) : (sof l).size = l.length := by unfold sof; simp [ByteArray.size]
theorem sof_bytes (s : ByteArray) : sof (sbytes s) = s := by
  unfold sof sbytes
  apply ByteArray.ext
  simp [List.map_map, Function.comp_def]
theorem sbytes_sof (l : List B8) : sbytes (sof l) = l := by
  unfold sof sbytes
  simp [List.map_map, Function.comp_def]
theorem str_sof (s : ByteArray) : ∃ l : List B8, s = sof l ∧ l.length = s.size := ⟨sbytes s, (sof_bytes s).symm, sbytes_length s⟩
theorem sof_inj {a b : List B8} (h : sof a = sof b) : a = b := by rw [← sbytes_sof a, h, sbytes_sof]
theorem sof_toList (l : List B8) : (sof l).toList = l.map UInt8.ofBitVec := by rw [ByteArray.toList_eq]; unfold sof; simp
theorem sof_beq (a b : List B8) : ((sof a).toList == (sof b).toList) = decide (a = b) := by
  rw [sof_toList, sof_toList]
  by_cases h : a = b
  · subst h; simp
  · have : ¬ a.map UInt8.ofBitVec = b.map UInt8.ofBitVec := fun e => h (by
      have := congrArg (List.map UInt8.toBitVec) e
      simpa [List.map_map, Function.comp_def] using this)
    rw [decide_eq_false h]
    simpa using this
theorem sof_self (a : List B8) : ((sof a).toList == (sof a).toList) = true := by rw [sof_beq]; simp
theorem sof_append (a b : List B8) : sof a ++ sof b = sof (a ++ b) := by
  unfold sof; rw [ByteArray.mk_append_mk, List.map_append]
theorem sof_extract (l : List B8) (a b : Nat) : (sof l).extract a b = sof ((l.drop a).take (b - a)) := by
  unfold sof; rw [ByteArray.extract_mk, ← List.map_drop, ← List.map_take]
theorem sof_to (l : List B8) (b : Nat) : (sof l).extract 0 b = sof (l.take b) := by rw [sof_extract]; simp
theorem sof_from (l : List B8) (a : Nat) : (sof l).extract a (sof l).size = sof (l.drop a) := by
  rw [sof_extract, sof_size, List.take_of_length_le (by simp)]
theorem sof_get (l : List B8) (k : Nat) (h : k < (sof l).size) : (((sof l)[k]'h).toNat : Int) = bv (l.getD k 0) := by
  have hk : k < l.length := by rwa [sof_size] at h
  have e : ((sof l)[k]'h) = UInt8.ofBitVec (l.getD k 0) := by
    have h1 : (sof l).data[k]? = some ((sof l)[k]'h) := by
      rw [Array.getElem?_eq_getElem h]; rfl
    have h2 : (sof l).data[k]? = some (UInt8.ofBitVec (l.getD k 0)) := by
      unfold sof
      simp [List.getD_eq_getElem?_getD, hk]
    rw [h2] at h1
    exact (Option.some.inj h1).symm
  rw [e]
  unfold bv
  rfl
/-- s[k] -/
theorem run_index_sof {P : Program} (w : World) (t : TypeId) (l : List B8) (q : IntKind) (z : Int) (k : Nat) (h : P.underlying t = some .string) (hz : z = (k : Int)) (hk : k < l.length) :
    (Instr.index t (.string (sof l)) (.int q z)).run P w = .ok (byt (l.getD k 0)) w := by
  subst hz
  have hi : 0 ≤ (k : Int) ∧ (k : Int) < ((sof l).size : Int) := ⟨by omega, by rw [sof_size]; omega⟩
  rw [run_index_string w t _ q _ h, dif_pos hi]
  have := sof_get l k (by rw [sof_size]; exact hk)
  simp only [Int.toNat_natCast]
  rw [this]
end Go.Proofs.YtiikhjifjdpgdaaDoor
namespace Go.Proofs.YtiikhjifjdpgdaaDoor
open Go Go.RowKit Sh Leaf

theorem nmok_bad {l : List B8} {k : Nat} (h : k < l.length) (hx : ¬ (97 ≤ (l.getD k 0).toNat ∧ (l.getD k 0).toNat ≤ 122)) : decide (nmok l) = false := by
  refine decide_eq_false fun hn => hx ?_
  rw [List.getD_eq_getElem?_getD, List.getElem?_eq_getElem h]
  exact hn.2.2 _ (List.getElem_mem h)
set_option maxHeartbeats 1000000 in
theorem name_ok (l : List B8) (w : World) (hl : l.length ≤ 9223372036854775807) :
    Calls Tryd.prog 80 #[.string (sof l)] w fun e w' => e = .returned (.bool (decide (nmok l))) ∧ w = w' := by
  have hsz := sof_size l
  by_cases h1 : l.length < 1
  · have hd : decide (nmok l) = false := decide_eq_false fun h => by have := h.1; omega
    have HD := Lib.hid hd
    clear hd
    go_enter Tryd.func80, Tryd.ntmps80
    go_wp2
    go_ret
    exact ⟨by rw [HD.out]; rfl, rfl⟩
  by_cases h2 : 16 < l.length
  · have hd : decide (nmok l) = false := decide_eq_false fun h => by have := h.2.1; omega
    have HD := Lib.hid hd
    clear hd
    go_enter Tryd.func80, Tryd.ntmps80
    go_wp2
    go_ret
    exact ⟨by rw [HD.out]; rfl, rfl⟩
  have hg : ∀ W (k : Nat), k < l.length → (Instr.index 9 (.string (sof l)) (.int .i64 (k : Int))).run Tryd.prog W = .ok (byt (l.getD k 0)) W := fun W k hk => run_index_sof W 9 l .i64 _ k Tryd.underlying9 rfl hk
  go_enter Tryd.func80, Tryd.ntmps80
  go_wp2
  go_loopw [3] (fun i wr => ∃ k : Nat, k ≤ l.length ∧ i = .int .i64 k ∧ (∀ j, j < k → 97 ≤ (l.getD j 0).toNat ∧ (l.getD j 0).toNat ≤ 122) ∧ w = wr) (fun i _ => l.length - (intOf i).toNat)
  case atStart => exact ⟨0, by omega, rfl, fun j h => by omega, rfl⟩
  case round =>
    obtain ⟨k, hk, rfl, hall, rfl⟩ := hrel
    have HA := Lib.hid hall
    clear hall
    by_cases hlt : k < l.length
    · have hix := fun W => hg W k hlt
      clear hg
      by_cases hlo : 97 ≤ (l.getD k 0).toNat
      · by_cases hhi : (l.getD k 0).toNat ≤ 122
        · have hn : ∀ j, j < k + 1 → 97 ≤ (l.getD j 0).toNat ∧ (l.getD j 0).toNat ≤ 122 := fun j hj => by
            by_cases e : j = k
            · subst e; exact ⟨hlo, hhi⟩
            · exact HA.out j (by omega)
          have HN := Lib.hid hn
          have h5 : (97 : Int) ≤ bv (l.getD k 0) := by rw [bv_toNat]; omega
          have h6 : bv (l.getD k 0) ≤ 122 := by rw [bv_toNat]; omega
          clear hn hlo hhi
          generalize l.getD k 0 = x at *
          go_wp2
          go_roundw
          case rel => exact ⟨k + 1, by omega, by go_num, HN.out, by first | rfl | trivial⟩
          case measure => simp [intOf]; omega
        · have HD := Lib.hid (nmok_bad hlt (fun h => hhi h.2))
          have h5 : (97 : Int) ≤ bv (l.getD k 0) := by rw [bv_toNat]; omega
          have h6 : (122 : Int) < bv (l.getD k 0) := by rw [bv_toNat]; omega
          clear hlo hhi
          generalize l.getD k 0 = x at *
          go_wp2
          go_ret
          exact ⟨by rw [HD.out]; rfl, rfl⟩
      · have HD := Lib.hid (nmok_bad hlt (fun h => hlo h.1))
        have h5 : bv (l.getD k 0) < 97 := by rw [bv_toNat]; omega
        clear hlo
        generalize l.getD k 0 = x at *
        go_wp2
        go_ret
        exact ⟨by rw [HD.out]; rfl, rfl⟩
    · have hd : decide (nmok l) = true := decide_eq_true ⟨by omega, by omega, fun c hc => by
        obtain ⟨j, hj, rfl⟩ := List.getElem_of_mem hc
        have := HA.out j (by omega)
        rw [List.getD_eq_getElem?_getD, List.getElem?_eq_getElem hj] at this
        exact this⟩
      have HD := Lib.hid hd
      clear hd hg
      go_wp2
      go_ret
      exact ⟨by rw [HD.out]; rfl, rfl⟩
end Go.Proofs.YtiikhjifjdpgdaaDoor
