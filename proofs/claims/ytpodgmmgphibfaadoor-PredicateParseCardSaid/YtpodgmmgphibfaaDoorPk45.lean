/-
  The reference's Cut and Digits.
-/
import Derived.Deep.QuietTactic
import Derived.Test.YtpodgmmgphibfaaDoorPk0
import Derived.Test.YtpodgmmgphibfaaDoorPk3
import Derived.Test.YtpodgmmgphibfaaDoorPk1
namespace Go.Proofs.YtpodgmmgphibfaaDoor
open Go Go.RowKit Sh Leaf

theorem take_at {s : List B8} {k : Nat} (hk : k < s.length) : s = s.take k ++ s.getD k 0 :: s.drop (k + 1) := by
  have h1 : s.drop k = s.getD k 0 :: s.drop (k + 1) := by
    rw [List.drop_eq_getElem_cons hk, List.getD_eq_getElem?_getD, List.getElem?_eq_getElem hk]; rfl
  rw [← h1, List.take_append_drop]
theorem take_next {s : List B8} {k : Nat} (hk : k < s.length) : s.take (k + 1) = s.take k ++ [s.getD k 0] := by
  rw [List.take_add_one, List.getD_eq_getElem?_getD, List.getElem?_eq_getElem hk]; rfl
set_option maxRecDepth 100000 in
set_option maxHeartbeats 1000000 in
theorem rcut (s : List B8) (c : B8) (z : Int) (hz : z = bv c) (hs : s.length ≤ 100000) (w : World) :
    Calls Tryd.prog 44 #[.string (sof s), .int .u8 z] w fun e w' => e = .returned (.tuple #[.string (sof (cut1 c s).1), .string (sof (cut1 c s).2.1), .bool (cut1 c s).2.2]) ∧ Below w.heap.size w w' := by
  subst hz
  have hsz := sof_size s
  have hg : ∀ W (k : Nat), k < s.length → (Instr.index 9 (.string (sof s)) (.int .i64 (k : Int))).run Tryd.prog W = .ok (byt (s.getD k 0)) W := fun W k hk => run_index_sof W 9 s .i64 _ k Tryd.underlying9 rfl hk
  have h0 : sof [] = { data := #[] } := by unfold sof; rfl
  go_enter Tryd.func44, Tryd.ntmps44
  go_wp2_with fail
  go_loopw [7] (fun vi wr => ∃ k : Nat, k ≤ s.length ∧ vi = .int .i64 (k : Int) ∧ Hid (c ∉ s.take k) ∧ w = wr) (fun vi _ => s.length - (intOf vi).toNat)
  case atStart => exact ⟨0, by omega, rfl, Lib.hid (by simp), rfl⟩
  case round =>
    obtain ⟨k, hk, rfl, hno, rfl⟩ := hrel
    by_cases hl : k = s.length
    · subst hl
      have HC : Hid (cut1 c s = (s, [], false)) := Lib.hid (by have := hno.out; rw [List.take_length] at this; exact cut1_none s this)
      clear hg hno
      go_wp2
      go_ret3
      exact ⟨by rw [HC.out, h0]; rfl, Below.refl _ _⟩
    · have hlt : k < s.length := by omega
      have hlt' : (k : Int) < (s.length : Int) := by omega
      have hx := hg w k hlt
      by_cases hc : s.getD k 0 = c
      · have HC : Hid (cut1 c s = (s.take k, s.drop (k + 1), true)) := Lib.hid (by
          have h := take_at hlt
          rw [hc] at h
          have h2 := cut1_at (c := c) (s.take k) (s.drop (k + 1)) hno.out
          rw [← h] at h2
          exact h2)
        rw [hc] at hx
        have ht := fun W => to_sof s (k : Int) k rfl hk W
        have hf := fun W => from_sof s ((k : Int) + 1) (k + 1) (by omega) (by omega) W
        clear hg hno hl hc
        go_wp2_with fail
        go_region
        all_goals
          go_wp2
          go_ret3
          exact ⟨by rw [HC.out]; rfl, (Below.refl _ _).drew⟩
      · have HN : Hid (c ∉ s.take (k + 1)) := Lib.hid (by
          rw [take_next hlt]
          simp only [List.mem_append, List.mem_singleton]
          rintro (h | h)
          · exact hno.out h
          · exact hc h.symm)
        have hne : ¬ bv (s.getD k 0) = bv c := fun h => hc (bv_inj h)
        generalize s.getD k 0 = x at hx hne hc
        clear hg hno hl hc
        go_wp2_with fail
        go_roundw
        case rel => exact ⟨k + 1, by omega, by go_num, HN, by first | rfl | trivial⟩
        case measure => simp [intOf]; omega
end Go.Proofs.YtpodgmmgphibfaaDoor
