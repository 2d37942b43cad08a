/-
  The reference's Digits.
-/
import Derived.Test.YtpodgmmgphibfaaDoorPk0
import Derived.Test.YtpodgmmgphibfaaDoorPk3
import Derived.Test.YtpodgmmgphibfaaDoorPk1
namespace Go.Proofs.YtpodgmmgphibfaaDoor
open Go Go.RowKit Sh Leaf

theorem dval_lt (l : List B8) (h : l.all isd = true) : dval l < 10 ^ l.length := by
  have key : ∀ r : List B8, r.reverse.all isd = true → dval r.reverse < 10 ^ r.length := by
    intro r
    induction r with
    | nil => intro _; decide
    | cons x r ih =>
      intro h
      rw [List.reverse_cons, List.all_append, Bool.and_eq_true] at h
      have h1 := ih h.1
      have h2 := isd_iff.1 (show isd x = true by simpa using h.2)
      rw [List.reverse_cons, dval_snoc, List.length_cons, Nat.pow_succ]
      omega
  have := key l.reverse (by rw [List.reverse_reverse]; exact h)
  rw [List.reverse_reverse, List.length_reverse] at this
  exact this
theorem take_sn {s : List B8} {k : Nat} (hk : k < s.length) : s.take (k + 1) = s.take k ++ [s.getD k 0] := by
  rw [List.take_add_one, List.getD_eq_getElem?_getD, List.getElem?_eq_getElem hk]; rfl
set_option maxRecDepth 100000 in
set_option maxHeartbeats 1000000 in
theorem rdigits (s : List B8) (hs : s.length ≤ 100000) (w : World) :
    Calls Tryd.prog 45 #[.string (sof s)] w fun e w' => e = .returned (.int .i64 (dg s)) ∧ Below w.heap.size w w' := by
  have hsz := sof_size s
  have hg : ∀ W (k : Nat), k < s.length → (Instr.index 9 (.string (sof s)) (.int .i64 (k : Int))).run Tryd.prog W = .ok (byt (s.getD k 0)) W := fun W k hk => run_index_sof W 9 s .i64 _ k Tryd.underlying9 rfl hk
  by_cases h0 : s = []
  · have HD : Hid (dg s = -1) := Lib.hid (by rw [h0]; rfl)
    have he : (sof s).toList.isEmpty = true := by rw [h0, sof_toList]; rfl
    clear hg hsz h0
    go_enter Tryd.func45, Tryd.ntmps45
    go_wp2
    go_ret
    exact ⟨by rw [HD.out]; rfl, Below.refl _ _⟩
  have he : (sof s).toList.isEmpty = false := by
    rw [sof_toList]
    cases s with
    | nil => exact absurd rfl h0
    | cons a l => rfl
  by_cases h15 : 15 < s.length
  · have HD : Hid (dg s = -1) := Lib.hid (by unfold dg; rw [if_pos (.inr h15)])
    have h15' : (s.length : Int) > 15 := by omega
    clear hg h0
    go_enter Tryd.func45, Tryd.ntmps45
    go_wp2
    go_ret
    exact ⟨by rw [HD.out]; rfl, Below.refl _ _⟩
  have h15' : ¬ (s.length : Int) > 15 := by omega
  have HS : Hid (dg s = if s.all isd = true then (dval s : Int) else -1) := Lib.hid (by unfold dg; rw [if_neg (by simp only [not_or]; exact ⟨h0, h15⟩)])
  clear h0
  go_enter Tryd.func45, Tryd.ntmps45
  go_wp2_with fail
  clear he h15'
  go_loopw [3, 4] (fun vn vi wr => ∃ k : Nat, k ≤ s.length ∧ vi = .int .i64 (k : Int) ∧ vn = .int .i64 ((dval (s.take k) : Nat) : Int) ∧ Hid ((s.take k).all isd = true) ∧ w = wr) (fun _ vi _ => s.length - (intOf vi).toNat)
  case atStart => exact ⟨0, by omega, rfl, rfl, Lib.hid rfl, rfl⟩
  case round =>
    obtain ⟨k, hk, rfl, rfl, hall, rfl⟩ := hrel
    by_cases hl : k = s.length
    · have HC : Hid (dg s = ((dval (s.take k) : Nat) : Int)) := Lib.hid (by have h1 := hall.out; rw [hl, List.take_length] at h1 ⊢; rw [HS.out, if_pos h1])
      have hlt' : ¬ (k : Int) < (s.length : Int) := by omega
      generalize dval (s.take k) = D at HC ⊢
      clear hg hall
      go_wp2
      go_ret
      exact ⟨by rw [HC.out]; rfl, Below.refl _ _⟩
    · have hlt : k < s.length := by omega
      have hlt' : (k : Int) < (s.length : Int) := by omega
      have hx := hg w k hlt
      have hsn := take_sn hlt
      have hmem : s.getD k 0 ∈ s := by rw [List.getD_eq_getElem?_getD, List.getElem?_eq_getElem hlt]; exact List.getElem_mem hlt
      have hb0 := bv_toNat (s.getD k 0)
      have hxl := bv_le (s.getD k 0)
      have hx0 := bv_nonneg (s.getD k 0)
      by_cases hd : isd (s.getD k 0) = true
      · have hd2 := isd_iff.1 hd
        have hdl := dval_lt _ hall.out
        have hp : (10 : Nat) ^ (s.take k).length ≤ 10 ^ 15 := Nat.pow_le_pow_right (by omega) (by rw [List.length_take]; omega)
        have HA : Hid ((s.take (k + 1)).all isd = true) := Lib.hid (by rw [hsn, List.all_append, hall.out, List.all_cons, hd]; rfl)
        have HV : Hid (dval (s.take (k + 1)) = 10 * dval (s.take k) + ((s.getD k 0).toNat - 48)) := Lib.hid (by rw [hsn, dval_snoc])
        generalize dval (s.take k) = D at hdl HV ⊢
        generalize s.getD k 0 = x at hx hb0 hxl hx0 hd2 HV
        have hDl : D < 1000000000000000 := by omega
        have h48 : ¬ bv x < 48 := by omega
        have h57 : ¬ bv x > 57 := by omega
        have hw0 : IntKind.u8.wrap (bv x - 48) = bv x - 48 := by rw [IntKind.wrap_u8]; omega
        have hN : 10 * (D : Int) + (bv x - 48) = ((dval (s.take (k + 1)) : Nat) : Int) := by rw [HV.out]; omega
        have HN := Lib.hid hN
        clear hg hall hl hsn hmem hd hp hdl hN hd2 hb0
        go_wp2_with fail
        go_roundw
        case rel => exact ⟨k + 1, by omega, by go_num, by rw [← HN.out], HA, by first | rfl | trivial⟩
        case measure => simp [intOf]; omega
      · have HC : Hid (dg s = -1) := Lib.hid (by rw [HS.out, if_neg (fun h => hd (List.all_eq_true.1 h _ hmem))])
        generalize dval (s.take k) = D
        generalize s.getD k 0 = x at hx hb0 hxl hx0 hd
        rw [isd_iff] at hd
        clear hg hall hl hsn hmem
        rcases (show bv x < 48 ∨ (¬ bv x < 48 ∧ bv x > 57) by omega) with h48 | ⟨h48, h57⟩
        all_goals
          clear hd hb0
          go_wp2
          go_ret
          exact ⟨by rw [HC.out]; rfl, Below.refl _ _⟩
end Go.Proofs.YtpodgmmgphibfaaDoor
