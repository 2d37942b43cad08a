/-
  Package hmac: isLabel; the reference's Name.
-/
import Derived.Test.YtbbpdcnmoabooaaDoorHmacLaw
namespace Go.Proofs.YtbbpdcnmoabooaaDoor
open Go Go.RowKit Sh Leaf

/-- A label: one to sixteen letters from a to z. -/
def LabOK (s : ByteArray) : Prop := 1 ≤ s.size ∧ s.size ≤ 16 ∧ ∀ j (h : j < s.size), 97 ≤ s[j].toNat ∧ s[j].toNat ≤ 122
instance (s : ByteArray) : Decidable (LabOK s) := by unfold LabOK; infer_instance

set_option maxHeartbeats 1000000 in
theorem is_label (s : ByteArray) (hs : s.size ≤ 1000000) (w : World) :
    Calls Tryd.prog 43 #[.string s] w fun e w' => e = .returned (.bool (decide (LabOK s))) ∧ w = w' := by
  by_cases h1 : s.size < 1
  · have hd : decide (LabOK s) = false := decide_eq_false fun h => by have := h.1; omega
    go_enter Tryd.func43, Tryd.ntmps43
    go_wp2
    go_ret
    exact ⟨by first | rfl | (rw [hd]; rfl), rfl⟩
  by_cases h2 : 16 < s.size
  · have hd : decide (LabOK s) = false := decide_eq_false fun h => by have := h.2.1; omega
    go_enter Tryd.func43, Tryd.ntmps43
    go_wp2
    go_ret
    exact ⟨by first | rfl | (rw [hd]; rfl), rfl⟩
  go_enter Tryd.func43, Tryd.ntmps43
  go_wp2
  go_loopw [14] (fun i wr => ∃ k : Nat, k ≤ s.size ∧ i = .int .i64 k ∧ (∀ j (h : j < s.size), j < k → 97 ≤ s[j].toNat ∧ s[j].toNat ≤ 122) ∧ w = wr) (fun i _ => s.size - (intOf i).toNat)
  case atStart => exact ⟨0, by omega, rfl, fun j _ h => by omega, rfl⟩
  case round =>
    obtain ⟨k, hk, rfl, hall, rfl⟩ := hrel
    have HA := Lib.hid hall
    clear hall
    by_cases hlt : k < s.size
    · by_cases hlo : 97 ≤ s[k].toNat
      · by_cases hhi : s[k].toNat ≤ 122
        · have h5 : (97 : Int) ≤ (s[k].toNat : Int) := by omega
          have h6 : (s[k].toNat : Int) ≤ 122 := by omega
          have hn : ∀ j (h : j < s.size), j < k + 1 → 97 ≤ s[j].toNat ∧ s[j].toNat ≤ 122 := fun j h hj => by
            by_cases e : j = k
            · subst e; exact ⟨hlo, hhi⟩
            · exact HA.out j h (by omega)
          have HN := Lib.hid hn
          clear hn hlo hhi
          go_wp2
          go_roundw
          case rel => exact ⟨k + 1, by omega, by go_num, HN.out, by first | rfl | trivial⟩
          case measure => simp [intOf]; omega
        · have h5 : (97 : Int) ≤ (s[k].toNat : Int) := by omega
          have h6 : (122 : Int) < (s[k].toNat : Int) := by omega
          have hd : decide (LabOK s) = false := decide_eq_false fun h => hhi (h.2.2 k hlt).2
          have HD := Lib.hid hd
          clear hd hlo hhi
          go_wp2
          go_ret
          exact ⟨by rw [HD.out]; rfl, rfl⟩
      · have h5 : (s[k].toNat : Int) < 97 := by omega
        have hd : decide (LabOK s) = false := decide_eq_false fun h => hlo (h.2.2 k hlt).1
        have HD := Lib.hid hd
        clear hd hlo
        go_wp2
        go_ret
        exact ⟨by rw [HD.out]; rfl, rfl⟩
    · have hd : decide (LabOK s) = true := decide_eq_true ⟨by omega, by omega, fun j h => HA.out j h (by omega)⟩
      have HD := Lib.hid hd
      clear hd
      go_wp2
      go_ret
      exact ⟨by rw [HD.out]; rfl, rfl⟩

set_option maxHeartbeats 1000000 in
theorem ref_name (s : ByteArray) (hs : s.size ≤ 1000000) (w : World) :
    Calls Tryd.prog 45 #[.string s] w fun e w' => e = .returned (.bool (decide (LabOK s))) ∧ w = w' := by
  by_cases h1 : s.size < 1
  · have hd : decide (LabOK s) = false := decide_eq_false fun h => by have := h.1; omega
    go_enter Tryd.func45, Tryd.ntmps45
    go_wp2
    go_ret
    exact ⟨by first | rfl | (rw [hd]; rfl), rfl⟩
  by_cases h2 : 16 < s.size
  · have hd : decide (LabOK s) = false := decide_eq_false fun h => by have := h.2.1; omega
    go_enter Tryd.func45, Tryd.ntmps45
    go_wp2
    go_ret
    exact ⟨by first | rfl | (rw [hd]; rfl), rfl⟩
  go_enter Tryd.func45, Tryd.ntmps45
  go_wp2
  go_loopw [3] (fun i wr => ∃ k : Nat, k ≤ s.size ∧ i = .int .i64 k ∧ (∀ j (h : j < s.size), j < k → 97 ≤ s[j].toNat ∧ s[j].toNat ≤ 122) ∧ w = wr) (fun i _ => s.size - (intOf i).toNat)
  case atStart => exact ⟨0, by omega, rfl, fun j _ h => by omega, rfl⟩
  case round =>
    obtain ⟨k, hk, rfl, hall, rfl⟩ := hrel
    have HA := Lib.hid hall
    clear hall
    by_cases hlt : k < s.size
    · by_cases hlo : 97 ≤ s[k].toNat
      · by_cases hhi : s[k].toNat ≤ 122
        · have h5 : (97 : Int) ≤ (s[k].toNat : Int) := by omega
          have h6 : (s[k].toNat : Int) ≤ 122 := by omega
          have hn : ∀ j (h : j < s.size), j < k + 1 → 97 ≤ s[j].toNat ∧ s[j].toNat ≤ 122 := fun j h hj => by
            by_cases e : j = k
            · subst e; exact ⟨hlo, hhi⟩
            · exact HA.out j h (by omega)
          have HN := Lib.hid hn
          clear hn hlo hhi
          go_wp2
          go_roundw
          case rel => exact ⟨k + 1, by omega, by go_num, HN.out, by first | rfl | trivial⟩
          case measure => simp [intOf]; omega
        · have h5 : (97 : Int) ≤ (s[k].toNat : Int) := by omega
          have h6 : (122 : Int) < (s[k].toNat : Int) := by omega
          have hd : decide (LabOK s) = false := decide_eq_false fun h => hhi (h.2.2 k hlt).2
          have HD := Lib.hid hd
          clear hd hlo hhi
          go_wp2
          go_ret
          exact ⟨by rw [HD.out]; rfl, rfl⟩
      · have h5 : (s[k].toNat : Int) < 97 := by omega
        have hd : decide (LabOK s) = false := decide_eq_false fun h => hlo (h.2.2 k hlt).1
        have HD := Lib.hid hd
        clear hd hlo
        go_wp2
        go_ret
        exact ⟨by rw [HD.out]; rfl, rfl⟩
    · have hd : decide (LabOK s) = true := decide_eq_true ⟨by omega, by omega, fun j h => HA.out j h (by omega)⟩
      have HD := Lib.hid hd
      clear hd
      go_wp2
      go_ret
      exact ⟨by rw [HD.out]; rfl, rfl⟩
end Go.Proofs.YtbbpdcnmoabooaaDoor
