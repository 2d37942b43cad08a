/-
  The reference's Decimal and word.
-/
import Derived.Test.YtpodgmmgphibfaaDoorPk0
import Derived.Test.YtpodgmmgphibfaaDoorPk3
import Derived.Test.YtpodgmmgphibfaaDoorPk1
namespace Go.Proofs.YtpodgmmgphibfaaDoor
open Go Go.RowKit Sh Leaf

theorem rword (k : Nat) (hk : k ≤ 7) (w : World) :
    Calls Tryd.prog 39 #[.int .i64 (k : Int)] w fun e w' => e = .returned (.string (sof (wd (k : Int)))) ∧ Below w.heap.size w w' := by
  have h0 : sof (wd 0) = { data := #[] } := by unfold sof; rfl
  have hb : ∀ o, Below w.heap.size w (w.alloc o) := fun o => (Below.refl w.heap.size w).alloc (Nat.le_refl _) o
  have HB := Lib.hid hb
  clear hb
  have key : ∀ (z : Int) (s : ByteArray), (z = 0 ∧ s = { data := #[] } ∨ z = 1 ∧ s = { data := #[122, 111, 110, 101] } ∨ z = 2 ∧ s = { data := #[108, 105, 110, 101] } ∨ z = 3 ∧ s = { data := #[100, 97, 121, 115] } ∨ z = 4 ∧ s = { data := #[116, 105, 109, 101] } ∨ z = 5 ∧ s = { data := #[100, 97, 105, 108, 121] } ∨ z = 6 ∧ s = { data := #[104, 111, 108, 100, 101, 114] } ∨ z = 7 ∧ s = { data := #[114, 105, 100, 101, 115] }) →
      Calls Tryd.prog 39 #[.int .i64 z] w fun e w' => e = .returned (.string s) ∧ Below w.heap.size w w' := by
    intro z s hz
    rcases hz with ⟨rfl, rfl⟩ | ⟨rfl, rfl⟩ | ⟨rfl, rfl⟩ | ⟨rfl, rfl⟩ | ⟨rfl, rfl⟩ | ⟨rfl, rfl⟩ | ⟨rfl, rfl⟩ | ⟨rfl, rfl⟩
    all_goals
      go_enter Tryd.func39, Tryd.ntmps39
      go_wp2
      go_ret
      exact ⟨rfl, HB.out _⟩
  refine key _ _ ?_
  rcases (by omega : k = 0 ∨ k = 1 ∨ k = 2 ∨ k = 3 ∨ k = 4 ∨ k = 5 ∨ k = 6 ∨ k = 7) with rfl | rfl | rfl | rfl | rfl | rfl | rfl | rfl
  · exact .inl ⟨rfl, h0⟩
  · exact .inr (.inl ⟨rfl, sof_zone⟩)
  · exact .inr (.inr (.inl ⟨rfl, sof_line⟩))
  · exact .inr (.inr (.inr (.inl ⟨rfl, sof_days⟩)))
  · exact .inr (.inr (.inr (.inr (.inl ⟨rfl, sof_time⟩))))
  · exact .inr (.inr (.inr (.inr (.inr (.inl ⟨rfl, sof_daily⟩)))))
  · exact .inr (.inr (.inr (.inr (.inr (.inr (.inl ⟨rfl, sof_holder⟩))))))
  · exact .inr (.inr (.inr (.inr (.inr (.inr (.inr ⟨rfl, sof_rides⟩))))))
theorem dcm_step (m : Nat) (S : List B8) (h : 0 < m) : dcm m ++ S = (if m / 10 = 0 then [] else dcm (m / 10)) ++ (BitVec.ofNat 8 (48 + m % 10) :: S) := by
  by_cases h1 : m < 10
  · rw [dcm_lt h1, if_pos (by omega), show m % 10 = m by omega]; rfl
  · rw [dcm_ge h1, if_neg (by omega)]; simp
theorem dcm_first (n : Nat) : (if n / 10 = 0 then [] else dcm (n / 10)) ++ [BitVec.ofNat 8 (48 + n % 10)] = dcm n := by
  by_cases h1 : n < 10
  · rw [dcm_lt h1, if_pos (by omega), show n % 10 = n by omega]; rfl
  · rw [dcm_ge h1, if_neg (by omega)]
set_option maxRecDepth 100000 in
set_option maxHeartbeats 1000000 in
theorem rdecimal (n : Nat) (hn : n ≤ 1000000000) (w : World) :
    Calls Tryd.prog 38 #[.int .i64 (n : Int)] w fun e w' => e = .returned (.string (sof (dcm n))) ∧ Below w.heap.size w w' := by
  have hneg : ¬ (n : Int) < 0 := by omega
  have hd : (dcm n).length ≤ 10 := Nat.le_trans (dcm_len 9 n (by omega)) (Nat.le_refl _)
  have hcv : ∀ (W : World) (m : Nat), (convert 37 9 (.slice (some ⟨W.heap.size, 0, none⟩) 1 1)).run Tryd.prog (W.alloc (.cells #[.int .u8 (48 + (m : Int) % 10)] 5)) = .ok (.string (sof [BitVec.ofNat 8 (48 + m % 10)])) (W.alloc (.cells #[.int .u8 (48 + (m : Int) % 10)] 5)) := fun W m =>
    conv_sof (bytes_one W _ _ (by rw [bv_lit (48 + m % 10) (by omega)]; omega))
  have h1 := hcv w n
  go_enter Tryd.func38, Tryd.ntmps38
  go_wp2_with fail
  have HD := Lib.hid hd
  clear h1 hd
  go_loopw [0, 3] (fun vn vs wr => ∃ (m : Nat) (S : List B8), vn = .int .i64 (m : Int) ∧ vs = .string (sof S) ∧ m ≤ 1000000000 ∧ Hid ((if m = 0 then [] else dcm m) ++ S = dcm n) ∧ Below w.heap.size w wr) (fun vn _ _ => (intOf vn).toNat)
  case atStart => exact ⟨n / 10, [BitVec.ofNat 8 (48 + n % 10)], by first | rfl | (simp; done) | go_num, rfl, by omega, Lib.hid (dcm_first n), (Below.refl w.heap.size w).alloc (Nat.le_refl _) _⟩
  case round =>
    obtain ⟨m, S, rfl, rfl, hm, hE, hb⟩ := hrel
    by_cases h0 : m = 0
    · subst h0
      have HF : Hid (S = dcm n) := Lib.hid (by have := hE.out; rw [if_pos rfl] at this; exact this)
      go_wp2
      go_ret
      exact ⟨by rw [← HF.out]; rfl, hb⟩
    · have hSl : S.length ≤ 10 := by have h1 := congrArg List.length hE.out; rw [List.length_append] at h1; have := HD.out; omega
      have hm0 : (m : Int) > 0 := by omega
      have hx := hcv wr m
      have ha := fun W => add_sof [BitVec.ofNat 8 (48 + m % 10)] S (by simp only [List.length_singleton]; omega) W
      have HE : Hid ((if m / 10 = 0 then [] else dcm (m / 10)) ++ ([BitVec.ofNat 8 (48 + m % 10)] ++ S) = dcm n) := Lib.hid (by have h1 := hE.out; rw [if_neg h0, dcm_step m S (by omega)] at h1; exact h1)
      have HB := Lib.hid (hb.alloc hb.size (.cells #[.int .u8 (48 + (m : Int) % 10)] 5))
      have hmd : (((m / 10 : Nat)) : Int) = (m : Int) / 10 := by simp
      generalize BitVec.ofNat 8 (48 + m % 10) = d at hx ha HE
      obtain ⟨S', hS'⟩ : ∃ S', S' = [d] ++ S := ⟨_, rfl⟩
      rw [← hS'] at ha HE
      clear hE hb h0 hS' hcv
      go_wp2_with fail
      go_roundw
      case rel => exact ⟨m / 10, S', by first | rfl | (rw [hmd]) | go_num, rfl, by omega, HE, HB.out⟩
      case measure => simp [intOf]; omega
end Go.Proofs.YtpodgmmgphibfaaDoor
