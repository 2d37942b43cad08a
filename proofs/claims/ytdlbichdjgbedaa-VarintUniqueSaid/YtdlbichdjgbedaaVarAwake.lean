/-
  The sanity check of layer 3.
-/
import Derived.Test.YtdlbichdjgbedaaVarRRead
import Derived.Test.YtdlbichdjgbedaaKSame
namespace Go.Proofs.Ytdlbichdjgbedaa
open Go Go.RowKit Sh Leaf

theorem byt_lit (n : Nat) (h : n < 256) : byt (BitVec.ofNat 8 n) = .int .u8 (n : Int) := by rw [byt, bv_lit n h]
theorem row_short : (#[Value.int .u8 128, Value.int .u8 0] : Array Value) = (([128, 0] : List B8).map byt).toArray := by
  simp [show (128 : B8) = BitVec.ofNat 8 128 by rfl, show (0 : B8) = BitVec.ofNat 8 0 by rfl, byt_lit]
theorem row_300 : (#[Value.int .u8 172, Value.int .u8 2] : Array Value) = (([172, 2] : List B8).map byt).toArray := by
  simp [show (172 : B8) = BitVec.ofNat 8 172 by rfl, show (2 : B8) = BitVec.ofNat 8 2 by rfl, byt_lit]
theorem enc_300 : enc 300 = [172, 2] := by rw [enc_ge (by decide), enc_lt (by decide)]; rfl
theorem rd_short2 : rd [128, 0] = (0, 0, 5) := by decide +kernel

set_option maxHeartbeats 1000000 in
theorem vawake (w : World) : Calls Try.prog 13 #[] w fun e w' => e = .returned (.bool true) ∧ Below w.heap.size w w' := by
  have HE := Lib.hid enc_300
  have HR := Lib.hid rd_short2
  go_enter Try.func13, Try.ntmps13
  go_wp2_with fail
  refine (append_ok _ [] (fun _ => True) 300 _ (Bytes.nil _ _) (by simp) (by omega)).mono ?_
  rintro e w1 ⟨v1, rfl, hown, hb1⟩
  rw [HE.out, List.nil_append] at hown
  go_wp2_with fail
  refine (read_ _ [128, 0] (fun _ => True) _ (lit_bytes w1 (0, 0) [128, 0] _ row_short (by simp))).mono ?_
  rintro e w2 ⟨rfl, hb2⟩
  rw [HR.out]
  have h12 := ((Below.refl w1.heap.size w1).alloc (Nat.le_refl _) (.cells #[Value.int .u8 128, Value.int .u8 0] 5)).trans (hb2.mono (by simp))
  have hq := hb1.trans (h12.mono hb1.size)
  have hbv := (Bytes.of_own hown).below h12 (Nat.le_refl _)
  clear hown h12 hb2 hb1
  go_wp2_with fail
  refine (same_ _ _ [172, 2] [172, 2] _ _ _ (hbv.alloc _) (lit_bytes w2 (0, 0) [172, 2] _ row_300 (by simp)) (by simp) (by simp)).mono ?_
  rintro e w3 ⟨rfl, hb3⟩
  rw [show decide (([172, 2] : List B8) = [172, 2]) = true by simp]
  have hs := hq.size
  have h13 := hq.trans ((((Below.refl w2.heap.size w2).alloc (Nat.le_refl _) (.cells #[Value.int .u8 172, Value.int .u8 2] 5)).trans (hb3.mono (by simp))).mono hs)
  go_wp2
  go_ret
  exact ⟨rfl, h13⟩
end Go.Proofs.Ytdlbichdjgbedaa
