/-
  Encode of package base64 by its contract.
-/
import Derived.Test.YtefjdpanjioflaaB64Group
namespace Go.Proofs.Ytefjdpanjioflaa
open Go Go.RowKit Sh Leaf

abbrev alphaStr : ByteArray := { data := #[65, 66, 67, 68, 69, 70, 71, 72, 73, 74, 75, 76, 77, 78, 79, 80, 81, 82, 83, 84, 85, 86, 87, 88, 89, 90, 97, 98, 99, 100, 101, 102, 103, 104, 105, 106, 107, 108, 109, 110, 111, 112, 113, 114, 115, 116, 117, 118, 119, 120, 121, 122, 48, 49, 50, 51, 52, 53, 54, 55, 56, 57, 45, 95] }
theorem alpha_sof : alphaStr = sof alpha := by
  unfold sof alpha
  apply ByteArray.ext
  decide +kernel
/-- characters[x] -/
theorem alpha_index (W : World) (q : IntKind) (z : Int) (x : B8) (hz : z = (x.toNat : Int)) (hx : x.toNat < 64) : (Instr.index 9 (.string alphaStr) (.int q z)).run Try.prog W = .ok (byt (ch x)) W := by
  rw [alpha_sof, run_index_sof (P := Try.prog) W 9 alpha q z x.toNat Try.underlying9 hz (by simpa [alpha] using hx)]
  unfold ch
  rfl
theorem sof_nil : ({ data := #[] } : ByteArray) = sof [] := by unfold sof; rfl

theorem enc_of0 {b r : List B8} {B c : Nat} (h1 : nv 6 r * 2 ^ c + B = nv 8 b) (h2 : B < 2 ^ c) (h3 : r.length * 6 + c = 8 * b.length) (h4 : c = 0) (h5 : Dig 6 r) : r = enc6 b := by
  subst h4
  have hr : r.length = (8 * b.length + 5) / 6 := by omega
  unfold enc6
  refine digs_of h5 hr ?_
  rw [show 6 * ((8 * b.length + 5) / 6) - 8 * b.length = 0 by omega]
  simp at h1 h2 ⊢
  omega
theorem enc_of1 {b r : List B8} {B c : Nat} (h1 : nv 6 r * 2 ^ c + B = nv 8 b) (h2 : B < 2 ^ c) (h3 : r.length * 6 + c = 8 * b.length) (h4 : c < 6) (h0 : 0 < c) (h5 : Dig 6 r) :
    r ++ [BitVec.ofNat 8 (B * 2 ^ (6 - c))] = enc6 b ∧ B * 2 ^ (6 - c) < 64 := by
  have hlt : B * 2 ^ (6 - c) < 64 := by
    have h := Nat.mul_lt_mul_of_pos_right h2 (Nat.two_pow_pos (6 - c))
    rw [← Nat.pow_add, show c + (6 - c) = 6 by omega] at h
    exact h
  have hb : (BitVec.ofNat 8 (B * 2 ^ (6 - c))).toNat = B * 2 ^ (6 - c) := by rw [BitVec.toNat_ofNat]; exact Nat.mod_eq_of_lt (by omega)
  refine ⟨?_, hlt⟩
  unfold enc6
  refine digs_of (h5.snoc (by rw [hb]; exact hlt)) (by rw [List.length_append, List.length_singleton]; omega) ?_
  rw [show 6 * ((8 * b.length + 5) / 6) - 8 * b.length = 6 - c by omega, nv_snoc, hb, ← h1, Nat.add_mul, Nat.mul_assoc, ← Nat.pow_add, show c + (6 - c) = 6 by omega]
theorem shl_byte {B c : Nat} (_h : B * 2 ^ (6 - c) < 64) : wrap64 ((B : Int) * 2 ^ (6 - c)) % 256 = bv (BitVec.ofNat 8 (B * 2 ^ (6 - c))) := by
  rw [bv_ofNat, show (B : Int) * 2 ^ (6 - c) = ((B * 2 ^ (6 - c) : Nat) : Int) by simp]
  generalize B * 2 ^ (6 - c) = y at *
  unfold wrap64
  omega

/-- The characters of the first k values, and the values behind them. -/
def mix (V : List B8) (k : Nat) : List B8 := (V.take k).map ch ++ V.drop k
theorem mix_zero (V : List B8) : mix V 0 = V := by simp [mix]
theorem mix_all (V : List B8) : mix V V.length = V.map ch := by simp [mix]
theorem mix_length (V : List B8) (k : Nat) : (mix V k).length = V.length := by simp [mix]; omega
theorem mix_get (V : List B8) (k : Nat) (h : k < V.length) : (mix V k).getD k 0 = V.getD k 0 := by
  have hl : ((V.take k).map ch).length = k := by simp; omega
  rw [List.getD_eq_getElem?_getD, List.getD_eq_getElem?_getD]
  unfold mix
  rw [List.getElem?_append_right (by omega), hl, Nat.sub_self, List.getElem?_drop, Nat.add_zero]
theorem mix_set (V : List B8) (k : Nat) (h : k < V.length) : (mix V k).set k (ch (V.getD k 0)) = mix V (k + 1) := by
  have hl : ((V.take k).map ch).length = k := by simp; omega
  unfold mix
  rw [List.set_append_right _ _ (by omega), hl, Nat.sub_self, List.take_add_one, List.getElem?_eq_getElem h, List.drop_eq_getElem_cons h, List.map_append, List.set_cons_zero]
  simp [List.getD_eq_getElem?_getD, h]
theorem ec_long {b : List B8} (h : 4096 < b.length) : ec b = ([], 2) := by unfold ec; rw [if_pos h]
theorem ec_ok {b : List B8} (h : ¬ 4096 < b.length) : ec b = (txt b, 0) := by unfold ec; rw [if_neg h]

set_option maxHeartbeats 1000000 in
theorem encode (v : Value) (b : List B8) (Q : Nat → Prop) (w : World) (hr : Bytes w Q v b) :
    Calls Try.prog 7 #[v] w fun e w' => e = .returned (.tuple #[.string (sof (ec b).1), .int .i64 ((ec b).2 : Int)]) ∧ Below w.heap.size w w' := by
  obtain ⟨A, cp, rfl, -⟩ := id hr
  by_cases h1 : 4096 < b.length
  · have HR := Lib.hid (ec_long h1)
    have h1' : (4096 : Int) < (b.length : Int) := by omega
    clear h1 hr
    go_enter Try.func7, Try.ntmps7
    go_wp2
    go_ret2
    rw [HR.out]
    exact ⟨by rw [← sof_nil]; rfl, Below.refl _ _⟩
  · have HR := Lib.hid (ec_ok h1)
    have h1' : ¬ (4096 : Int) < (b.length : Int) := by omega
    have HL : Hid (b.length ≤ 100000) := Lib.hid (by omega)
    clear h1
    go_enter Try.func7, Try.ntmps7
    go_wp2_with fail
    refine (regroup 8 6 (.inl ⟨rfl, rfl⟩) _ b _ _ hr (dig8 b) HL.out).mono ?_
    rintro e w1 ⟨v1, r, B, c, rfl, hown, hb, g1, g2, g3, g4, g5⟩
    have hs := hb.size
    have HT : Hid (∀ V, V = enc6 b → V.map ch = txt b ∧ Dig 6 V ∧ V.length ≤ 1000000) := Lib.hid fun V e => by
      subst e
      exact ⟨rfl, enc6_dig b, by have := HL.out; rw [enc6_length]; omega⟩
    by_cases hc : c = 0
    case' pos =>
      have HE := Lib.hid (enc_of0 g1 g2 g3 hc g5)
      subst hc
      obtain ⟨A1, c1, rfl, -⟩ := id (Bytes.of_own hown)
      clear g1 g2 g3 g4 g5 hr
      go_wp2_with fail
      obtain ⟨V, hV⟩ : ∃ V, V = r := ⟨_, rfl⟩
      rw [← hV] at hown HE ⊢
      obtain ⟨HM, HD, HN⟩ := HT.out V HE.out
      clear hV HE HT
      have hb' := hb
    case' neg =>
      have HE := Lib.hid (enc_of1 g1 g2 g3 g4 (by omega) g5)
      have hc' : (0 : Int) < (c : Int) := by omega
      have HZ := Lib.hid (shl_byte HE.out.2)
      have hrl : r.length ≤ 1000000 := by have := HL.out; omega
      clear g1 g2 g3 g5 hr
      go_wp2_with (at_builtin; go_must (refine wpList_append_bytes rfl _ _ rfl w.heap.size _ r rfl (hown.alloc _) _ (.slice (some ⟨w1.heap.size, 0, none⟩) 1 1) _ rfl (bytes_one w1 _ _ HZ.out) (by simp only [List.length_singleton]; omega) (by simp; omega) ?_; intro v' w' h1 h2; obtain ⟨V, hV⟩ : ∃ V, V = r ++ [BitVec.ofNat 8 (B * 2 ^ (6 - c))] := ⟨_, rfl⟩; rw [← hV] at h1 HE; clear hV; obtain ⟨A1, c1, rfl, -⟩ := id (Bytes.of_own h1); have hb' := (hb.alloc (by omega) (.cells #[Value.int .u8 (wrap64 ((B : Int) * 2 ^ (6 - c)) % 256)] 5)).trans h2))
      obtain ⟨HM, HD, HN⟩ := HT.out V HE.out.1
      have hown := h1
      clear HE HT HZ h1 h2
    all_goals
      have hmix := hown
      clear hown hb
      go_loopw [30] (fun vi wr => ∃ k : Nat, k ≤ V.length ∧ vi = .int .i64 k ∧ Own wr w.heap.size (.slice A1 V.length c1) (mix V k) ∧ Below w.heap.size w wr) (fun vi _ => V.length - (intOf vi).toNat)
      case atStart => exact ⟨0, by omega, rfl, by rw [mix_zero]; exact hmix, hb'⟩
      case round =>
        obtain ⟨k, hk, rfl, hown, hbr⟩ := hrel
        by_cases hlt : k < V.length
        · obtain ⟨g, cap, e, hg, hcell, hfz, hset⟩ := own_cell hown k (by rw [mix_length]; exact hlt)
          injection e with e1 e2 e3
          subst e1 e3
          have hx : (V.getD k 0).toNat < 64 := HD.get k
          have hlt' : (k : Int) < (V.length : Int) := by omega
          rw [mix_get V k hlt] at hcell
          have hn := hset (ch (V.getD k 0))
          rw [mix_set V k hlt] at hn
          have hix := fun W => alpha_index W .u8 (bv (V.getD k 0)) (V.getD k 0) (bv_toNat _) hx
          have hbs := hbr.setCell (p := ⟨g, k, none⟩) hg (byt (ch (V.getD k 0)))
          have HNN := Lib.hid hn
          clear hset hown hmix hx e2 hn hlt
          generalize V.getD k 0 = x at *
          go_wp2_with fail
          go_roundw
          case rel => exact ⟨k + 1, by omega, by go_num, HNN.out, hbs⟩
          case measure => simp [intOf]; omega
        · have hk2 : k = V.length := by omega
          subst hk2
          rw [mix_all] at hown
          have hcv := conv_sof (Bytes.of_own hown)
          clear hown hlt hmix
          go_wp2_with fail
          go_ret2
          rw [HR.out, ← HM]
          exact ⟨rfl, hbr⟩
end Go.Proofs.Ytefjdpanjioflaa
