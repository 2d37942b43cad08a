/-
  regroup of package base64 by its contract.
-/
import Derived.Test.YtefjdpanjioflaaB64Vals
namespace Go.Proofs.Ytefjdpanjioflaa
open Go Go.RowKit Sh Leaf

theorem two_lt {f : Nat} (hf : f ≤ 8) : 2 ^ f ≤ 256 := Nat.pow_le_pow_right (by omega) hf
theorem group_or (B : Nat) (x : B8) (f : Nat) (hB : B < 256) (hf : f ≤ 8) (hx : x.toNat < 2 ^ f) : bits .or .i64 (wrap64 ((B : Int) * 2 ^ f)) (wrap64 (bv x)) = ((B * 2 ^ f + x.toNat : Nat) : Int) := by
  have hf8 := two_lt hf
  have hor : B * 2 ^ f ||| x.toNat = B * 2 ^ f + x.toNat := by rw [Nat.mul_comm, Nat.two_pow_add_eq_or_of_lt hx B]
  have e1 : (B : Int) * 2 ^ f = ((B * 2 ^ f : Nat) : Int) := by simp
  have hy : B * 2 ^ f ≤ 256 * 256 := Nat.mul_le_mul (by omega) hf8
  rw [e1]
  generalize B * 2 ^ f = y at *
  have hw : wrap64 (y : Int) = (y : Int) := by unfold wrap64; omega
  have hx' : wrap64 (bv x) = (x.toNat : Int) := by rw [bv_toNat]; unfold wrap64; omega
  rw [hw, hx']
  show IntKind.i64.wrap ((BitVec.ofInt 64 (y : Int) ||| BitVec.ofInt 64 (x.toNat : Int)).toNat : Int) = _
  rw [BitVec.ofInt_natCast, BitVec.ofInt_natCast, BitVec.toNat_or, BitVec.toNat_ofNat, BitVec.toNat_ofNat, Nat.mod_eq_of_lt (by omega), Nat.mod_eq_of_lt (by omega), hor, IntKind.wrap_i64]
  omega

theorem group_and (B q : Nat) (hq : q ≤ 16) (hB : B < 2 ^ 62) : bits .and .i64 (B : Int) (wrap64 (wrap64 ((2 : Int) ^ q) - 1)) = ((B % 2 ^ q : Nat) : Int) := by
  have h2 : 2 ^ q ≤ 2 ^ 16 := Nat.pow_le_pow_right (by omega) hq
  have h1 := Nat.two_pow_pos q
  have e1 : (2 : Int) ^ q = ((2 ^ q : Nat) : Int) := by simp
  have hand : B &&& (2 ^ q - 1) = B % 2 ^ q := Nat.and_two_pow_sub_one_eq_mod B q
  have hm := Nat.mod_lt B h1
  rw [e1]
  generalize 2 ^ q = y at *
  have hw : wrap64 (wrap64 (y : Int) - 1) = ((y - 1 : Nat) : Int) := by unfold wrap64; omega
  rw [hw]
  show IntKind.i64.wrap ((BitVec.ofInt 64 (B : Int) &&& BitVec.ofInt 64 ((y - 1 : Nat) : Int)).toNat : Int) = _
  rw [BitVec.ofInt_natCast, BitVec.ofInt_natCast, BitVec.toNat_and, BitVec.toNat_ofNat, BitVec.toNat_ofNat, Nat.mod_eq_of_lt (by omega), Nat.mod_eq_of_lt (by omega), hand, IntKind.wrap_i64]
  omega
theorem quo_byte {B q t : Nat} (ht : t ≤ 8) (hB : B < 2 ^ (q + t)) : (BitVec.ofNat 8 (B / 2 ^ q)).toNat = B / 2 ^ q ∧ B / 2 ^ q < 2 ^ t := by
  have h1 : B / 2 ^ q < 2 ^ t := by
    rw [Nat.div_lt_iff_lt_mul (Nat.two_pow_pos q), ← Nat.pow_add, Nat.add_comm]
    exact hB
  have h2 := two_lt ht
  rw [BitVec.toNat_ofNat]
  exact ⟨Nat.mod_eq_of_lt (by omega), h1⟩

set_option maxHeartbeats 1000000 in
theorem regroup (f t : Nat) (hft : (f = 8 ∧ t = 6) ∨ (f = 6 ∧ t = 8)) (v : Value) (l : List B8) (Q : Nat → Prop) (w : World) (hr : Bytes w Q v l) (hD : Dig f l) (hl : l.length ≤ 100000) :
    Calls Try.prog 14 #[v, .int .i64 (f : Int), .int .i64 (t : Int)] w fun e w' => ∃ (v' : Value) (r : List B8) (B c : Nat), e = .returned (.tuple #[v', .int .i64 (B : Int), .int .i64 (c : Int)]) ∧ Own w' w.heap.size v' r ∧ Below w.heap.size w w' ∧
      nv t r * 2 ^ c + B = nv f l ∧ B < 2 ^ c ∧ r.length * t + c = f * l.length ∧ c < t ∧ Dig t r := by
  obtain ⟨A, cp, rfl, -⟩ := id hr
  go_enter Try.func14, Try.ntmps14
  go_wp2_with fail
  go_loopw [9, 10, 11, 16] (fun vr vb vc vi wr => ∃ (k : Nat) (r : List B8) (B c : Nat), k ≤ l.length ∧ vi = .int .i64 k ∧ vb = .int .i64 B ∧ vc = .int .i64 c ∧ Own wr w.heap.size vr r ∧ Below w.heap.size w wr ∧
      nv t r * 2 ^ c + B = nv f (l.take k) ∧ B < 2 ^ c ∧ r.length * t + c = f * k ∧ c < t ∧ Dig t r) (fun _ _ _ vi _ => l.length - (intOf vi).toNat)
  case atStart => exact ⟨0, [], 0, 0, by omega, rfl, rfl, rfl, own_nil _ _, Below.refl _ _, by simp [nv_nil], by simp, by simp, by omega, Dig.nil t⟩
  case round =>
    obtain ⟨k, r, B, c, hk, rfl, rfl, rfl, hown, hb, hval, hB, hlen, hct, hdig⟩ := hrel
    by_cases hlt : k < l.length
    · have HB := hr.below hb (Nat.le_refl _)
      obtain ⟨A1, c1, e1, -, -, -, h4⟩ := id HB
      cases e1
      obtain ⟨g, o, rfl, _, hcell⟩ := h4 (by omega)
      have hc := hcell k l[k] (List.getElem?_eq_getElem hlt)
      have hx : l[k].toNat < 2 ^ f := hD _ (List.getElem_mem hlt)
      have hnv : nv f (l.take (k + 1)) = nv f (l.take k) * 2 ^ f + l[k].toNat := by rw [List.take_add_one, List.getElem?_eq_getElem hlt, Option.toList_some, nv_snoc]
      have hf8 : f ≤ 8 := by omega
      have h2c : 2 ^ c ≤ 256 := two_lt (by omega)
      have HO := Lib.hid (group_or B l[k] f (by omega) hf8 hx)
      have HS : Hid (nv t r * 2 ^ (c + f) + (B * 2 ^ f + l[k].toNat) = nv f (l.take (k + 1))) := Lib.hid (by rw [hnv, ← hval, Nat.pow_add, Nat.add_mul, Nat.mul_assoc, Nat.add_assoc])
      have HL : Hid (B * 2 ^ f + l[k].toNat < 2 ^ (c + f)) := Lib.hid (by
        rw [Nat.pow_add]
        have := Nat.mul_le_mul_right (2 ^ f) (show B + 1 ≤ 2 ^ c from hB)
        rw [Nat.add_mul, Nat.one_mul] at this
        omega)
      have HK : Hid (r.length * t + (c + f) = f * (k + 1)) := Lib.hid (by rw [Nat.mul_add]; omega)
      clear hcell h4 hnv hval hB hlen h2c HB
      generalize l[k] = x at *
      obtain ⟨Z, hZ⟩ : ∃ Z, Z = B * 2 ^ f + x.toNat := ⟨_, rfl⟩
      rw [← hZ] at HO HS HL
      clear hZ
      go_wp2_with fail
      rw [HO.out]
      go_loopw [9, 10, 11] (fun vr vb vc wx => ∃ (r : List B8) (B c : Nat), vb = .int .i64 B ∧ vc = .int .i64 c ∧ Own wx w.heap.size vr r ∧ Below w.heap.size w wx ∧ c ≤ 16 ∧
        nv t r * 2 ^ c + B = nv f (l.take (k + 1)) ∧ B < 2 ^ c ∧ r.length * t + c = f * (k + 1) ∧ Dig t r) (fun _ _ vc _ => (intOf vc).toNat)
      case atStart => exact ⟨r, _, c + f, rfl, by simp, hown, hb, by omega, HS.out, HL.out, HK.out, hdig⟩
      case round =>
        obtain ⟨r, B, c, rfl, rfl, hown, hb, hc16, hval, hB, hlen, hdig⟩ := hrel
        by_cases hct : t ≤ c
        · obtain ⟨q, rfl⟩ : ∃ q, c = q + t := ⟨c - t, by omega⟩
          have hz : (B : Int) / 2 ^ q % 256 = bv (BitVec.ofNat 8 (B / 2 ^ q)) := by rw [bv_ofNat]; simp
          have hxl : r.length ≤ 1000000 := by
            have h1 : r.length * 1 ≤ r.length * t := Nat.mul_le_mul_left _ (by omega)
            have h2 : f * (k + 1) ≤ 8 * (k + 1) := Nat.mul_le_mul_right _ hf8
            omega
          have hs := hb.size
          have HZ := Lib.hid hz
          clear hz
          go_wp2_with (at_builtin; go_must (refine wpList_append_bytes rfl _ _ rfl w.heap.size _ r rfl (hown.alloc _) _ (.slice (some ⟨wr.heap.size, 0, none⟩) 1 1) [BitVec.ofNat 8 (B / 2 ^ q)] rfl (bytes_one wr _ _ HZ.out) (by simp only [List.length_singleton]; omega) (by simp; omega) ?_; intro v' w' h1 h2))
          have ht8 : t ≤ 8 := by omega
          have hB62 : B < 2 ^ 62 := Nat.lt_of_lt_of_le hB (Nat.pow_le_pow_right (by omega) (by omega))
          have hQ := quo_byte ht8 hB
          go_roundw
          case rel =>
            refine ⟨r ++ [BitVec.ofNat 8 (B / 2 ^ q)], B % 2 ^ q, q, by rw [group_and B q (by omega) hB62], rfl, h1, (hb.alloc (by omega) _).trans h2, by omega, ?_, Nat.mod_lt _ (Nat.two_pow_pos q), ?_, hdig.snoc (by rw [hQ.1]; exact hQ.2)⟩
            · rw [nv_snoc, hQ.1, ← hval, Nat.add_mul, Nat.mul_assoc, ← Nat.pow_add, Nat.add_comm t q]
              have := Nat.div_add_mod B (2 ^ q)
              rw [Nat.mul_comm] at this
              omega
            · rw [List.length_append, List.length_singleton, Nat.add_mul, Nat.one_mul]; omega
          case measure => simp [intOf]; omega
        · go_wp2_with fail
          go_roundw
          case rel => exact ⟨k + 1, r, B, c, by omega, by go_num, rfl, rfl, hown, hb, hval, hB, hlen, by omega, hdig⟩
          case measure => simp [intOf]; omega
    · have hk2 : k = l.length := by omega
      subst hk2
      rw [List.take_length] at hval
      clear hlt
      go_wp2_with fail
      go_ret3
      exact ⟨_, r, B, c, rfl, hown, hb, hval, hB, hlen, hct, hdig⟩
end Go.Proofs.Ytefjdpanjioflaa
