/-
  The reference's Bytes by its contract.
-/
import Derived.Test.YtefjdpanjioflaaB64Dec
import Derived.Test.YtefjdpanjioflaaB64RText
import Derived.Test.YtefjdpanjioflaaKIRow
import Derived.BigQuiet
import Derived.Deep.QuietTactic
namespace Go.Proofs.Ytefjdpanjioflaa
open Go Go.RowKit Sh Leaf

/-- What the search has found for the character c behind the first k values. -/
@[irreducible] def zk (c : B8) (k : Nat) : Int := match vof c with
  | some v => if v.toNat < k then (v.toNat : Int) else -1
  | none => -1
abbrev tz (v : B8) : Int := (v.toNat : Int)
theorem zk_zero (c : B8) : zk c 0 = -1 := by unfold zk; split <;> simp
theorem zk_hit {c : B8} {k : Nat} (hk : k < 64) (h : ch (BitVec.ofNat 8 k) = c) : zk c (k + 1) = (k : Int) := by
  have hb : (BitVec.ofNat 8 k).toNat = k := by rw [BitVec.toNat_ofNat]; exact Nat.mod_eq_of_lt (by omega)
  have := vof_ch (BitVec.ofNat 8 k) (by rw [hb]; exact hk)
  rw [h] at this
  unfold zk
  rw [this]
  simp only [hb]
  rw [if_pos (by omega)]
theorem zk_miss {c : B8} {k : Nat} (hk : k < 64) (h : ¬ ch (BitVec.ofNat 8 k) = c) : zk c (k + 1) = zk c k := by
  have hb : (BitVec.ofNat 8 k).toNat = k := by rw [BitVec.toNat_ofNat]; exact Nat.mod_eq_of_lt (by omega)
  unfold zk
  cases hv : vof c with
  | none => rfl
  | some v =>
    have h1 := (ch_vof c v hv).1
    have h2 : v.toNat ≠ k := fun e => h (by
      have : v = BitVec.ofNat 8 k := BitVec.eq_of_toNat_eq (by rw [hb, e])
      rw [← this, h1])
    simp only
    by_cases h3 : v.toNat < k
    · rw [if_pos h3, if_pos (by omega)]
    · rw [if_neg h3, if_neg (by omega)]
theorem zk_end {c : B8} (h : okc c = true) : zk c 64 = tz ((vof c).getD 0) := by
  unfold okc at h
  unfold zk
  cases hv : vof c with
  | none => rw [hv] at h; cases h
  | some v => simp [(ch_vof c v hv).2]
theorem zk_bad {c : B8} (h : okc c = false) : zk c 64 = -1 := by
  unfold okc at h
  unfold zk
  cases hv : vof c with
  | none => rfl
  | some v => rw [hv] at h; cases h

/-- The bytes O behind the first i bits of V. -/
def Inv (V : List B8) (M i : Nat) (O : List B8) : Prop :=
  (i ≤ 8 * M → nv 8 (O.take (i / 8)) * 2 ^ (i % 8) + (O.getD (i / 8) 0).toNat = top 6 V i ∧ (O.getD (i / 8) 0).toNat < 2 ^ (i % 8) ∧ ∀ k, i / 8 < k → O.getD k 0 = 0) ∧ (8 * M ≤ i → nv 8 O * 2 ^ (i - 8 * M) = top 6 V i)
theorem rep_get (M k : Nat) : (List.replicate M (0 : B8)).getD k 0 = 0 := by
  rw [List.getD_eq_getElem?_getD, List.getElem?_replicate]
  split <;> rfl
theorem inv_zero (V : List B8) (M : Nat) : Inv V M 0 (List.replicate M 0) := by
  refine ⟨fun _ => ⟨?_, ?_, fun k _ => rep_get M k⟩, fun h => ?_⟩
  · rw [Nat.zero_div, rep_get]; rfl
  · rw [Nat.zero_div, rep_get]; simp
  · rw [show M = 0 by omega]; rfl
theorem new_byte {o bt : Nat} {j : Nat} (hj : j < 8) (ho : o < 2 ^ j) (hb : bt < 2) : 2 * o + bt < 2 ^ (j + 1) ∧ 2 * o + bt < 256 := by
  have h1 : 2 * o + bt < 2 ^ (j + 1) := by rw [Nat.pow_succ]; omega
  have h2 : 2 ^ (j + 1) ≤ 2 ^ 8 := Nat.pow_le_pow_right (by omega) (by omega)
  exact ⟨h1, by omega⟩
theorem inv_in {V O : List B8} {M i : Nat} (h : Inv V M i O) (hi : i < 8 * M) (hO : O.length = M) : Inv V M (i + 1) (O.set (i / 8) (BitVec.ofNat 8 (2 * (O.getD (i / 8) 0).toNat + bit 6 V i))) := by
  obtain ⟨h1, h2, h3⟩ := h.1 (by omega)
  have hb := bit_lt 6 V i
  have ht : top 6 V (i + 1) = 2 * top 6 V i + bit 6 V i := rfl
  have hq : i / 8 < O.length := by omega
  obtain ⟨hn1, hn2⟩ := new_byte (Nat.mod_lt i (by omega)) h2 hb
  obtain ⟨y, hy⟩ : ∃ y, y = 2 * (O.getD (i / 8) 0).toNat + bit 6 V i := ⟨_, rfl⟩
  rw [← hy] at hn1 hn2 ⊢
  have hyb : (BitVec.ofNat 8 y).toNat = y := by rw [BitVec.toNat_ofNat]; exact Nat.mod_eq_of_lt hn2
  have hset : ∀ k, (O.set (i / 8) (BitVec.ofNat 8 y)).getD k 0 = if k = i / 8 then BitVec.ofNat 8 y else O.getD k 0 := fun k => by
    rw [List.getD_eq_getElem?_getD, List.getElem?_set, List.getD_eq_getElem?_getD]
    by_cases e : i / 8 = k
    · subst e; rw [if_pos rfl, if_pos hq, if_pos rfl]; rfl
    · rw [if_neg e, if_neg (fun e' => e e'.symm)]
  by_cases h7 : i % 8 = 7
  · have e1 : (i + 1) / 8 = i / 8 + 1 := by omega
    have e2 : (i + 1) % 8 = 0 := by omega
    have e3 : nv 8 ((O.set (i / 8) (BitVec.ofNat 8 y)).take (i / 8 + 1)) = top 6 V (i + 1) := by
      rw [set_take O (i / 8) _ hq, nv_snoc, hyb, hy, ht, ← h1, h7]; omega
    refine ⟨fun _ => ?_, fun h8 => ?_⟩
    · rw [e1, e2, e3, hset, if_neg (by omega), h3 _ (by omega)]
      exact ⟨by simp, by simp, fun k hk => by rw [hset, if_neg (by omega), h3 k (by omega)]⟩
    · have e4 : (O.set (i / 8) (BitVec.ofNat 8 y)).take (i / 8 + 1) = O.set (i / 8) (BitVec.ofNat 8 y) := List.take_of_length_le (by rw [List.length_set]; omega)
      rw [e4] at e3
      rw [e3, show i + 1 - 8 * M = 0 by omega]; simp
  · have e1 : (i + 1) / 8 = i / 8 := by omega
    have e2 : (i + 1) % 8 = i % 8 + 1 := by omega
    have e3 : (O.set (i / 8) (BitVec.ofNat 8 y)).take (i / 8) = O.take (i / 8) := by
      rw [List.take_set_of_le (Nat.le_refl _)]
    refine ⟨fun _ => ?_, fun h8 => by omega⟩
    rw [e1, e2, e3, hset, if_pos rfl, hyb]
    refine ⟨?_, hn1, fun k hk => by rw [hset, if_neg (by omega), h3 k hk]⟩
    rw [Nat.pow_succ, ← Nat.mul_assoc, hy, ht, ← h1]; omega
theorem inv_out {V O : List B8} {M i : Nat} (h : Inv V M i O) (hi : 8 * M ≤ i) (hb : bit 6 V i = 0) : Inv V M (i + 1) O := by
  refine ⟨fun h8 => by omega, fun _ => ?_⟩
  have ht : top 6 V (i + 1) = 2 * top 6 V i + bit 6 V i := rfl
  rw [ht, hb, ← h.2 hi, show i + 1 - 8 * M = (i - 8 * M) + 1 by omega, Nat.pow_succ, ← Nat.mul_assoc]; omega
theorem inv_end {V O : List B8} {M : Nat} (h : Inv V M (6 * V.length) O) (hV : Dig 6 V) (hM : M = 6 * V.length / 8) (hO : O.length = M) : rest V = 0 ∧ O = dec8 V := by
  have h1 := h.2 (by omega)
  rw [top_all hV, show 6 * V.length - 8 * M = 6 * V.length % 8 by omega] at h1
  unfold rest dec8
  rw [← h1, Nat.mul_mod_left, Nat.mul_div_cancel _ (Nat.two_pow_pos _)]
  exact ⟨rfl, digs_of (dig8 O) (by omega) rfl⟩
theorem inv_bad {V : List B8} {M i : Nat} (hV : Dig 6 V) (hM : M = 6 * V.length / 8) (h1 : 8 * M ≤ i) (h2 : i < 6 * V.length) (hb : bit 6 V i = 1) : ¬ rest V = 0 := by
  intro hr
  unfold rest at hr
  have ht : top 6 V (i + 1) = 2 * top 6 V i + bit 6 V i := rfl
  have hs := top_shift 6 V (i + 1) (6 * V.length - (i + 1))
  rw [show i + 1 + (6 * V.length - (i + 1)) = 6 * V.length by omega, top_all hV] at hs
  obtain ⟨q, hq⟩ := Nat.dvd_of_mod_eq_zero hr
  have e : 6 * V.length % 8 = (6 * V.length - (i + 1)) + (i - 8 * M + 1) := by omega
  rw [hq, e, Nat.pow_add, Nat.mul_assoc, Nat.mul_div_cancel_left _ (Nat.two_pow_pos _), Nat.pow_succ, Nat.mul_assoc, Nat.mul_left_comm] at hs
  omega

set_option maxHeartbeats 2000000 in
theorem rbytes (s : List B8) (hs : s.length ≤ 1000000) (w : World) :
    Calls Try.prog 12 #[.string (sof s)] w fun e w' => ∃ v', e = .returned (.tuple #[v', .int .i64 ((dc s).2 : Int)]) ∧ Bytes w' (fun g => w.heap.size ≤ g) v' (dc s).1 ∧ Below w.heap.size w w' := by
  have hsz := sof_size s
  by_cases h1 : 5462 < s.length
  · have HR := Lib.hid (dc_long h1)
    have h1' : (5462 : Int) < (s.length : Int) := by omega
    clear h1
    go_enter Try.func12, Try.ntmps12
    go_wp2
    go_ret2
    rw [HR.out]
    exact ⟨_, rfl, Bytes.nil _ _, Below.refl _ _⟩
  · have H1 := Lib.hid h1
    have h1' : ¬ (5462 : Int) < (s.length : Int) := by omega
    have hmk := fun W => make_ints (s.length : Int) s.length rfl hs W
    clear h1
    go_enter Try.func12, Try.ntmps12
    go_wp2_with fail
    clear hmk
    have hb0 : Below w.heap.size w (w.alloc (.cells (zints s.length) 3)) := (Below.refl _ _).alloc (Nat.le_refl _) _
    have hW0 := Whole.here w 3 (zints s.length)
    generalize w.alloc (.cells (zints s.length) 3) = w1 at *
    rw [zints_eq] at hW0
    go_loopw [5] (fun vi wr => ∃ (i : Nat) (L : List Int), i ≤ s.length ∧ vi = .int .i64 i ∧ L.length = s.length ∧ Whole wr w.heap.size 3 (L.map vint).toArray ∧ Below w.heap.size w wr ∧ L.take i = (vl (s.take i)).map tz ∧ (s.take i).all okc = true) (fun vi _ => s.length - (intOf vi).toNat)
    case atStart => exact ⟨0, List.replicate s.length 0, by omega, rfl, by simp, hW0, hb0, by simp [vl], by simp⟩
    case round =>
      obtain ⟨i, L, hi, rfl, hL, hW, hb, htk, hall⟩ := hrel
      clear hW0 hb0
      by_cases hlt : i < s.length
      · have hlt' : (i : Int) < (s.length : Int) := by omega
        obtain ⟨z0, hcl⟩ := hW.any i (by omega)
        have hfz := hW.frozen i
        have hW2 := hW.put i (-1)
        have hb2 := hb.setCell (p := ⟨w.heap.size, i, none⟩) (Nat.le_refl _) (vint (-1))
        have HTK := Lib.hid htk
        have HALL := Lib.hid hall
        have hc : s[i]? = some (s.getD i 0) := by rw [List.getD_eq_getElem?_getD, List.getElem?_eq_getElem hlt]; rfl
        have HNT := Lib.hid (set_take L i (zk (s.getD i 0) 64) (by omega))
        have HVT := Lib.hid (vl_take_succ hlt)
        have HAT := Lib.hid (all_take_succ hlt)
        have HAF := Lib.hid (fun h => all_false hlt h)
        have hjx := fun W => run_index_sof (P := Try.prog) W 9 s .i64 (i : Int) i Try.underlying9 rfl hlt
        have HLT := Lib.hid hlt
        have HL := Lib.hid hL
        clear htk hall hc hlt hL
        generalize s.getD i 0 = c at *
        go_wp2_with fail
        clear hcl hfz
        generalize wr.setCell ⟨w.heap.size, i, none⟩ (Value.int .i64 (-1)) = w2 at hW2 hb2 ⊢
        go_loopw [6] (fun vk wx => ∃ k : Nat, k ≤ 64 ∧ vk = .int .i64 k ∧ Whole wx w.heap.size 3 ((L.set i (zk c k)).map vint).toArray ∧ Below w.heap.size w wx) (fun vk _ => 64 - (intOf vk).toNat)
        case atStart => exact ⟨0, by omega, rfl, by rw [zk_zero]; exact hW2, hb2⟩
        case round =>
          obtain ⟨k, hk, rfl, hWx, hbx⟩ := hrel
          clear hW hb hW2 hb2
          obtain ⟨z1, hcl⟩ := hWx.any i (by rw [List.length_set]; have := HLT.out; have := HL.out; omega)
          have hfz := hWx.frozen i
          by_cases hk64 : k < 64
          · have hk64' : (k : Int) < 64 := by omega
            have hbk : (BitVec.ofNat 8 k).toNat = k := by rw [BitVec.toNat_ofNat]; exact Nat.mod_eq_of_lt (by omega)
            have hix := fun W => alpha_index W .i64 (k : Int) (BitVec.ofNat 8 k) (by rw [hbk]) (by rw [hbk]; exact hk64)
            by_cases hch : ch (BitVec.ofNat 8 k) = c
            · have HZ := Lib.hid (zk_hit hk64 hch)
              have HW := Lib.hid hWx
              rw [hch] at hix
              clear hbk hch hWx
              go_wp2
              go_quiet (fail)
              go_wp2
              go_roundw
              case rel => exact ⟨k + 1, by omega, by go_num, by rw [HZ.out, ← List.set_set (a := zk c k)]; exact (HW.out.drewN _).put i (k : Int), (below_drewN hbx _).setCell (p := ⟨w.heap.size, i, none⟩) (Nat.le_refl _) _⟩
              case measure => simp [intOf]; omega
            · have HZ := Lib.hid (zk_miss hk64 hch)
              have hne : ¬ bv (ch (BitVec.ofNat 8 k)) = bv c := fun e => hch (bv_inj e)
              have HW := Lib.hid hWx
              clear hbk hch hWx
              go_wp2
              go_quiet (fail)
              go_wp2
              go_roundw
              case rel => exact ⟨k + 1, by omega, by go_num, by rw [HZ.out]; exact HW.out, below_drewN hbx _⟩
              case measure => simp [intOf]; omega
          · have hk2 : k = 64 := by omega
            subst hk2
            have hk64' : ¬ (64 : Int) < 64 := by omega
            have hlv : (L.set i (zk c 64)).length = s.length := by rw [List.length_set]; exact HL.out
            have hcv : wr.cell? ⟨w.heap.size, i, none⟩ = some (vint (zk c 64)) := by
              rw [hWx.at i (by rw [hlv]; exact HLT.out)]
              simp
            cases hok : okc c with
            | true =>
              rw [zk_end hok] at hcv hWx HNT
              rw [hok, HALL.out] at HAT
              have hn0 : ¬ tz ((vof c).getD 0) < 0 := by unfold tz; omega
              have HW := Lib.hid hWx
              clear hWx hcl hfz hlv hjx
              have HVM : Hid ((vl (s.take (i + 1))).map tz = (vl (s.take i)).map tz ++ [tz ((vof c).getD 0)]) := Lib.hid (by rw [HVT.out, List.map_append]; rfl)
              generalize tz ((vof c).getD 0) = y at *
              go_wp2
              go_roundw
              case rel => exact ⟨i + 1, L.set i y, by have := HLT.out; omega, by go_num, by rw [List.length_set]; exact HL.out, HW.out, hbx, by rw [HNT.out, HTK.out, HVM.out], by rw [HAT.out]; rfl⟩
              case measure => simp [intOf]; have := HLT.out; omega
            | false =>
              rw [zk_bad hok] at hcv
              have HR := Lib.hid (dc_syntax H1.out (HAF.out hok))
              have hn0 : ((-1 : Int)) < 0 := by omega
              clear hWx hcl hfz hlv hjx
              go_wp2
              go_ret2
              rw [HR.out]
              exact ⟨_, rfl, Bytes.nil _ _, hbx⟩
      · have hi2 : i = s.length := by omega
        subst hi2
        rw [List.take_length] at htk hall
        rw [List.take_of_length_le (by omega)] at htk
        subst htk
        clear hlt hi hL
        have HA := Lib.hid hall
        have HV := Lib.hid (vl_dig hall)
        have HL := Lib.hid (vl_length s)
        clear hall
        by_cases h3 : s.length % 4 = 1
        · have HR := Lib.hid (dc_short H1.out HA.out h3)
          have h3' : (s.length : Int) % 4 = 1 := by omega
          clear h3 hW
          go_wp2
          go_ret2
          rw [HR.out]
          exact ⟨_, rfl, Bytes.nil _ _, hb⟩
        · have H3 := Lib.hid h3
          have h3' : ¬ (s.length : Int) % 4 = 1 := by omega
          clear h3
          have hmk := fun W => make_bytes (6 * (s.length : Int) / 8) (6 * s.length / 8) (by omega) (by omega) W
          go_wp2_with fail
          clear hmk
          have hgO := hW.lt
          have hW1 := hW.alloc (.cells (brow (6 * s.length / 8) fun _ => 0) 5)
          have hO1 := Whole.here wr 5 (brow (6 * s.length / 8) fun _ => 0)
          have hb1 := hb.alloc (by omega) (.cells (brow (6 * s.length / 8) fun _ => 0) 5)
          have HI : Hid (Inv (vl s) (6 * s.length / 8) 0 (List.replicate (6 * s.length / 8) 0)) := Lib.hid (inv_zero _ _)
          have HM : Hid (6 * s.length / 8 = 6 * (vl s).length / 8) := Lib.hid (by rw [HL.out])
          have HR0 := Lib.hid (fun h => dc_ok H1.out HA.out H3.out h)
          have HR1 := Lib.hid (fun h => dc_form H1.out HA.out H3.out h)
          have hML : ((6 * s.length / 8 : Nat) : Int) ≤ 1000000 := by omega
          clear hW hb HA H1 H3 h3' h1'
          generalize wr.alloc (.cells (brow (6 * s.length / 8) fun _ => 0) 5) = w2 at *
          generalize wr.heap.size = gO at *
          rw [brow_zeros] at hO1
          generalize vl s = V at *
          obtain ⟨M, hMe⟩ : ∃ M, M = 6 * s.length / 8 := ⟨_, rfl⟩
          rw [← hMe] at HI HM hO1 hML ⊢
          clear hMe
          go_loopw [8] (fun vi wr => ∃ (i : Nat) (O : List B8), i ≤ 6 * s.length ∧ vi = .int .i64 i ∧ O.length = M ∧ Whole wr w.heap.size 3 ((V.map tz).map vint).toArray ∧ Whole wr gO 5 (O.map byt).toArray ∧ Below w.heap.size w wr ∧ Inv V M i O) (fun vi _ => 6 * s.length - (intOf vi).toNat)
          case atStart => exact ⟨0, List.replicate M 0, by omega, rfl, by simp, hW1, hO1, hb1, HI.out⟩
          case round =>
            obtain ⟨i, O, hi, rfl, hOl, hW, hO, hb, hinv⟩ := hrel
            clear hW1 hO1 hb1
            by_cases hlt : i < 6 * s.length
            · have hlt' : (i : Int) < 6 * (s.length : Int) := by omega
              have hq : i / 6 < (V.map tz).length := by rw [List.length_map, HL.out]; omega
              have hcv := hW.at (i / 6) hq
              rw [List.getElem_map] at hcv
              have hq' : i / 6 < V.length := by rw [List.length_map] at hq; exact hq
              have hbit : (tz V[i / 6] / 2 ^ (5 - i % 6)).tmod 2 = ((bit 6 V i : Nat) : Int) := by
                rw [Int.tmod_eq_emod_of_nonneg (Int.ediv_nonneg (Int.natCast_nonneg _) (by exact_mod_cast Nat.zero_le _))]
                unfold bit
                rw [List.getD_eq_getElem?_getD, List.getElem?_eq_getElem hq']
                simp
              have hbl := bit_lt 6 V i
              by_cases hin : i < 8 * M
              · have hin' : (i : Int) / 8 < (M : Int) := by omega
                obtain ⟨o, hoe⟩ : ∃ o, o = O.getD (i / 8) 0 := ⟨_, rfl⟩
                have hco : wr.cell? ⟨gO, i / 8, none⟩ = some (byt o) := by
                  rw [hO.at (i / 8) (by omega), hoe, List.getD_eq_getElem?_getD, List.getElem?_eq_getElem (by omega)]
                  rfl
                have hfo := hO.frozen (i / 8)
                have hob := (hinv.1 (by omega)).2.1
                have HN := Lib.hid (inv_in hinv hin hOl)
                rw [← hoe] at hob HN
                have HZ : Hid ((2 * bv o + (tz V[i / 6] / 2 ^ (5 - i % 6)).tmod 2) % 256 = bv (BitVec.ofNat 8 (2 * o.toNat + bit 6 V i))) := Lib.hid (by
                  have := new_byte (Nat.mod_lt i (by omega)) hob hbl
                  rw [hbit, bv_ofNat, bv_toNat]; omega)
                have HB := Lib.hid hbit
                clear hoe hinv hbit hob
                go_wp2
                rw [HZ.out]
                go_roundw
                case rel => exact ⟨i + 1, O.set (i / 8) (BitVec.ofNat 8 (2 * o.toNat + bit 6 V i)), by omega, by go_num, by rw [List.length_set]; exact hOl, hW.far (by show w.heap.size ≠ gO; omega) _, hO.put _ _, hb.setCell (p := ⟨gO, i / 8, none⟩) (by show w.heap.size ≤ gO; omega) _, HN.out⟩
                case measure => simp [intOf]; omega
              · have hin' : ¬ (i : Int) / 8 < (M : Int) := by omega
                by_cases hb1 : bit 6 V i = 1
                · rw [hb1] at hbit
                  have HD := Lib.hid (HR1.out (inv_bad HV.out HM.out (by omega) (by rw [HL.out]; exact hlt) hb1))
                  clear hinv hW hO
                  go_wp2
                  go_ret2
                  rw [HD.out]
                  exact ⟨_, rfl, Bytes.nil _ _, hb⟩
                · have hb0 : bit 6 V i = 0 := by omega
                  rw [hb0] at hbit
                  have HN := Lib.hid (inv_out hinv (by omega) hb0)
                  have hbit' : (tz V[i / 6] / 2 ^ (5 - i % 6)).tmod 2 = 0 := hbit
                  clear hbit hinv
                  go_wp2
                  go_roundw
                  case rel => exact ⟨i + 1, O, by omega, by go_num, hOl, hW, hO, hb, HN.out⟩
                  case measure => simp [intOf]; omega
            · have hi2 : i = 6 * s.length := by omega
              have hlt' : ¬ (i : Int) < 6 * (s.length : Int) := by omega
              rw [hi2, ← HL.out] at hinv
              obtain ⟨hr0, hOe⟩ := inv_end hinv HV.out HM.out hOl
              have HD := Lib.hid (HR0.out hr0)
              have hbs := hO.bytes (by omega)
              rw [hOl] at hbs
              subst hOe
              clear hinv hr0 hi2 hlt hO hW
              go_wp2
              go_ret2
              rw [HD.out]
              exact ⟨_, rfl, hbs.mono (fun g _ e => by rw [e]; omega), hb⟩
end Go.Proofs.Ytefjdpanjioflaa
