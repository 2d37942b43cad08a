/-
  The law VarintRead: true, for all arguments.
-/
import Derived.Test.YtdlbichdjgbedaaVarAppLaw
namespace Go.Proofs.Ytdlbichdjgbedaa
open Go Go.RowKit Sh Leaf

theorem number_max (n : Nat) (w : World) (hn : n ≤ maxNum) :
    Calls Try.prog 14 #[.int .i64 (n : Int)] w fun e w' => ∃ v', e = .returned v' ∧ Own w' w.heap.size v' (enc n) ∧ Below w.heap.size w w' :=
  number n w (by rw [maxNum_eq] at hn; exact hn)

/-- Seven bytes near the limits. -/
theorem seven_row (y : B8) (z : Int) : ∃ ld : List B8, ld.length = 7 ∧ (#[Value.int .u8 (bits .or .u8 (bv y) 128), Value.int .u8 255, Value.int .u8 255, Value.int .u8 255, Value.int .u8 255, Value.int .u8 255, Value.int .u8 (z % 256)] : Array Value) = (ld.map byt).toArray := by
  refine ⟨[y ||| 128, BitVec.ofNat 8 255, BitVec.ofNat 8 255, BitVec.ofNat 8 255, BitVec.ofNat 8 255, BitVec.ofNat 8 255, BitVec.ofNat 8 (z % 256).toNat], rfl, ?_⟩
  have h1 : (128 : Int) = bv 128 := by unfold bv; rfl
  have h2 : byt (BitVec.ofNat 8 (z % 256).toNat) = .int .u8 (z % 256) := by rw [byt_lit _ (by omega)]; congr 1; omega
  rw [h1, bits_or_bv]
  simp only [List.map_cons, List.map_nil, h2, byt_lit 255 (by omega)]
  rfl

set_option maxRecDepth 100000 in
set_option maxHeartbeats 2000000 in
theorem read_law (A : Option Addr) (l : List B8) (c : Nat) (Q : Nat → Prop) (z : Int) (hz : -9223372036854775808 ≤ z ∧ z ≤ 9223372036854775807) (at_ : Int) (hat : -9223372036854775808 ≤ at_ ∧ at_ ≤ 9223372036854775807) (y : B8) (w : World) (hb : Bytes w Q (.slice A l.length c) l) :
    Calls Try.prog 4 #[.slice A l.length c, .int .i64 z, .int .i64 at_, byt y] w fun e w' => e = .returned (.bool true) ∧ Below w.heap.size w w' := by
  obtain ⟨A0, c0, e0, h1, h2, h3, h4⟩ := id hb
  cases e0
  obtain ⟨N, hN, hNc, hN20, p, hp, hpN⟩ := cut_cases hb 50
  unfold maxLen at h2
  clear hb h4 h3
  have HN := Lib.hid hpN
  clear hpN
  rcases hN with ⟨hlt, rfl⟩ | ⟨hlt, rfl⟩ | ⟨hlt, hge, rfl⟩
  all_goals
    go_enter Try.func4, Try.ntmps4
    go_wp2_with fail
    refine (within_max z hz _).mono ?_
    rintro e w1 ⟨⟨n, hn, rfl⟩, rfl⟩
    go_wp2_with fail
    refine (number_max n _ hn).mono ?_
    rintro e w2 ⟨v2, rfl, hown, hb2⟩
    have h7 := enc_len7 (by rw [maxNum_eq] at hn; exact hn)
    have hpos := enc_pos n
    obtain ⟨g, cap, cur, rfl, hg, hh, hcap, hm, hcs, ht⟩ := own_open hown hpos
    clear hown
    obtain ⟨lc, hlc⟩ : ∃ lc, lc = enc n := ⟨_, rfl⟩
    rw [← hlc] at h7 hpos hcap hcs ht ⊢
    clear hlc
    go_wp2_with fail
    refine (within_ at_ lc.length (by omega) (by omega) hat _).mono ?_
    rintro e w3 ⟨⟨i, hi, rfl⟩, rfl⟩
    have hi' : i < lc.length := by omega
    have hc := hh.cell i
    rw [ht i lc[i] (List.getElem?_eq_getElem hi')] at hc
    have hz0 := hh.frozen i
    have hset := hh.set i (byt y)
    have hCa : Bytes (w3.setCell ⟨g, i, none⟩ (byt y)) (fun b => b = g) (.slice (some ⟨g, 0, none⟩) lc.length cap) (lc.set i y) := by
      have := bytes_row (l := lc.set i y) hset (by simp; omega) hm (fun j x hj => by
        rw [Array.getElem?_setIfInBounds]
        rw [List.getElem?_set] at hj
        by_cases e : i = j
        · rw [if_pos e] at hj ⊢
          rw [if_pos (by omega)] at hj ⊢
          rw [Option.some.inj hj]
        · rw [if_neg e] at hj ⊢
          exact ht j x hj)
      rwa [List.length_set] at this
    have hb3 : Below w1.heap.size w1 (w3.setCell ⟨g, i, none⟩ (byt y)) := hb2.setCell (p := ⟨g, i, none⟩) hg (byt y)
    have hp3 := hp.below hb3 (Nat.le_refl _)
    have HS := Lib.hid (seven_row y at_)
    have HT := Lib.hid ht
    clear hp hset hh hcs ht hb2
    go_wp2_with fail
    obtain ⟨ld, hl7, hld⟩ := HS.out
    have hd3 := lit_bytes (w3.setCell ⟨g, i, none⟩ (byt y)) (0, 0) ld _ hld (by omega)
    rw [hl7] at hd3
    have hC3 := hCa.alloc (.cells #[Value.int .u8 (bits .or .u8 (bv y) 128), Value.int .u8 255, Value.int .u8 255, Value.int .u8 255, Value.int .u8 255, Value.int .u8 255, Value.int .u8 (at_ % 256)] 5)
    have hp4 := hp3.alloc (.cells #[Value.int .u8 (bits .or .u8 (bv y) 128), Value.int .u8 255, Value.int .u8 255, Value.int .u8 255, Value.int .u8 255, Value.int .u8 255, Value.int .u8 (at_ % 256)] 5)
    have hb4 := hb3.alloc hb3.size (.cells #[Value.int .u8 (bits .or .u8 (bv y) 128), Value.int .u8 255, Value.int .u8 255, Value.int .u8 255, Value.int .u8 255, Value.int .u8 255, Value.int .u8 (at_ % 256)] 5)
    have hsz : (w3.setCell ⟨g, i, none⟩ (byt y)).heap.size = w3.heap.size := by simp
    rw [hsz] at hd3
    replace hd3 := hd3.mono (Q' := fun _ => True) (fun _ _ _ => trivial)
    replace hC3 := hC3.mono (Q' := fun _ => True) (fun _ _ _ => trivial)
    replace hp4 := hp4.mono (Q' := fun _ => True) (fun _ _ _ => trivial)
    generalize (w3.setCell ⟨g, i, none⟩ (byt y)).alloc (.cells #[Value.int .u8 (bits .or .u8 (bv y) 128), Value.int .u8 255, Value.int .u8 255, Value.int .u8 255, Value.int .u8 255, Value.int .u8 255, Value.int .u8 (at_ % 256)] 5) = W4 at hd3 hC3 hp4 hb4 ⊢
    clear hld hb3 hsz hCa hp3 hc hz0
    go_loopw [0, 11] (fun vb vi wr => ∃ (k : Nat) (lb : List B8), k ≤ 3 ∧ vi = .int .i64 k ∧ Bytes wr (fun _ => True) vb lb ∧ Bytes wr (fun _ => True) (.slice (some ⟨g, 0, none⟩) lc.length cap) (lc.set i y) ∧ Bytes wr (fun _ => True) (.slice (some ⟨w3.heap.size, 0, none⟩) 7 7) ld ∧ Below w1.heap.size w1 wr) (fun _ vi _ => 3 - (intOf vi).toNat)
    case atStart => exact ⟨0, _, by omega, rfl, hp4, hC3, hd3, hb4⟩
    case round =>
      obtain ⟨k, lb, hk, rfl, hB, hC, hD, hbr⟩ := hrel
      clear hp4 hC3 hd3
      by_cases hk3 : k = 3
      · subst hk3
        go_wp2_with (go_at_call 13; refine (vawake _).mono ?_; rintro e w9 ⟨rfl, hb9⟩)
        go_ret
        exact ⟨rfl, hbr.trans (hb9.mono hbr.size)⟩
      · obtain ⟨R1, R2, R3, hR⟩ : ∃ R1 R2 R3, rd lb = (R1, R2, R3) := ⟨_, _, _, rfl⟩
        have HR := Lib.hid hR
        clear hR
        go_wp2_with fail
        refine (read_ _ lb _ _ hB).mono ?_
        rintro e w5 ⟨rfl, hb5⟩
        rw [HR.out]
        have hB5 := hB.below hb5 (Nat.le_refl _)
        go_wp2_with fail
        refine (ref_read _ lb _ _ hB5).mono ?_
        rintro e w6 ⟨rfl, hb6⟩
        rw [HR.out]
        have hb56 := hb5.trans (hb6.mono hb5.size)
        have hC6 := hC.below hb56 (Nat.le_refl _)
        have hD6 := hD.below hb56 (Nat.le_refl _)
        have hq6 := hbr.trans (hb56.mono hbr.size)
        clear hb5 hb6 hb56 hB hB5 hC hD hbr HR
        have hR6 := Whole.here w6 22 #[.slice (some ⟨g, 0, none⟩) lc.length cap, .slice (some ⟨w3.heap.size, 0, none⟩) 7 7, .slice none 0 0]
        have hr0 := hR6.cell 0
        have hr1 := hR6.cell 1
        have hr2 := hR6.cell 2
        simp only [List.getElem?_toArray, List.getElem?_cons_zero, List.getElem?_cons_succ] at hr0 hr1 hr2
        have hC7 := hC6.alloc (.cells #[.slice (some ⟨g, 0, none⟩) lc.length cap, .slice (some ⟨w3.heap.size, 0, none⟩) 7 7, .slice none 0 0] 22)
        have hD7 := hD6.alloc (.cells #[.slice (some ⟨g, 0, none⟩) lc.length cap, .slice (some ⟨w3.heap.size, 0, none⟩) 7 7, .slice none 0 0] 22)
        have hq7 := hq6.alloc hq6.size (.cells #[.slice (some ⟨g, 0, none⟩) lc.length cap, .slice (some ⟨w3.heap.size, 0, none⟩) 7 7, .slice none 0 0] 22)
        clear hC6 hD6 hq6 hR6
        rcases (by omega : k = 0 ∨ k = 1 ∨ k = 2) with rfl | rfl | rfl
        all_goals
          clear hk3 hk
          go_wp2
          go_roundw
          case rel => first | exact ⟨1, _, by omega, rfl, hC7, hC7, hD7, hq7⟩ | exact ⟨2, _, by omega, rfl, hD7, hC7, hD7, hq7⟩ | exact ⟨3, _, by omega, rfl, Bytes.nil _ _, hC7, hD7, hq7⟩
          case measure => simp [intOf]
end Go.Proofs.Ytdlbichdjgbedaa
