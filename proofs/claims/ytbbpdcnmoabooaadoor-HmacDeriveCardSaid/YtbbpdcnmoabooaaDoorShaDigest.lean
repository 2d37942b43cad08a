/-
  The law of ShaDigest: true, for all arguments.
-/
import Derived.Test.YtbbpdcnmoabooaaDoorShaLaw
import Derived.Laws.MakeOwn
namespace Go.Proofs.YtbbpdcnmoabooaaDoor
open Go Go.RowKit Sh Leaf
theorem make_bytes (z : Int) (m : Nat) (hz : z = (m : Int)) (hm : m ≤ 1000000) (W : World) :
    (Instr.makeSlice 22 (.int .i64 z) (.int .i64 z)).run Tryd.prog W = .ok (.slice (some ⟨W.heap.size, 0, none⟩) m m) (W.alloc (.cells (brow m fun _ => 0) 5)) := by
  subst hz
  obtain ⟨i0, hi, hz0, hz1, hz2⟩ := info_parts byteInfo
  have h := run_make (P := Tryd.prog) (w := W) 22 5 i0 (.int .u8 0) Tryd.underlying22 hi hz0 .i64 .i64 (m : Int) (m : Int) (by omega) (by omega) (by rw [hz2]; omega) (by omega)
  rw [h, hz1, brow_zero]
  have e : madeCells (Value.int .u8 0).cells (m * 1) = Array.replicate m (.int .u8 0) := by
    apply Array.ext_getElem?
    intro i
    by_cases hi : i < m
    · simp [madeCells, Value.cells, hi, Nat.mod_one]
    · simp [madeCells, Value.cells, hi]
  rw [← e]
  simp

set_option maxHeartbeats 400000 in
theorem digest_law (A : Option Addr) (l : List B8) (c : Nat) (Q : Nat → Prop) (n : Nat) (x : B8) (w : World) (hn : n < 65536) (hb : Bytes w Q (.slice A l.length c) l) (hT : Tables w) : Calls Tryd.prog 3 #[.slice A l.length c, .int .u16 n, byt x] w fun e w' => e = .returned (.bool true) ∧ Below w.heap.size w w' := by
  obtain ⟨A0, c0, e0, h1, h2, h3, h4⟩ := id hb
  cases e0
  obtain ⟨m, hm⟩ : ∃ m, m = n % 300 := ⟨_, rfl⟩
  have hmk := make_bytes ((n : Int) % 300) m (by omega) (by omega)
  have hmz : (m : Int) ≤ 300 := by omega
  clear hm
  go_enter Tryd.func3, Tryd.ntmps3
  go_wp2_with fail
  refine (short_any A l.length c h1 (by omega) _).mono ?_
  rintro e w1 ⟨rfl, rfl⟩
  go_wp2_with fail
  have k0 : Whole (w.alloc (.cells (brow m fun _ => 0) 5)) w.heap.size 5 (brow m fun _ => 0) := Whole.here _ _ _
  go_loopw [8] (fun i wr => ∃ k : Nat, k ≤ m ∧ i = .int .i64 k ∧ Whole wr w.heap.size 5 (brow m fun j => if j < k then x else 0) ∧ Below w.heap.size w wr) (fun i _ => m - (intOf i).toNat)
  case atStart => exact ⟨0, by omega, rfl, by simpa using k0, (Below.refl _ _).alloc (Nat.le_refl _) _⟩
  case round =>
    obtain ⟨k, hk, rfl, hw, hbr⟩ := hrel
    by_cases hlt : k < m
    · have hcell : wr.cell? ⟨w.heap.size, k, none⟩ = some (byt 0) := by rw [hw.cell, brow_get m _ k hlt, if_neg (by omega)]
      have hfr : wr.frozen? ⟨w.heap.size, k, none⟩ = false := hw.frozen k
      have hset := hw.set k (byt x)
      rw [brow_set m _ k x hlt, brow_congr (g := fun j => if j < k + 1 then x else 0) (fun j _ => by
        by_cases e1 : j = k
        · rw [if_pos e1, if_pos (by omega)]
        · by_cases e2 : j < k
          · rw [if_neg e1, if_pos e2, if_pos (by omega)]
          · rw [if_neg e1, if_neg e2, if_neg (by omega)])] at hset
      go_wp2
      go_roundw
      case rel => exact ⟨k + 1, by omega, by go_num, hset, hbr.setCell (Nat.le_refl _) _⟩
      case measure => simp [intOf]; omega
    · have hkm : k = m := by omega
      subst hkm
      rw [brow_congr (g := fun _ => x) (fun j hj => if_pos hj)] at hw
      have hbl : Bytes wr (fun _ => True) (.slice (some ⟨w.heap.size, 0, none⟩) k k) (List.replicate k x) :=
        ⟨some ⟨w.heap.size, 0, none⟩, k, by simp, by simp, by unfold maxLen; omega, fun h => (by cases h), fun _ => ⟨_, 0, rfl, trivial, fun j y hj => by
          obtain ⟨hj1, rfl⟩ : j < k ∧ y = x := by
            rw [List.getElem?_replicate] at hj
            split at hj
            · exact ⟨‹_›, by injection hj with hj; exact hj.symm⟩
            · cases hj
          rw [hw.cell, Nat.zero_add]
          exact brow_get k _ j hj1⟩⟩
      have hbs : Bytes wr Q (.slice A (min l.length 700) c) (l.take 700) := by
        have := (hb.below hbr (Nat.le_refl _)).take (min l.length 700) (Nat.min_le_left _ _)
        rwa [show l.take (min l.length 700) = l.take 700 by rw [List.take_eq_take_iff]; omega] at this
      have hTr : Tables wr := hT.below (Nat.le_refl _) hbr
      have te := tag_eql (sha (l.take 700)) (digest_length _)
      have te2 := tag_eql (sha (List.replicate k x)) (digest_length _)
      have hs0 := hbr.size
      clear hw k0 hmk h4 hb hT
      go_wp2_with fail
      refine (of_ _ _ _ _ hbs hTr (by simp; omega)).mono ?_
      rintro e w1 ⟨rfl, hb1⟩
      have hbs1 := hbs.below hb1 (Nat.le_refl _)
      have hbl1 := hbl.below hb1 (Nat.le_refl _)
      have hT1 := hTr.below (Nat.le_refl _) hb1
      have hw1 := hbr.trans (hb1.mono hs0)
      clear hb1 hTr hbr hbs hbl
      go_wp2_with fail
      refine (ref_sha _ _ _ _ hbs1 (by simp; omega)).mono ?_
      rintro e w2 ⟨rfl, hb2⟩
      have hbl2 := hbl1.below hb2 (Nat.le_refl _)
      have hT2 := hT1.below (Nat.le_refl _) hb2
      have hw2 := hw1.trans (hb2.mono hw1.size)
      clear hb2 hT1 hw1 hbl1 hbs1
      go_wp2_with fail
      refine (of_ _ _ _ _ hbl2 hT2 (by simp; omega)).mono ?_
      rintro e w3 ⟨rfl, hb3⟩
      have hbl3 := hbl2.below hb3 (Nat.le_refl _)
      have hT3 := hT2.below (Nat.le_refl _) hb3
      have hw3 := hw2.trans (hb3.mono hw2.size)
      clear hb3 hT2 hw2 hbl2
      go_wp2_with fail
      refine (ref_sha _ _ _ _ hbl3 (by simp; omega)).mono ?_
      rintro e w4 ⟨rfl, hb4⟩
      have hT4 := hT3.below (Nat.le_refl _) hb4
      have hw4 := hw3.trans (hb4.mono hw3.size)
      clear hb4 hT3 hw3 hbl3
      go_wp2_with fail
      refine (awake _ hT4).mono ?_
      rintro e w5 ⟨rfl, hb5⟩
      have hw5 := hw4.trans (hb5.mono hw4.size)
      clear hb5 hT4 hw4
      go_wp2
      go_ret
      exact ⟨rfl, hw5⟩
end Go.Proofs.YtbbpdcnmoabooaaDoor
