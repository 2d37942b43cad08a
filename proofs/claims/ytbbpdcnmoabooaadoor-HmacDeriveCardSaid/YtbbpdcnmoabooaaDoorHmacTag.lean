/-
  The law of HmacTag: true, for all arguments.
-/
import Derived.Test.YtbbpdcnmoabooaaDoorHmacLaw
namespace Go.Proofs.YtbbpdcnmoabooaaDoor
open Go Go.RowKit Sh Leaf

theorem min_take (l : List B8) (m : Nat) : (if (m : Int) < (l.length : Int) then (m : Int) else (l.length : Int)) = ((l.take m).length : Int) := by
  rw [List.length_take]
  split <;> omega
theorem Bytes.cut {w : World} {Q : Nat → Prop} {A : Option Addr} {l : List B8} {c : Nat} (h : Bytes w Q (.slice A l.length c) l) (m : Nat) : Bytes w Q (.slice A (l.take m).length c) (l.take m) := by
  have := h.take (min m l.length) (Nat.min_le_right _ _)
  rw [List.length_take]
  rwa [show l.take (min m l.length) = l.take m by rw [List.take_eq_take_iff]; omega] at this

set_option maxHeartbeats 1000000 in
theorem tag_law (A A' : Option Addr) (l l' : List B8) (c c' : Nat) (Q Q' : Nat → Prop) (n : Nat) (hn : n < 256) (w : World) (hb : Bytes w Q (.slice A l.length c) l) (hb' : Bytes w Q' (.slice A' l'.length c') l') (hT : Tables w) :
    Calls Tryd.prog 8 #[.slice A l.length c, .slice A' l'.length c', .int .u8 n] w fun e w' => e = .returned (.bool true) ∧ Below w.heap.size w w' := by
  obtain ⟨A0, c0, e0, h1, h2, h3, h4⟩ := id hb
  cases e0
  obtain ⟨A0, c0, e0, h1', h2', h3', h4'⟩ := id hb'
  cases e0
  have hp := hb.cut 300
  have hp' := hb'.cut 500
  have e1 := min_take l 300
  have e2 := min_take l' 500
  have E1 := Lib.hid e1
  have E2 := Lib.hid e2
  clear hb hb' h4 h4' e1 e2
  obtain ⟨m, hm⟩ : ∃ m, m = n % 140 := ⟨_, rfl⟩
  have hmk := make_bytes ((n : Int) % 140) m (by omega) (by omega)
  have hmz : (m : Int) ≤ 140 := by omega
  clear hm
  go_enter Tryd.func8, Tryd.ntmps8
  go_wp2
  go_quiet (fail)
  rw [show (300 : Int) = ((300 : Nat) : Int) by rfl, show (500 : Int) = ((500 : Nat) : Int) by rfl, E1.out, E2.out]
  simp only [Int.toNat_natCast]
  have hpl : (l.take 300).length ≤ 300 := by simp; omega
  have hpl' : (l'.take 500).length ≤ 500 := by simp; omega
  generalize l.take 300 = p at hp hpl ⊢
  generalize l'.take 500 = p' at hp' hpl' ⊢
  go_wp2
  have k0 : Whole ((w.drewN nq).alloc (.cells (brow m fun _ => 0) 5)) w.heap.size 5 (brow m fun _ => 0) := Whole.at_ _ _ _ _ rfl
  have hb0 : Below w.heap.size w (w.drewN nq) := below_drewN (Below.refl _ _) nq
  go_loopw [8] (fun i wr => ∃ k : Nat, k ≤ m ∧ i = .int .i64 k ∧ Whole wr w.heap.size 5 (brow m fun j => if j < k then BitVec.ofNat 8 (n + j) else 0) ∧ Below w.heap.size w wr) (fun i _ => m - (intOf i).toNat)
  case atStart => exact ⟨0, by omega, rfl, by simpa using k0, hb0.alloc (Nat.le_refl _) _⟩
  case round =>
    obtain ⟨k, hk, rfl, hw, hbr⟩ := hrel
    clear k0 hb0 hmk
    by_cases hlt : k < m
    · have hcell : wr.cell? ⟨w.heap.size, k, none⟩ = some (byt 0) := by rw [hw.cell, brow_get m _ k hlt, if_neg (by omega)]
      have hfr : wr.frozen? ⟨w.heap.size, k, none⟩ = false := hw.frozen k
      have hset := hw.set k (byt (BitVec.ofNat 8 (n + k)))
      rw [brow_set m _ k _ hlt, brow_congr (g := fun j => if j < k + 1 then BitVec.ofNat 8 (n + j) else 0) (fun j _ => by
        by_cases e1 : j = k
        · subst e1; rw [if_pos rfl, if_pos (by omega)]
        · by_cases e2 : j < k
          · rw [if_neg e1, if_pos e2, if_pos (by omega)]
          · rw [if_neg e1, if_neg e2, if_neg (by omega)])] at hset
      have hbr2 := hbr.setCell (p := ⟨w.heap.size, k, none⟩) (Nat.le_refl _) (byt (BitVec.ofNat 8 (n + k)))
      have hval : bv (BitVec.ofNat 8 (n + k)) = ((n : Int) + (k : Int)) % 256 := by rw [bv_ofNat]; omega
      rw [byt, hval] at hset hbr2
      have HS := Lib.hid (And.intro hset hbr2)
      clear hset hbr2 hw hbr hval
      go_wp2
      go_roundw
      case rel => exact ⟨k + 1, by omega, by go_num, HS.out.1, HS.out.2⟩
      case measure => simp [intOf]; omega
    · have hkm : k = m := by omega
      subst hkm
      obtain ⟨K, hK⟩ : ∃ K : List B8, K = (List.range k).map fun j => BitVec.ofNat 8 (n + j) := ⟨_, rfl⟩
      have hKl : K.length = k := by rw [hK]; simp
      have hKr : brow k (fun j => if j < k then BitVec.ofNat 8 (n + j) else 0) = (K.map byt).toArray := by
        rw [← brow_list, hKl]
        refine brow_congr fun j hj => ?_
        rw [if_pos hj, hK]
        simp [List.getD_eq_getElem?_getD, hj]
      rw [hKr] at hw
      have hbk := hw.bytes (by omega)
      rw [hKl] at hbk
      have hp1 := hp.below hbr (Nat.le_refl _)
      have hp1' := hp'.below hbr (Nat.le_refl _)
      have hT1 := hT.below (Nat.le_refl _) hbr
      clear hw hKr hp hp' hT hK
      have ml1 : (hmac p p').length = 32 := sha_length _
      have ml2 : (hmac K p').length = 32 := sha_length _
      have te := tag_eql (hmac p p') ml1
      have te2 := tag_eql (hmac K p') ml2
      have hc1 := fun W h1 h2 h3 => hof (.slice A p.length c) (.slice A' p'.length c') p p' Q Q' W h1 h2 h3 (by omega) (by omega)
      have hc2 := fun W h1 h2 => ref_hmac (.slice A p.length c) (.slice A' p'.length c') p p' Q Q' W h1 h2 (by omega) (by omega)
      have hc3 := fun W h1 h2 h3 => hof (.slice (some ⟨w.heap.size, 0, none⟩) k k) (.slice A' p'.length c') K p' (fun b => b = w.heap.size) Q' W h1 h2 h3 (by omega) (by omega)
      have hc4 := fun W h1 h2 => ref_hmac (.slice (some ⟨w.heap.size, 0, none⟩) k k) (.slice A' p'.length c') K p' (fun b => b = w.heap.size) Q' W h1 h2 (by omega) (by omega)
      generalize hmac p p' = M at hc1 hc2 te
      generalize hmac K p' = N at hc3 hc4 te2
      have C1 := Lib.hid hc1
      have C2 := Lib.hid hc2
      have C3 := Lib.hid hc3
      have C4 := Lib.hid hc4
      clear hc1 hc2 hc3 hc4 ml1 ml2
      go_wp2_with fail
      refine (C1.out _ hp1 hp1' hT1).mono ?_
      rintro e w1 ⟨rfl, hb1⟩
      have hw1 := hbr.trans (hb1.mono hbr.size)
      have hp2 := hp1.below hb1 (Nat.le_refl _)
      have hp2' := hp1'.below hb1 (Nat.le_refl _)
      have hbk2 := hbk.below hb1 (Nat.le_refl _)
      have hT2 := hT1.below (Nat.le_refl _) hb1
      clear hb1 hp1 hp1' hbk hT1 hbr
      go_wp2_with fail
      refine (C2.out _ hp2 hp2').mono ?_
      rintro e w2 ⟨rfl, hb2⟩
      have hw2 := hw1.trans (hb2.mono hw1.size)
      have hp3' := hp2'.below hb2 (Nat.le_refl _)
      have hbk3 := hbk2.below hb2 (Nat.le_refl _)
      have hT3 := hT2.below (Nat.le_refl _) hb2
      clear hb2 hp2 hp2' hbk2 hT2 hw1
      go_wp2_with fail
      refine (C3.out _ hbk3 hp3' hT3).mono ?_
      rintro e w3 ⟨rfl, hb3⟩
      have hw3 := hw2.trans (hb3.mono hw2.size)
      have hp4' := hp3'.below hb3 (Nat.le_refl _)
      have hbk4 := hbk3.below hb3 (Nat.le_refl _)
      have hT4 := hT3.below (Nat.le_refl _) hb3
      clear hb3 hp3' hbk3 hT3 hw2
      go_wp2_with fail
      refine (C4.out _ hbk4 hp4').mono ?_
      rintro e w4 ⟨rfl, hb4⟩
      have hw4 := hw3.trans (hb4.mono hw3.size)
      have hT5 := hT4.below (Nat.le_refl _) hb4
      clear hb4 hp4' hbk4 hT4 hw3
      go_wp2_with fail
      refine (hawake _ hT5).mono ?_
      rintro e w5 ⟨rfl, hb5⟩
      have hw5 := hw4.trans (hb5.mono hw4.size)
      clear hb5 hT5 hw4
      go_wp2
      go_ret
      exact ⟨rfl, hw5⟩
end Go.Proofs.YtbbpdcnmoabooaaDoor
