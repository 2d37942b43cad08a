/-
  The law FieldRead: true, for all arguments.
-/
import Derived.Test.YtfokedbipicmoaaFldBack
import Derived.Test.YtfokedbipicmoaaFldRead
import Derived.Test.YtfokedbipicmoaaKLit
import Derived.Deep.DeepCutAuto
namespace Go.Proofs.Ytfokedbipicmoaa
open Go Go.RowKit Sh Leaf

theorem row_129 : (#[Value.int .u8 129, Value.int .u8 8] : Array Value) = (([129, 8] : List B8).map byt).toArray := by
  simp [show (129 : B8) = BitVec.ofNat 8 129 by rfl, show (8 : B8) = BitVec.ofNat 8 8 by rfl, byt_lit]
theorem row_128 : (#[Value.int .u8 128, Value.int .u8 8] : Array Value) = (([128, 8] : List B8).map byt).toArray := by
  simp [show (128 : B8) = BitVec.ofNat 8 128 by rfl, show (8 : B8) = BitVec.ofNat 8 8 by rfl, byt_lit]
theorem seven : (7 : Int) = bv (BitVec.ofNat 8 7) := by rw [bv_lit 7 (by omega)]; rfl
theorem rdf_short_len (b : List B8) : (rdf b).1.length ≤ 1024 := by
  rcases rdf_cases b with ⟨e, _, h⟩ | ⟨n, k, _, _, hn, _, hl, h⟩
  · rw [h]; simp
  · rw [h]; show ((b.drop k).take n).length ≤ 1024; omega

set_option maxRecDepth 100000 in
set_option maxHeartbeats 8000000 in
theorem read_law (A : Option Addr) (l : List B8) (c : Nat) (Q : Nat → Prop) (A' : Option Addr) (l' : List B8) (c' : Nat) (Q' : Nat → Prop) (cut : Int) (hcut0 : -9223372036854775808 ≤ cut ∧ cut ≤ 9223372036854775807) (at_ : Int) (hat : -9223372036854775808 ≤ at_ ∧ at_ ≤ 9223372036854775807) (y : B8) (w : World)
    (hb : Bytes w Q (.slice A l.length c) l) (hb' : Bytes w Q' (.slice A' l'.length c') l') :
    Calls Try.prog 4 #[.slice A l.length c, .slice A' l'.length c', .int .i64 cut, .int .i64 at_, byt y] w fun e w' => e = .returned (.bool true) ∧ Below w.heap.size w w' := by
  obtain ⟨A0, c0, e0, h1, h2, h3, h4⟩ := id hb
  cases e0
  obtain ⟨A0, c0, e0, h1', h2', h3', h4'⟩ := id hb'
  cases e0
  have hp := hb.cut 100
  have hp' := hb'.cut 200
  have E1 := Lib.hid (min_take l 100)
  have E2 := Lib.hid (min_take l' 200)
  clear hb hb' h4 h4'
  go_enter Try.func4, Try.ntmps4
  go_wp2
  go_quiet (fail)
  rw [show (100 : Int) = ((100 : Nat) : Int) by rfl, show (200 : Int) = ((200 : Nat) : Int) by rfl, E1.out, E2.out]
  simp only [Int.toNat_natCast]
  have hpl : (l.take 100).length ≤ 100 := by simp; omega
  have hpl' : (l'.take 200).length ≤ 200 := by simp; omega
  clear E1 E2
  generalize l.take 100 = p at hp hpl ⊢
  generalize l'.take 200 = p' at hp' hpl' ⊢
  have hp0 := (hp.drewN nq).mono (Q' := fun g => g < w.heap.size) fun g hg _ => hg
  have hp0' := hp'.drewN nq
  have hb0 : Below w.heap.size w (w.drewN nq) := below_drewN (Below.refl _ _) nq
  have hsz : w.heap.size ≤ (w.drewN nq).heap.size := hb0.size
  generalize w.drewN nq = W0 at hp0 hp0' hb0 hsz ⊢
  clear hp hp' h1 h2 h3 h1' h2' h3'
  have hfl := fld_len (x := p') (by omega)
  go_wp2_with fail
  refine (rfield _ p' _ _ hp0' (by omega)).mono ?_
  rintro e w1 ⟨v1, rfl, hown1, hb1⟩
  have hp1 := hp0.below hb1 (show W0.heap.size ≤ W0.heap.size from Nat.le_refl _)
  have hq1 := hb0.trans (hb1.mono hsz)
  have hs1 := hb1.size
  clear hp0 hp0' hb1 hb0
  go_wp2_with (at_builtin; go_must (first
    | ((refine wpList_append_bytes rfl (.tmp 35) (.tmp 36) rfl w2.heap.size (.slice (some ⟨w2.heap.size, 0, none⟩) 0 0) [] rfl (own_lit w2 w2.heap.size [] (Nat.le_refl _) (by simp)) _ _ Y rfl (hY2.alloc _) (by simp; omega) (by simp) ?_); intro v3 w3 hown3 hb3; rw [List.nil_append] at hown3; obtain ⟨gz, cz, cur, rfl, hgz, hhz, hcz, hmz, hsz2, htz⟩ := own_open hown3 hYl.2)
    | ((refine wpList_append_bytes rfl (.tmp 32) (.tmp 33) rfl W0.heap.size v1 (fld p') rfl (hown1.alloc _) _ (.slice (some ⟨w1.heap.size, 0, none⟩) 1 1) [BitVec.ofNat 8 7] rfl (bytes_one w1 _ _ seven) (by simp; omega) (by simp; omega) ?_); intro v2 w2 hown2 hb2; have hbx := ((Below.refl w1.heap.size w1).alloc (Nat.le_refl _) (.cells #[.int .u8 7] 5)); have hp2 := ((hp1.alloc (.cells #[.int .u8 7] 5)).keep (w' := w2) fun g _ hg => hb2.block g (by omega)); have hq2 := (hq1.trans (hbx.mono (by omega))).trans (hb2.mono hsz); obtain ⟨Y, hYe⟩ : ∃ Y, Y = fld p' ++ [BitVec.ofNat 8 7] := ⟨_, rfl⟩; rw [← hYe] at hown2; have hYl : Y.length ≤ 1000 ∧ 0 < Y.length := (by rw [hYe]; constructor <;> simp only [List.length_append, List.length_cons, List.length_nil] <;> omega); clear hYe; have hY2 : Bytes w2 (fun g => g < w2.heap.size) v2 Y := (Bytes.of_own hown2).mono (fun g hg _ => hg); obtain ⟨Ay, cy, rfl, -⟩ := id hY2; clear hbx hp1 hown1 hown2)))
  obtain ⟨hYl1, hYp⟩ := hYl
  have hbe := ((Below.refl w2.heap.size w2).alloc (Nat.le_refl _) (.cells #[] 5)).trans hb3
  have hs2 := hq2.size
  have hY3 := hY2.below hbe (Nat.le_refl _)
  have hp3 := hp2.below hbe (Nat.le_refl _)
  have hq3 := hq2.trans (hbe.mono hs2)
  clear hY2 hp2 hq2 hbe hown3 hb3 hb2
  refine (within_ at_ Y.length (by omega) (by omega) hat _).mono ?_
  rintro e w4 ⟨⟨i, hi, rfl⟩, rfl⟩
  have hi' : i < Y.length := by omega
  have hc := hhz.cell i
  rw [htz i Y[i] (List.getElem?_eq_getElem hi')] at hc
  have hz0 := hhz.frozen i
  have hset := hhz.set i (byt y)
  have hZ : Bytes (w4.setCell ⟨gz, i, none⟩ (byt y)) (fun _ => True) (.slice (some ⟨gz, 0, none⟩) Y.length cz) (Y.set i y) := by
    have := bytes_row (l := Y.set i y) hset (by simp; omega) hmz (fun j x hj => by
      rw [Array.getElem?_setIfInBounds]
      rw [List.getElem?_set] at hj
      by_cases e : i = j
      · rw [if_pos e] at hj ⊢
        rw [if_pos (by omega)] at hj ⊢
        rw [Option.some.inj hj]
      · rw [if_neg e] at hj ⊢
        exact htz j x hj)
    rw [List.length_set] at this
    exact this.mono fun _ _ _ => trivial
  have hq4 : Below w.heap.size w (w4.setCell ⟨gz, i, none⟩ (byt y)) := hq3.setCell (p := ⟨gz, i, none⟩) (by show w.heap.size ≤ gz; omega) (byt y)
  have hp4 := (hp3.keep (w' := w4.setCell ⟨gz, i, none⟩ (byt y)) (fun b _ hq => heap_setCell_other w4 ⟨gz, i, none⟩ b (byt y) (by show b ≠ gz; omega))).mono (Q' := fun _ => True) fun _ _ _ => trivial
  have hY4 := (hY3.keep (w' := w4.setCell ⟨gz, i, none⟩ (byt y)) (fun b _ hq => heap_setCell_other w4 ⟨gz, i, none⟩ b (byt y) (by show b ≠ gz; omega))).mono (Q' := fun _ => True) fun _ _ _ => trivial
  have hZl : (Y.set i y).length = Y.length := by simp
  obtain ⟨Z, hZe⟩ : ∃ Z, Z = Y.set i y := ⟨_, rfl⟩
  rw [← hZe] at hZ hZl
  have HZL := Lib.hid hZl
  clear hset hhz hcz hmz hsz2 htz hZe hY3 hp3 hq3 hZl
  go_upto_region 5 with fail
  clear hc hz0
  generalize w4.setCell ⟨gz, i, none⟩ (byt y) = W5 at hp4 hY4 hZ hq4 ⊢
  have hcy : Y.length ≤ cy := by
    obtain ⟨A9, c9, e9, h9, -⟩ := id hY4
    cases e9
    exact h9
  go_cut [13] (fun s13 wx => ∃ (g : Nat) (LL : List (List B8)), LL.length = 6 ∧ s13 = .slice (some ⟨g, 0, none⟩) 6 6 ∧ Lists wx (.slice (some ⟨g, 0, none⟩) 6 6) LL ∧ Below w.heap.size w wx)
  case first =>
    go_region_held3 (fun _ => True) (trivial)
      (first
        | (go_at_call 13; refine (within_ cut Y.length (by omega) (by omega) hcut0 _).mono ?_; rintro e w5 ⟨⟨j, hj, rfl⟩, rfl⟩; have hj1 : (j : Int) ≤ (cy : Int) := (by omega); have hj0 : (0 : Int) ≤ (j : Int) := (by omega); have hj2 : j ≤ Y.length := (by omega))
        | (refine step_append_lit (by rfl) _ _ (by rfl) _ [129, 8] (by rfl) #[.int .u8 129, .int .u8 8] (by repeat (first | with_reducible refine blk_drew ?_ | ((with_reducible refine blk_new _ _ _ ?_); (simp; done)) | with_reducible refine blk_alloc ?_ _ | with_reducible refine blk_up hbB ?_ | with_reducible refine blk_up hbD ?_)) row_129 (by simp) _ (.slice A p.length c) p (by rfl) (hp4.up (by repeat (first | with_reducible exact Up.refl _ | with_reducible refine Up.drew ?_ | with_reducible refine Up.alloc ?_ _ | with_reducible refine Up.trans ?_ hbB | with_reducible refine Up.trans ?_ hbD))) (by omega) ?_; intro vB wB hB hbB; obtain ⟨LB, hLB⟩ : ∃ LB : List B8, LB = [129, 8] ++ p := ⟨_, rfl⟩; rw [← hLB] at hB; clear hLB; obtain ⟨AB, cB, rfl, -⟩ := id hB)
        | (refine step_append_lit_zeros (by rfl) _ _ (by rfl) _ [128, 8] (by rfl) #[.int .u8 128, .int .u8 8] (by repeat (first | with_reducible refine blk_drew ?_ | ((with_reducible refine blk_new _ _ _ ?_); (simp; done)) | with_reducible refine blk_alloc ?_ _ | with_reducible refine blk_up hbB ?_ | with_reducible refine blk_up hbD ?_)) row_128 (by simp) 1024 (by rfl) (by omega) (by omega) ?_; intro vD wD hD hbD; obtain ⟨LD, hLD⟩ : ∃ LD : List B8, LD = [128, 8] ++ List.replicate 1024 (0 : B8) := ⟨_, rfl⟩; rw [← hLD] at hD; clear hLD; obtain ⟨AD, cD, rfl, -⟩ := id hD))
    all_goals
      go_wp2_with fail
      go_meet
      refine ⟨_, [p, Y, Y.take j, Z, LB, LD], rfl, rfl, ?_, hq4.trans (Below.mono (show Up W5 _ from (by repeat (first | with_reducible exact Up.refl _ | with_reducible refine Up.drew ?_ | with_reducible refine Up.alloc ?_ _ | with_reducible refine Up.trans ?_ hbB | with_reducible refine Up.trans ?_ hbD))) hq4.size)⟩
      refine Lists.of_cells _ 6 [.slice A p.length c, .slice Ay Y.length cy, .slice Ay j cy, .slice (some ⟨gz, 0, none⟩) Y.length cz, .slice AB LB.length cB, .slice AD LD.length cD] [p, Y, Y.take j, Z, LB, LD] (Nat.le_refl 6) (by omega) rfl (cells_new _ _ _ _ (by first | rfl | (simp; done) | (simp; omega))) ?_
      intro q u x h1 h2
      match q, h1, h2 with
      | 0, h1, h2 => simp only [List.getElem?_cons_zero, Option.some.injEq] at h1 h2; subst h1 h2; exact hp4.up (by repeat (first | with_reducible exact Up.refl _ | with_reducible refine Up.drew ?_ | with_reducible refine Up.alloc ?_ _ | with_reducible refine Up.trans ?_ hbB | with_reducible refine Up.trans ?_ hbD))
      | 1, h1, h2 => simp only [List.getElem?_cons_zero, List.getElem?_cons_succ, Option.some.injEq] at h1 h2; subst h1 h2; exact hY4.up (by repeat (first | with_reducible exact Up.refl _ | with_reducible refine Up.drew ?_ | with_reducible refine Up.alloc ?_ _ | with_reducible refine Up.trans ?_ hbB | with_reducible refine Up.trans ?_ hbD))
      | 2, h1, h2 => simp only [List.getElem?_cons_zero, List.getElem?_cons_succ, Option.some.injEq] at h1 h2; subst h1 h2; exact (hY4.take j hj2).up (by repeat (first | with_reducible exact Up.refl _ | with_reducible refine Up.drew ?_ | with_reducible refine Up.alloc ?_ _ | with_reducible refine Up.trans ?_ hbB | with_reducible refine Up.trans ?_ hbD))
      | 3, h1, h2 => simp only [List.getElem?_cons_zero, List.getElem?_cons_succ, Option.some.injEq] at h1 h2; subst h1 h2; exact hZ.up (by repeat (first | with_reducible exact Up.refl _ | with_reducible refine Up.drew ?_ | with_reducible refine Up.alloc ?_ _ | with_reducible refine Up.trans ?_ hbB | with_reducible refine Up.trans ?_ hbD))
      | 4, h1, h2 => simp only [List.getElem?_cons_zero, List.getElem?_cons_succ, Option.some.injEq] at h1 h2; subst h1 h2; exact hB.up (by repeat (first | with_reducible exact Up.refl _ | with_reducible refine Up.drew ?_ | with_reducible refine Up.alloc ?_ _ | with_reducible refine Up.trans ?_ hbB | with_reducible refine Up.trans ?_ hbD))
      | 5, h1, h2 => simp only [List.getElem?_cons_zero, List.getElem?_cons_succ, Option.some.injEq] at h1 h2; subst h1 h2; exact hD.up (by repeat (first | with_reducible exact Up.refl _ | with_reducible refine Up.drew ?_ | with_reducible refine Up.alloc ?_ _ | with_reducible refine Up.trans ?_ hbB | with_reducible refine Up.trans ?_ hbD))
      | q + 6, h1, h2 => simp at h1
  case rest =>
    obtain ⟨g, LL, hLL, rfl, hL5, hq5⟩ := hcut
    rename World => w5
    have HLL := Lib.hid hLL
    clear hp4 hY4 hZ hq4 hcy hLL hpl hpl' hfl
    go_wp2_with fail
    go_loopw [14] (fun vi wr => ∃ k : Nat, k ≤ 6 ∧ vi = .int .i64 k ∧ Lists wr (.slice (some ⟨g, 0, none⟩) 6 6) LL ∧ Below w.heap.size w wr) (fun vi _ => 6 - (intOf vi).toNat)
    case atStart => exact ⟨0, by omega, rfl, hL5, hq5⟩
    case round =>
      obtain ⟨k, hk, rfl, hL, hq⟩ := hrel
      clear hL5 hq5
      by_cases hk6 : k = 6
      · subst hk6
        clear hL
        go_wp2_with (go_at_call 11; refine (fawake _).mono ?_; rintro e w9 ⟨rfl, hb9⟩)
        go_ret
        exact ⟨rfl, hq.trans (hb9.mono hq.size)⟩
      · have hk6' : (k : Int) < 6 := by omega
        obtain ⟨-, -, -, hget⟩ := hL.get
        obtain ⟨g0, o0, A6, c6, e0, hc, hx, hg⟩ := hget k (by rw [HLL.out]; omega)
        injection e0 with e0
        injection e0 with e1 e2 _
        subst e1 e2
        rw [Nat.zero_add] at hc
        obtain ⟨R1, R2, R3, hR⟩ : ∃ R1 R2 R3, rdf (LL[k]'(by rw [HLL.out]; omega)) = (R1, R2, R3) := ⟨_, _, _, rfl⟩
        have hRl := rdf_short_len (LL[k]'(by rw [HLL.out]; omega))
        rw [hR] at hRl
        have HR := Lib.hid hR
        have hRl' : R1.length ≤ 1000000 := by simp at hRl; omega
        have hlen6 : LL.length = 6 := HLL.out
        clear hget hR hRl hk6
        generalize LL[k]'(by rw [hlen6]; omega) = x at *
        clear hlen6
        go_wp2_with fail
        refine (fread _ x _ _ hx).mono ?_
        rintro e w6 ⟨v6, rfl, hr6, hb6⟩
        rw [HR.out] at hr6 ⊢
        have hx6 := hx.below hb6 (Nat.le_refl _)
        have hL6 := hL.below hb6 (Nat.le_refl _)
        have hc6 := (hb6.cell (p := ⟨g, k, none⟩) hg).trans hc
        have hq6 := hq.trans (hb6.mono hq.size)
        have hr6' := Bytes.of_own hr6
        obtain ⟨A7, c7, rfl, -⟩ := id hr6'
        clear hx hL hc hr6 hb6 hq hg
        go_wp2_with fail
        refine (rread _ x _ _ hx6).mono ?_
        rintro e w7 ⟨v7, rfl, hr7, hb7⟩
        rw [HR.out] at hr7 ⊢
        have hL7 := hL6.below hb7 (Nat.le_refl _)
        have hr67 := hr6'.below hb7 (Nat.le_refl _)
        have hq7 := hq6.trans (hb7.mono hq6.size)
        obtain ⟨A8, c8, rfl, -⟩ := id hr7
        clear hx6 hL6 hc6 hb7 hq6 hr6'
        go_wp2_with (go_at_call 10; refine (same_ _ _ R1 R1 _ _ _ hr67 hr7 hRl' hRl').mono ?_; rintro e w8 ⟨rfl, hb8⟩; rw [show decide (R1 = R1) = true by simp])
        have hL8 := hL7.below hb8 (Nat.le_refl _)
        have hq8 := hq7.trans (hb8.mono hq7.size)
        clear hL7 hb8 hq7 hr67 hr7
        go_roundw
        case rel => exact ⟨k + 1, by omega, by go_num, hL8, hq8⟩
        case measure => simp [intOf]; omega
end Go.Proofs.Ytfokedbipicmoaa
