/-
  The law FieldLists: true, for all arguments.
-/
import Derived.Test.YtfokedbipicmoaaFldBack
import Derived.Test.YtfokedbipicmoaaKMake
import Derived.Test.YtfokedbipicmoaaKRows2
import Derived.Deep.DeepCutAuto
namespace Go.Proofs.Ytfokedbipicmoaa
open Go Go.RowKit Sh Leaf

/-- What make laid, found in its block. -/
theorem elem_made {w : World} {B g m : Nat} {Z : List B8} (hZ : Z = List.replicate m 0) (hm : m ≤ 1000000) (h : w.heap[g]? = some (.cells (brow m fun _ => 0#8) 5 (0, 0))) : Elem w B (.slice (some ⟨g, 0, none⟩) m m) Z := by
  have hw : Whole w g 5 ((List.replicate m (0 : B8)).map byt).toArray := by
    unfold Whole
    rw [← brow_zeros]
    exact h
  have := Elem.whole (B := B) hw (by simpa using hm)
  rw [List.length_replicate] at this
  rw [hZ]
  exact this

set_option maxRecDepth 100000 in
set_option maxHeartbeats 8000000 in
theorem lists_law (vl : Value) (ll : List (List B8)) (A : Option Addr) (l : List B8) (c : Nat) (Q : Nat → Prop) (n : Int) (hn : 0 ≤ n ∧ n ≤ 65535) (w : World) (hL : Lists w vl ll) (hb : Bytes w Q (.slice A l.length c) l) :
    Calls Try.prog 5 #[vl, .slice A l.length c, .int .u16 n] w fun e w' => e = .returned (.bool true) ∧ Below w.heap.size w w' := by
  obtain ⟨A0, c0, e0, h1, h2, h3, h4⟩ := id hb
  cases e0
  have h2' : c ≤ 9223372036854775807 := by unfold maxLen at h2; omega
  obtain ⟨B, d, us, rfl, -⟩ := id hL
  have hp := hb.cut 200
  have E1 := min_take l 200
  have hpl : (l.take 200).length ≤ 200 := by simp; omega
  have hpc : ((l.take 200).length : Int) ≤ (c : Int) := by simp; omega
  have hp0 : (0 : Int) ≤ ((l.take 200).length : Int) := by omega
  have hpcn : (l.take 200).length ≤ c := by omega
  have hok := cutl_okl ll
  have hcl := cutl_len ll
  have HCA := Lib.hid (cutl_all ll)
  clear hb h4 h2 h3 hok
  rw [show ((200 : Nat) : Int) = 200 by rfl] at E1
  generalize l.take 200 = p at hp E1 hpl hpc hp0 hpcn
  obtain ⟨cl, hcl0⟩ : ∃ cl, cl = cutl ll := ⟨_, rfl⟩
  rw [← hcl0] at hcl HCA
  have HC := Lib.hid hcl0
  have hp' := hp.mono (Q' := fun _ => True) fun _ _ _ => trivial
  obtain ⟨hn0, hn1⟩ := hn
  obtain ⟨m, hm⟩ : ∃ m : Nat, m = (1000 + n % 50).toNat := ⟨_, rfl⟩
  have hmk := make_bytes (m : Int) m rfl (by omega)
  have hmz : m ≤ 1050 := by omega
  have hw1 : IntKind.i64.wrap n = n := by rw [IntKind.wrap_i64]; omega
  have hw2 : IntKind.i64.wrap (1000 + n.tmod 50) = (m : Int) := by rw [Int.tmod_eq_emod_of_nonneg hn0, IntKind.wrap_i64]; omega
  have HM := Lib.hid hmk
  have HW1 := Lib.hid hw1
  have HW2 := Lib.hid hw2
  clear hcl0 hm hp hmk hw1 hw2
  go_enter Try.func5, Try.ntmps5
  go_upto_region 1 with fail
  go_cut [0, 1] (fun s0 s1 wx => ∃ A1 c1, s0 = .slice A1 cl.length c1 ∧ s1 = .slice A p.length c ∧ Lists wx (.slice A1 cl.length c1) cl ∧ Below w.heap.size w wx)
  case first =>
    go_region_held3 (fun _ => True) (trivial)
      (first | (go_at_call 16; refine (few_ _ ll _ hL.drew).mono ?_; rintro e w1 ⟨v1, rfl, hl1, hb1⟩))
    all_goals
      rw [← HC.out] at hl1
      obtain ⟨A1, c1, us1, rfl, -⟩ := id hl1
      go_wp2_with fail
      go_meet
      exact ⟨A1, c1, rfl, rfl, hl1, (Below.refl _ _).drew.trans hb1⟩
  case rest =>
    obtain ⟨A1, c1, rfl, rfl, hl1, hq1⟩ := hcut
    rename World => w1
    have hp1 := hp'.below hq1 (Nat.le_refl _)
    clear hL hp' E1 hpc hp0 hpcn
    go_wp2_with fail
    obtain ⟨J, EJ, hJ⟩ : ∃ J E, jn cl = (J, E) := ⟨_, _, rfl⟩
    have hJl := jn_len cl
    rw [hJ] at hJl
    have HJ := Lib.hid hJ
    obtain ⟨K, EK, hK⟩ : ∃ K E, alls p = (K, E) := ⟨_, _, rfl⟩
    have hKl := alls_count p
    rw [hK] at hKl
    have HK := Lib.hid hK
    have HKO := Lib.hid (alls_okl hK)
    obtain ⟨Z, hZ⟩ : ∃ Z, Z = List.replicate m (0 : B8) := ⟨_, rfl⟩
    have hZl : Z.length = m := by rw [hZ]; simp
    have HZ := Lib.hid hZ
    have HZL := Lib.hid hZl
    obtain ⟨LL, hLL⟩ : ∃ LL, LL = cl ++ [Z] := ⟨_, rfl⟩
    have hLLl : LL.length ≤ 21 := by rw [hLL]; simp; omega
    have HLL := Lib.hid hLL
    clear hLL
    obtain ⟨X, EX, hX⟩ : ∃ X E, jn LL = (X, E) := ⟨_, _, rfl⟩
    have hXl := jn_len LL
    rw [hX] at hXl
    have HX := Lib.hid hX
    have hJl' : J.length ≤ 1000000 := by simp at hJl; omega
    have hKl' : K.length ≤ 1000000 := by simp at hKl; omega
    have hXl' : X.length ≤ 1000000 := by simp at hXl; omega
    clear hJ hK hZ hZl hX hJl hKl hXl
    refine (fjoin _ cl _ hl1 (by omega)).mono ?_
    rintro e w2 ⟨v2, rfl, hj2, hb2⟩
    rw [HJ.out] at hj2 ⊢
    have hl2 := hl1.below hb2 (Nat.le_refl _)
    have hp2 := hp1.below hb2 (Nat.le_refl _)
    have hq2 := hq1.trans (hb2.mono hq1.size)
    obtain ⟨A2, c2, rfl, -⟩ := id hj2
    clear hl1 hp1 hq1 hb2
    go_wp2_with fail
    refine (rjoin _ cl _ hl2 (by omega)).mono ?_
    rintro e w3 ⟨v3, rfl, hj3, hb3⟩
    rw [HJ.out] at hj3 ⊢
    have hl3 := hl2.below hb3 (Nat.le_refl _)
    have hp3 := hp2.below hb3 (Nat.le_refl _)
    have hj23 := hj2.below hb3 (Nat.le_refl _)
    have hq3 := hq2.trans (hb3.mono hq2.size)
    obtain ⟨A3, c3, rfl, -⟩ := id hj3
    clear hl2 hp2 hq2 hb3 hj2
    go_wp2_with fail
    refine (fall _ p _ _ hp3 (by omega)).mono ?_
    rintro e w4 ⟨v4, rfl, hk4, hb4⟩
    rw [HK.out] at hk4 ⊢
    have hl4 := hl3.below hb4 (Nat.le_refl _)
    have hp4 := hp3.below hb4 (Nat.le_refl _)
    have hj24 := hj23.below hb4 (Nat.le_refl _)
    have hj34 := hj3.below hb4 (Nat.le_refl _)
    have hq4 := hq3.trans (hb4.mono hq3.size)
    obtain ⟨A4, c4, us4, rfl, -⟩ := id hk4
    clear hl3 hp3 hq3 hb4 hj23 hj3
    go_wp2_with fail
    refine (rall _ p _ _ hp4 (by omega)).mono ?_
    rintro e w5 ⟨v5, rfl, hk5, hb5⟩
    rw [HK.out] at hk5 ⊢
    have hl5 := hl4.below hb5 (Nat.le_refl _)
    have hj25 := hj24.below hb5 (Nat.le_refl _)
    have hj35 := hj34.below hb5 (Nat.le_refl _)
    have hk45 := hk4.below hb5 (Nat.le_refl _)
    have hq5 := hq4.trans (hb5.mono hq4.size)
    obtain ⟨A5, c5, us5, rfl, -⟩ := id hk5
    clear hl4 hp4 hq4 hb5 hj24 hj34 hk4
    obtain ⟨us, hvals, heach⟩ := hl5.vals
    have husl : us.length ≤ 20 := by rw [heach.1]; omega
    have hmk := HM.out
    have hw1 := HW1.out
    have hw2 := HW2.out
    clear hl5
    go_upto_region 6 with fail
    go_cut [15] (fun s15 wx => ∃ A6 c6, s15 = .slice A6 LL.length c6 ∧ Lists wx (.slice A6 LL.length c6) LL ∧ Below w5.heap.size w5 wx)
    case first =>
      clear hj25 hj35 hk45 hk5 hq5
      go_region_held3 (fun _ => True) (trivial)
        (first
          | (refine step_append_found (by rfl) _ _ (by rfl) w5.heap.size v1 us (by rfl) (own_below hown1 (Ctx.low (by repeat (first | with_reducible exact Ctx.refl _ | with_reducible refine Ctx.drew ?_ | with_reducible refine Ctx.alloc ?_ _))) (Nat.le_refl _)) _ 1 (by rfl) _ _ (by repeat (first | with_reducible refine blk_drew ?_ | ((with_reducible refine blk_new _ _ _ ?_); (simp; done)) | with_reducible refine blk_alloc ?_ _ | ((with_reducible refine hK1 _ _ ?_ ?_); rotate_left; (simp [Value.ownBlock] <;> omega)))) (by rfl) (by omega) (Ctx.low (w := w5) (by repeat (first | with_reducible exact Ctx.refl _ | with_reducible exact hC1 | with_reducible refine Ctx.drew ?_ | with_reducible refine Ctx.alloc ?_ _))).size ?_; intro v9 w9 hown9 hb9 hk9 hg9; have hC9 : Ctx w5 w9 := Ctx.trans (by repeat (first | with_reducible exact Ctx.refl _ | with_reducible exact hC1 | with_reducible refine Ctx.drew ?_ | with_reducible refine Ctx.alloc ?_ _)) hb9 hk9)
          | (refine step_append_vals (by rfl) _ _ (by rfl) w5.heap.size _ [] (by rfl) (own_empty (by repeat (first | with_reducible refine blk_drew ?_ | ((with_reducible refine blk_new _ _ _ ?_); (simp; done)) | with_reducible refine blk_alloc ?_ _)) (by omega)) _ us (by rfl) (hvals.ctx (by repeat (first | with_reducible exact Ctx.refl _ | with_reducible refine Ctx.drew ?_ | with_reducible refine Ctx.alloc ?_ _))) (by simp; omega) (Ctx.low (w := w5) (by repeat (first | with_reducible exact Ctx.refl _ | with_reducible refine Ctx.drew ?_ | with_reducible refine Ctx.alloc ?_ _))).size ?_; intro v1 w1' hown1 hb1 hk1 hg1; rw [List.nil_append] at hown1; have hC1 : Ctx w5 w1' := Ctx.trans (by repeat (first | with_reducible exact Ctx.refl _ | with_reducible refine Ctx.drew ?_ | with_reducible refine Ctx.alloc ?_ _)) hb1 hk1; have hK1 := fun (g : Nat) (o : Obj) h hn => blk_grown (g := g) (o := o) hg1 h hn))
      all_goals
        obtain ⟨gz, hown9', hz9⟩ : ∃ gz, w9.ownsRow w5.heap.size 22 1 v9 (us ++ [Value.slice (some ⟨gz, 0, none⟩) m m]).length (us ++ [Value.slice (some ⟨gz, 0, none⟩) m m]) ∧ w9.heap[gz]? = some (.cells (brow m fun _ => 0#8) 5 (0, 0)) := by
          first
            | exact ⟨w5.heap.size, hown9, hk9 _ _ _ (by repeat (first | with_reducible refine blk_drew ?_ | ((with_reducible refine blk_new _ _ _ ?_); (simp; done)) | with_reducible refine blk_alloc ?_ _ | ((with_reducible refine hK1 _ _ ?_ ?_); rotate_left; (simp [Value.ownBlock] <;> omega))))⟩
            | exact ⟨w5.heap.size + 1, hown9, hk9 _ _ _ (by repeat (first | with_reducible refine blk_drew ?_ | ((with_reducible refine blk_new _ _ _ ?_); (simp; done)) | with_reducible refine blk_alloc ?_ _ | ((with_reducible refine hK1 _ _ ?_ ?_); rotate_left; (simp [Value.ownBlock] <;> omega))))⟩
            | exact ⟨w1'.heap.size, hown9, hk9 _ _ _ (by repeat (first | with_reducible refine blk_drew ?_ | ((with_reducible refine blk_new _ _ _ ?_); (simp; done)) | with_reducible refine blk_alloc ?_ _ | ((with_reducible refine hK1 _ _ ?_ ?_); rotate_left; (simp [Value.ownBlock] <;> omega))))⟩
        have hz : Elem w9 w5.heap.size (.slice (some ⟨gz, 0, none⟩) m m) Z := elem_made HZ.out (by omega) hz9
        have hE := (heach.keep hC9.low hC9.kb).snoc hz
        have hl9 := Lists.of_own hown9' hE
        rw [← HLL.out] at hl9
        obtain ⟨A9, c9, us9, rfl, -⟩ := id hl9
        go_wp2_with fail
        go_meet
        exact ⟨A9, c9, rfl, hl9, hC9.low⟩
    case rest =>
      obtain ⟨A6, c6, rfl, hl6, hb6⟩ := hcut
      rename World => w6
      have hj26 := hj25.below hb6 (Nat.le_refl _)
      have hj36 := hj35.below hb6 (Nat.le_refl _)
      have hk46 := hk45.below hb6 (Nat.le_refl _)
      have hk56 := hk5.below hb6 (Nat.le_refl _)
      have hq6 := hq5.trans (hb6.mono hq5.size)
      have hlong : LL.length ≤ 1000000 := by omega
      clear hj25 hj35 hk45 hk5 hq5 hb6 hmk hw1 hw2
      go_wp2_with fail
      refine (fjoin _ LL _ hl6 hlong).mono ?_
      rintro e w7 ⟨v7, rfl, hu7, hb7⟩
      rw [HX.out] at hu7 ⊢
      have hj27 := hj26.below hb7 (Nat.le_refl _)
      have hj37 := hj36.below hb7 (Nat.le_refl _)
      have hk47 := hk46.below hb7 (Nat.le_refl _)
      have hk57 := hk56.below hb7 (Nat.le_refl _)
      have hl7 := hl6.below hb7 (Nat.le_refl _)
      have hq7 := hq6.trans (hb7.mono hq6.size)
      obtain ⟨A7, c7, rfl, -⟩ := id hu7
      clear hj26 hj36 hk46 hk56 hl6 hq6 hb7
      go_wp2_with fail
      refine (rjoin _ LL _ hl7 hlong).mono ?_
      rintro e w8 ⟨v8, rfl, hu8, hb8⟩
      rw [HX.out] at hu8 ⊢
      have hj28 := hj27.below hb8 (Nat.le_refl _)
      have hj38 := hj37.below hb8 (Nat.le_refl _)
      have hk48 := hk47.below hb8 (Nat.le_refl _)
      have hk58 := hk57.below hb8 (Nat.le_refl _)
      have hu78 := hu7.below hb8 (Nat.le_refl _)
      have hq8 := hq7.trans (hb8.mono hq7.size)
      obtain ⟨A8, c8, rfl, -⟩ := id hu8
      clear hj27 hj37 hk47 hk57 hl7 hq7 hb8 hu7
      go_wp2_with fail
      refine (same_ _ _ J J _ _ _ hj28 hj38 hJl' hJl').mono ?_
      rintro e w9 ⟨rfl, hb9⟩
      rw [show decide (J = J) = true by simp]
      have hk49 := hk48.below hb9 (Nat.le_refl _)
      have hk59 := hk58.below hb9 (Nat.le_refl _)
      have hu79 := hu78.below hb9 (Nat.le_refl _)
      have hu89 := hu8.below hb9 (Nat.le_refl _)
      have hq9 := hq8.trans (hb9.mono hq8.size)
      clear hj28 hj38 hk48 hk58 hu78 hu8 hq8 hb9
      go_wp2_with fail
      refine (rsame _ _ K K _ hk49 hk59 (fun x hx => by have := HKO.out x hx; omega) (fun x hx => by have := HKO.out x hx; omega) hKl').mono ?_
      rintro e w10 ⟨rfl, hb10⟩
      rw [show decide (K = K) = true by simp]
      have hu710 := hu79.below hb10 (Nat.le_refl _)
      have hu810 := hu89.below hb10 (Nat.le_refl _)
      have hq10 := hq9.trans (hb10.mono hq9.size)
      clear hk49 hk59 hu79 hu89 hq9 hb10
      go_wp2_with fail
      refine (same_ _ _ X X _ _ _ hu710 hu810 hXl' hXl').mono ?_
      rintro e w11 ⟨rfl, hb11⟩
      rw [show decide (X = X) = true by simp]
      have hq11 := hq10.trans (hb11.mono hq10.size)
      clear hu710 hu810 hq10 hb11
      go_wp2_with (go_at_call 11; refine (fawake _).mono ?_; rintro e w12 ⟨rfl, hb12⟩)
      go_ret
      exact ⟨rfl, hq11.trans (hb12.mono hq11.size)⟩
end Go.Proofs.Ytfokedbipicmoaa
