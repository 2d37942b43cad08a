/-
  The law of ShaParts: true, for all arguments.
-/
import Derived.Test.YtbbpdcnmoabooaaDoorShaStateLaw
namespace Go.Proofs.YtbbpdcnmoabooaaDoor
open Go Go.RowKit Sh Leaf

theorem bv_toNat (y : B8) : bv y = ((y.toNat : Nat) : Int) := by unfold bv; rfl

set_option maxRecDepth 20000 in
set_option maxHeartbeats 2000000 in
theorem parts_law (A A' : Option Addr) (l l' : List B8) (c c' : Nat) (Q Q' : Nat → Prop) (w : World) (hb : Bytes w Q (.slice A l.length c) l) (hb' : Bytes w Q' (.slice A' l'.length c') l') (hT : Tables w) :
    Calls Tryd.prog 5 #[.slice A l.length c, .slice A' l'.length c'] w fun e w' => e = .returned (.bool true) ∧ Below w.heap.size w w' := by
  obtain ⟨A0, c0, e0, h1, h2, h3, h4⟩ := id hb
  cases e0
  obtain ⟨A0, c0, e0, -, h2', -, -⟩ := id hb'
  cases e0
  have hp := short_bytes hb
  obtain ⟨p, hpp⟩ : ∃ p, p = l.take 700 := ⟨_, rfl⟩
  have hpl : p.length ≤ 700 := by rw [hpp]; simp; omega
  have hbm : min l.length 700 = p.length := by rw [hpp]; simp; omega
  rw [← hpp, hbm] at hp
  have HBM := Lib.hid hbm
  have hl' : (l'.length : Int) ≤ 9223372036854775807 := by
    obtain ⟨A0, c0, e0, h5, h6, -, -⟩ := id hb'
    unfold maxLen at h6
    omega
  clear hb hpp hbm h4
  go_enter Tryd.func5, Tryd.ntmps5
  go_wp2_with fail
  refine (short_any A l.length c h1 (by omega) _).mono ?_
  rintro e w1 ⟨rfl, rfl⟩
  rw [HBM.out]
  have hpc : p.length ≤ c := by
    obtain ⟨A0, c0, e0, h5, -, -, -⟩ := id hp
    cases e0
    exact h5
  clear h1 h2 h3 HBM h2'
  go_wp2_with fail
  refine (new_st _ hT).mono ?_
  rintro e w1 ⟨rfl, hb1⟩
  have hp1 := hp.below hb1 (Nat.le_refl _)
  have hp1' := hb'.below hb1 (Nat.le_refl _)
  have hT1 := hT.below (Nat.le_refl _) hb1
  have HB1 := Lib.hid hb1
  have HP1 := Lib.hid hp1
  have HP1' := Lib.hid hp1'
  have HT1 := Lib.hid hT1
  have HK1 := Lib.hid (Whole.here w1 34 (hstate [] (.slice none 0 0)))
  have HZ1 := Lib.hid ((Below.refl w1.heap.size w1).alloc (Nat.le_refl _) (.cells (hstate [] (.slice none 0 0)) 34))
  clear hb1 hp1 hp1' hT1 hp hb' hT
  go_wp2
  go_loopw [6, 7] (fun va vi wr => ∃ i at_ : Nat, ∃ A2 : Option Addr, ∃ c2 : Nat, i ≤ l'.length ∧ at_ ≤ p.length ∧ vi = .int .i64 i ∧ va = .int .i64 at_ ∧ Whole wr w1.heap.size 34 (hstate (p.take at_) (.slice A2 (restOf (p.take at_)).length c2)) ∧ Bytes wr (fun g => g ≠ w1.heap.size) (.slice A2 (restOf (p.take at_)).length c2) (restOf (p.take at_)) ∧ Below w1.heap.size w1 wr) (fun _ vi _ => l'.length - (intOf vi).toNat)
  case atStart => exact ⟨0, 0, none, 0, by omega, by omega, rfl, rfl, by rw [List.take_zero]; exact HK1.out, by rw [List.take_zero]; exact Bytes.nil _ _, HZ1.out⟩
  case round =>
    obtain ⟨i, at_, A2, c2, hi, ha, rfl, rfl, hk1, hv, hz⟩ := hrel
    obtain ⟨P, hP⟩ : ∃ P, P = p.take at_ := ⟨_, rfl⟩
    have hPl : P.length = at_ := by rw [hP, List.length_take]; omega
    rw [← hP] at hk1 hv
    by_cases hlt : i < l'.length
    by_cases hat : at_ < p.length
    focus
      have hbx := HP1.out.below hz (Nat.le_refl _)
      obtain ⟨A9, c9, e9, -, -, -, hcs⟩ := id (HP1'.out.below hz (Nat.le_refl _))
      cases e9
      obtain ⟨g, o, rfl, -, hcell⟩ := hcs (by omega)
      have hci := hcell i l'[i] (List.getElem?_eq_getElem hlt)
      rw [byt, bv_toNat] at hci
      obtain ⟨y, hy⟩ : ∃ y, y = l'[i].toNat := ⟨_, rfl⟩
      have hyl : y < 256 := by rw [hy]; exact l'[i].isLt
      rw [← hy] at hci
      obtain ⟨m, hm⟩ : ∃ m, m = min y (p.length - at_) := ⟨_, rfl⟩
      have hm1 : at_ + m ≤ p.length := by omega
      have HV := Lib.hid hv
      have HK := Lib.hid hk1
      have HZ := Lib.hid hz
      have HBX := Lib.hid hbx
      clear hcs hcell hy hv hk1 hz hbx
      have hcut := fun W => run_cut_mid A p.length c at_ (at_ + m) (by omega) (by omega) W
      rw [show at_ + m - at_ = m by omega] at hcut
      simp only [Int.natCast_add] at hcut
      have hby := (HBX.out.drop at_ (by omega)).take m (by rw [List.length_drop]; omega)
      generalize (if c = at_ then A else A.map (·.add at_)) = A3 at hcut hby
      obtain ⟨X, hX⟩ : ∃ X, X = (p.drop at_).take m := ⟨_, rfl⟩
      have hXl : X.length ≤ 700 := by rw [hX, List.length_take, List.length_drop]; omega
      have hPX : P ++ X = p.take (at_ + m) := by rw [hP, hX, List.take_add]
      rw [← hX] at hby
      have hrg : wr.rangeAt w1.heap.size 0 (hstate P (.slice A2 (restOf P).length c2)).toList := by
        intro a v hv
        rw [Nat.zero_add, HK.out.cell]
        simpa using hv
      have HPX := Lib.hid hPX
      have HPL := Lib.hid hPl
      have HC := Lib.hid hcut
      have HR := Lib.hid hrg
      have HY := Lib.hid hby
      clear hPX hX hP hPl hcut hrg hby HBX
      by_cases hcmp : (y : Int) ≤ (p.length : Int) - (at_ : Int)
      focus
        have hmy : m = y := by omega
        clear hm
        subst hmy
        go_wp2
      rotate_left
      focus
        have hmy : (p.length : Int) - (at_ : Int) = (m : Int) := by omega
        have HMY := Lib.hid hmy
        clear hmy hm
        go_wp2
        rw [HMY.out]
      all_goals
        refine wp_region_still_tail 7 (by kernel_rfl) (by kernel_rfl) ?_
        simp only [List.take_succ_cons, List.take_zero, List.drop_succ_cons, List.drop_zero]
        change wpStill _ _ wr.drew (fun a' => wpList _ _ _ _ a' wr.drew) _ _
        refine wpStill_load_run rfl 34 _ rfl w1.heap.size 0 rfl _ _ ((World.rangeAt_drew _ _ _ _).2 HR.out) Tryd.underlying34 rfl (by kernel_rfl) ?_
        refine wpStill_step (fun K hK => ?_); go_simp; refine hK _ ?_; clear hK K
        refine wpStill_step (fun K hK => ?_); go_simp; refine hK _ ?_; clear hK K
        refine wpStill_step (fun K hK => ?_); go_simp; refine hK _ ?_; clear hK K
        refine wpStill_step (fun K hK => ?_); go_simp; refine hK _ ?_; clear hK K
        refine wpStill_step (fun K hK => ?_); go_simp; (try go_bits); refine hK _ ?_; clear hK K
        refine wpStill_slice_run rfl 22 _ _ _ _ rfl _ (HC.out _) ?_
        refine wpStill_nil ?_
        clear HR HC
        go_wp2_with fail
        refine (write_st P X _ _ _ _ wr.drew HV.out HY.out (HT1.out.below (Nat.le_refl _) HZ.out).1 (by have := HPL.out; omega) (by omega)).mono ?_
        rintro e w5 ⟨v5, rfl, hv5, hb5⟩
        rw [HPX.out] at hv5 ⊢
        have hb5' : Below wr.heap.size wr w5 := ((Below.refl _ _).drew).trans hb5
        have hk5 := HK.out.below hb5' HK.out.lt
        have hz5 := HZ.out.trans (hb5'.mono HZ.out.size)
        have hgl : w1.heap.size < wr.heap.size := HK.out.lt
        obtain ⟨A5, c5, rfl, -⟩ := id hv5
        obtain ⟨N, hN⟩ : ∃ N, N = p.take (at_ + m) := ⟨_, rfl⟩
        rw [← hN] at hv5 ⊢
        have HN := Lib.hid hN
        clear hN hb5 hb5' HK HZ HV HY
        go_wp2_with (with_reducible refine wpList_store_row rfl 34 _ _ rfl w1.heap.size _ rfl rfl _ _ hk5.eq ?_ ?_ ?_ ?_)
        · kernel_rfl
        · simp
        · simp [Value.oneCell']
        · have hk6 := hk5.setRow (hstate N (.slice A5 (restOf N).length c5))
          have hz6 := below_setRow hz5 (Nat.le_refl _) (hstate N (.slice A5 (restOf N).length c5))
          have hv6 := (hv5.mono (Q' := fun g => g ≠ w1.heap.size) (fun g _ hg => by have hg' : wr.heap.size ≤ g := hg; omega)).setRow (b := w1.heap.size) (fun g hg => hg) (hstate N (.slice A5 (restOf N).length c5))
          have H6 := Lib.hid (And.intro hk6 (And.intro hv6 hz6))
          clear hk6 hv6 hz6 hk5 hz5 hv5
          go_roundw
          case rel => exact ⟨i + 1, at_ + m, A5, c5, by omega, by omega, by go_num, by go_num, by rw [← HN.out]; exact H6.out.1, by rw [← HN.out]; exact H6.out.2.1, H6.out.2.2⟩
          case measure => simp [intOf]; omega
    all_goals
      have hbx := HP1.out.below hz (Nat.le_refl _)
      have hcut := fun W => run_cut_from A p.length c at_ ha W
      have hby := hbx.drop at_ ha
      generalize (if c = at_ then A else A.map (·.add at_)) = A3 at hcut hby
      obtain ⟨X, hX⟩ : ∃ X, X = p.drop at_ := ⟨_, rfl⟩
      have hXl : X.length = p.length - at_ := by rw [hX, List.length_drop]
      have hPX : P ++ X = p := by rw [hP, hX]; exact List.take_append_drop _ _
      rw [← hX] at hby
      have hrg : wr.rangeAt w1.heap.size 0 (hstate P (.slice A2 (restOf P).length c2)).toList := by
        intro a v hv
        rw [Nat.zero_add, hk1.cell]
        simpa using hv
      have HPX := Lib.hid hPX
      have HPL := Lib.hid hPl
      have HXL := Lib.hid hXl
      have HC := Lib.hid hcut
      have HR := Lib.hid hrg
      have HY := Lib.hid hby
      have HV := Lib.hid hv
      have HK := Lib.hid hk1
      have HZ := Lib.hid hz
      clear hPX hX hP hPl hXl hcut hrg hby hbx hv hk1 hz
      go_wp2
      refine wp_region_still_tail 4 (by kernel_rfl) (by kernel_rfl) ?_
      simp only [List.take_succ_cons, List.take_zero, List.drop_succ_cons, List.drop_zero]
      change wpStill _ _ wr.drew (fun a' => wpList _ _ _ _ a' wr.drew) _ _
      refine wpStill_load_run rfl 34 _ rfl w1.heap.size 0 rfl _ _ ((World.rangeAt_drew _ _ _ _).2 HR.out) Tryd.underlying34 rfl (by kernel_rfl) ?_
      refine wpStill_step (fun K hK => ?_); go_simp; refine hK _ ?_; clear hK K
      refine wpStill_step (fun K hK => ?_); go_simp; refine hK _ ?_; clear hK K
      refine wpStill_slice_run rfl 22 _ _ _ _ rfl _ (HC.out _) ?_
      refine wpStill_nil ?_
      clear HR HC
      go_wp2_with fail
      refine (write_st P X _ _ _ _ wr.drew HV.out HY.out (HT1.out.below (Nat.le_refl _) HZ.out).1 (by have := HPL.out; omega) (by have := HXL.out; omega)).mono ?_
      rintro e w5 ⟨v5, rfl, hv5, hb5⟩
      rw [HPX.out] at hv5 ⊢
      have hb5' : Below wr.heap.size wr w5 := ((Below.refl _ _).drew).trans hb5
      have hk5 := HK.out.below hb5' HK.out.lt
      have hz5 := HZ.out.trans (hb5'.mono HZ.out.size)
      have hgl : w1.heap.size < wr.heap.size := HK.out.lt
      obtain ⟨A5, c5, rfl, -⟩ := id hv5
      have hrl : (restOf p).length ≤ 1000 := by rw [restOf_length]; omega
      have hc1 := fun W h1 h2 => of_ (.slice A p.length c) p Q W h1 h2 (by omega)
      have hc2 := fun W h1 => ref_sha (.slice A p.length c) p Q W h1 (by omega)
      have hc3 : ∀ W Q', Bytes W Q' (.slice A5 (restOf p).length c5) (restOf p) → Tables W → Calls Tryd.prog 20 #[.agg (hashv (stAfter p) (.slice A5 (restOf p).length c5) (p.length : Int))] W fun e w' => e = .returned (tagv (sha p)) ∧ Below W.heap.size W w' := fun W Q' h1 h2 => sum_st p _ Q' W h1 h2.1 (by omega)
      have ml : (sha p).length = 32 := sha_length _
      have te := tag_eql (sha p) ml
      unfold hstate
      generalize sha p = M at hc1 hc2 hc3 te ml
      generalize stAfter p = s at hc3 ⊢
      generalize restOf p = ρ at hc3 hv5 hrl ⊢
      have C1 := Lib.hid hc1
      have C2 := Lib.hid hc2
      have C3 := Lib.hid hc3
      have hk6 := hk5.setRow (hashv s (.slice A5 ρ.length c5) (p.length : Int))
      have hz6 := below_setRow hz5 (Nat.le_refl _) (hashv s (.slice A5 ρ.length c5) (p.length : Int))
      have hv6 := (hv5.mono (Q' := fun g => g ≠ w1.heap.size) (fun g _ hg => by have hg' : wr.heap.size ≤ g := hg; omega)).setRow (b := w1.heap.size) (fun g hg => hg) (hashv s (.slice A5 ρ.length c5) (p.length : Int))
      have hd6 : ∀ o, (w5.setRow w1.heap.size (hashv s (.slice A5 ρ.length c5) (p.length : Int))).cell? ⟨w1.heap.size, o, none⟩ = (hashv s (.slice A5 ρ.length c5) (p.length : Int))[o]? := fun o => hk6.cell o
      have HK6 := Lib.hid hk6
      have HZ6 := Lib.hid hz6
      have HV6 := Lib.hid hv6
      clear hk6 hz6 hv6 hz5 hv5 hb5' hb5 hc1 hc2 hc3 ml HK HV HZ HY HPX HPL HXL HK1 HZ1 HP1'
      go_wp2_with (first
        | (with_reducible refine wpList_store_row rfl 34 _ _ rfl w1.heap.size _ rfl rfl _ _ hk5.eq (by kernel_rfl) (by simp) (by simp [Value.oneCell']) ?_))
      generalize w5.setRow w1.heap.size (hashv s (.slice A5 ρ.length c5) (p.length : Int)) = W6 at HK6 HZ6 HV6 hd6 ⊢
      have hgl6 : w1.heap.size < W6.heap.size := HK6.out.lt
      have HBX := Lib.hid (HP1.out.below HZ6.out (Nat.le_refl _))
      have HTX := Lib.hid (HT1.out.below (Nat.le_refl _) HZ6.out)
      have HWX := Lib.hid (HB1.out.trans (HZ6.out.mono HB1.out.size))
      have HD0 := Lib.hid hd6
      have hq6 := Below.refl W6.heap.size W6
      clear hk5 hgl
      refine (C3.out W6 _ HV6.out HTX.out).mono ?_
      rintro e w11 ⟨rfl, hb11⟩
      have hq11 := hq6.trans (hb11.mono hq6.size)
      have hd11 : ∀ o, w11.cell? ⟨w1.heap.size, o, none⟩ = (hashv s (.slice A5 ρ.length c5) (p.length : Int))[o]? := fun o => (hq11.cell (p := ⟨w1.heap.size, o, none⟩) hgl6).trans (HD0.out o)
      clear hb11 hq6 hd6
      go_wp2_with fail
      refine (C1.out _ (HBX.out.below hq11 (Nat.le_refl _)) (HTX.out.below (Nat.le_refl _) hq11)).mono ?_
      rintro e w12 ⟨rfl, hb12⟩
      have hq12 := hq11.trans (hb12.mono hq11.size)
      have hd12 : ∀ o, w12.cell? ⟨w1.heap.size, o, none⟩ = (hashv s (.slice A5 ρ.length c5) (p.length : Int))[o]? := fun o => (hq12.cell (p := ⟨w1.heap.size, o, none⟩) hgl6).trans (HD0.out o)
      clear hb12 hq11 hd11
      go_wp2_with fail
      refine (C3.out _ _ (HV6.out.below hq12 (Nat.le_refl _)) (HTX.out.below (Nat.le_refl _) hq12)).mono ?_
      rintro e w13 ⟨rfl, hb13⟩
      have hq13 := hq12.trans (hb13.mono hq12.size)
      have hd13 : ∀ o, w13.cell? ⟨w1.heap.size, o, none⟩ = (hashv s (.slice A5 ρ.length c5) (p.length : Int))[o]? := fun o => (hq13.cell (p := ⟨w1.heap.size, o, none⟩) hgl6).trans (HD0.out o)
      clear hb13 hq12 hd12
      go_wp2_with fail
      refine (C2.out _ (HBX.out.below hq13 (Nat.le_refl _))).mono ?_
      rintro e w14 ⟨rfl, hb14⟩
      have hq14 := hq13.trans (hb14.mono hq13.size)
      have hd14 : ∀ o, w14.cell? ⟨w1.heap.size, o, none⟩ = (hashv s (.slice A5 ρ.length c5) (p.length : Int))[o]? := fun o => (hq14.cell (p := ⟨w1.heap.size, o, none⟩) hgl6).trans (HD0.out o)
      clear hb14 hq13 hd13
      go_wp2_with fail
      refine (awake _ (HTX.out.below (Nat.le_refl _) hq14)).mono ?_
      rintro e w15 ⟨rfl, hb15⟩
      have hq15 := hq14.trans (hb15.mono hq14.size)
      have hd15 : ∀ o, w15.cell? ⟨w1.heap.size, o, none⟩ = (hashv s (.slice A5 ρ.length c5) (p.length : Int))[o]? := fun o => (hq15.cell (p := ⟨w1.heap.size, o, none⟩) hgl6).trans (HD0.out o)
      clear hb15 hq14 hd14
      go_wp2
      go_ret
      exact ⟨rfl, HWX.out.trans (hq15.mono HWX.out.size)⟩
end Go.Proofs.YtbbpdcnmoabooaaDoor
