/-
  The law of ShaState: true, for all arguments.
-/
import Derived.Test.YtbbpdcnmoabooaaDoorShaSame
import Derived.Test.YtbbpdcnmoabooaaDoorHmacEqLaw
namespace Go.Proofs.YtbbpdcnmoabooaaDoor
open Go Go.RowKit Sh Leaf

theorem zeros_whole (w : World) (m : Nat) (hm : m ≤ 1000000) : Bytes (w.alloc (.cells (brow m fun _ => 0) 5)) (fun b => b = w.heap.size) (.slice (some ⟨w.heap.size, 0, none⟩) m m) (List.replicate m 0) := by
  have hr : (brow m fun _ => 0) = ((List.replicate m (0 : B8)).map byt).toArray := by
    have h := brow_list (List.replicate m (0 : B8))
    rw [List.length_replicate] at h
    rw [← h]
    refine brow_congr fun j hj => ?_
    simp [List.getD_eq_getElem?_getD, hj]
  have hk : Whole (w.alloc (.cells (brow m fun _ => 0) 5)) w.heap.size 5 ((List.replicate m (0 : B8)).map byt).toArray := by rw [hr]; exact Whole.here _ _ _
  have := hk.bytes (by simp; omega)
  rwa [List.length_replicate] at this

set_option maxHeartbeats 2000000 in
theorem state_law (A : Option Addr) (l : List B8) (c : Nat) (Q : Nat → Prop) (n : Nat) (w : World) (hn : n < 65536) (hb : Bytes w Q (.slice A l.length c) l) (hT : Tables w) :
    Calls Tryd.prog 4 #[.slice A l.length c, .int .u16 n] w fun e w' => e = .returned (.bool true) ∧ Below w.heap.size w w' := by
  obtain ⟨A0, c0, e0, h1, h2, h3, h4⟩ := id hb
  cases e0
  obtain ⟨m, hm⟩ : ∃ m, m = n % 300 := ⟨_, rfl⟩
  have hmk := make_bytes ((n : Int) % 300) m (by omega) (by omega)
  have hmz : m ≤ 300 := by omega
  clear hm h4
  have hp := short_bytes hb
  obtain ⟨p, hpp⟩ : ∃ p, p = l.take 700 := ⟨_, rfl⟩
  have hpl : p.length ≤ 700 := by rw [hpp]; simp; omega
  have hbm : min l.length 700 = p.length := by rw [hpp]; simp; omega
  rw [← hpp, hbm] at hp
  have HBM := Lib.hid hbm
  clear hb hpp hbm
  have hz := zeros_whole w m (by omega)
  obtain ⟨z, hzz⟩ : ∃ z : List B8, z = List.replicate m 0 := ⟨_, rfl⟩
  have hzl : z.length = m := by rw [hzz]; simp
  rw [← hzz] at hz
  clear hzz
  have hq0 : Below w.heap.size w (w.alloc (.cells (brow m fun _ => 0) 5)) := (Below.refl _ _).alloc (Nat.le_refl _) _
  have hp1 := hp.below hq0 (Nat.le_refl _)
  have hT1 := hT.below (Nat.le_refl _) hq0
  clear hp hT
  go_enter Tryd.func4, Tryd.ntmps4
  go_wp2_with fail
  refine (short_any A l.length c h1 (by omega) _).mono ?_
  rintro e w1 ⟨rfl, rfl⟩
  rw [HBM.out]
  clear h1 h2 h3 HBM
  go_wp2_with fail
  generalize w.alloc (.cells (brow m fun _ => 0) 5) = W1 at hz hq0 hp1 hT1 ⊢
  refine (new_st _ hT1).mono ?_
  rintro e w2 ⟨rfl, hb2⟩
  have hz2 := hz.below hb2 (Nat.le_refl _)
  have hp2 := hp1.below hb2 (Nat.le_refl _)
  have hT2 := hT1.below (Nat.le_refl _) hb2
  have hw2 := hq0.trans (hb2.mono hq0.size)
  clear hz hp1 hT1 hq0 hb2 hmk
  go_wp2_with fail
  refine (ref_state _ [] _ _ (Bytes.nil _ (fun _ => True)) (by simp)).mono ?_
  rintro e w3 ⟨v3, rfl, hv3, hb3⟩
  have hz3 := hz2.below hb3 (Nat.le_refl _)
  have hp3 := hp2.below hb3 (Nat.le_refl _)
  have hT3 := hT2.below (Nat.le_refl _) hb3
  have hw3 := hw2.trans (hb3.mono hw2.size)
  clear hz2 hp2 hT2 hw2 hb3
  go_wp2_with fail
  refine (same_states (stAfter []) _ _ _ (restOf []) _ _ _ (Bytes.nil _ (fun _ => True)) hv3 (by simp [restOf])).mono ?_
  rintro e w4 ⟨rfl, hb4⟩
  have hz4 := hz3.below hb4 (Nat.le_refl _)
  have hp4 := hp3.below hb4 (Nat.le_refl _)
  have hT4 := hT3.below (Nat.le_refl _) hb4
  have hw4 := hw3.trans (hb4.mono hw3.size)
  clear hz3 hp3 hT3 hw3 hb4 hv3
  go_wp2_with fail
  refine (new_st _ hT4).mono ?_
  rintro e w5 ⟨rfl, hb5⟩
  have hz5 := hz4.below hb5 (Nat.le_refl _)
  have hp5 := hp4.below hb5 (Nat.le_refl _)
  have hT5 := hT4.below (Nat.le_refl _) hb5
  have hw5 := hw4.trans (hb5.mono hw4.size)
  clear hz4 hp4 hT4 hw4 hb5
  go_wp2_with fail
  refine (write_st [] p _ _ (fun _ => True) Q _ (Bytes.nil _ _) hp5 hT5.1 (by simp) (by omega)).mono ?_
  rintro e w6 ⟨v6, rfl, hv6, hb6⟩
  rw [List.nil_append] at hv6 ⊢
  have hz6 := hz5.below hb6 (Nat.le_refl _)
  have hp6 := hp5.below hb6 (Nat.le_refl _)
  have hT6 := hT5.below (Nat.le_refl _) hb6
  have hw6 := hw5.trans (hb6.mono hw5.size)
  clear hz5 hp5 hT5 hw5 hb6
  go_wp2_with fail
  refine (ref_state _ p _ _ hp6 (by omega)).mono ?_
  rintro e w7 ⟨v7, rfl, hv7, hb7⟩
  have hz7 := hz6.below hb7 (Nat.le_refl _)
  have hp7 := hp6.below hb7 (Nat.le_refl _)
  have hT7 := hT6.below (Nat.le_refl _) hb7
  have hv67 := hv6.below hb7 (Nat.le_refl _)
  have hw7 := hw6.trans (hb7.mono hw6.size)
  clear hz6 hp6 hT6 hw6 hb7 hv6
  go_wp2_with fail
  refine (same_states (stAfter p) _ _ _ (restOf p) _ _ _ hv67 hv7 (by rw [restOf_length]; omega)).mono ?_
  rintro e w8 ⟨rfl, hb8⟩
  have hz8 := hz7.below hb8 (Nat.le_refl _)
  have hp8 := hp7.below hb8 (Nat.le_refl _)
  have hT8 := hT7.below (Nat.le_refl _) hb8
  have hw8 := hw7.trans (hb8.mono hw7.size)
  clear hz7 hp7 hT7 hw7 hb8 hv67 hv7
  go_wp2_with fail
  refine (new_st _ hT8).mono ?_
  rintro e w9 ⟨rfl, hb9⟩
  have hz9 := hz8.below hb9 (Nat.le_refl _)
  have hp9 := hp8.below hb9 (Nat.le_refl _)
  have hT9 := hT8.below (Nat.le_refl _) hb9
  have hw9 := hw8.trans (hb9.mono hw8.size)
  clear hz8 hp8 hT8 hw8 hb9
  go_wp2_with fail
  refine (write_st [] p _ _ (fun _ => True) Q _ (Bytes.nil _ _) hp9 hT9.1 (by simp) (by omega)).mono ?_
  rintro e w10 ⟨v10, rfl, hv10, hb10⟩
  rw [List.nil_append] at hv10 ⊢
  have hz10 := hz9.below hb10 (Nat.le_refl _)
  have hp10 := hp9.below hb10 (Nat.le_refl _)
  have hT10 := hT9.below (Nat.le_refl _) hb10
  have hw10 := hw9.trans (hb10.mono hw9.size)
  clear hz9 hp9 hT9 hw9 hb10
  go_wp2_with fail
  refine (write_st p z _ _ _ _ _ hv10 hz10 hT10.1 (by omega) (by omega)).mono ?_
  rintro e w11 ⟨v11, rfl, hv11, hb11⟩
  have hz11 := hz10.below hb11 (Nat.le_refl _)
  have hp11 := hp10.below hb11 (Nat.le_refl _)
  have hT11 := hT10.below (Nat.le_refl _) hb11
  have hw11 := hw10.trans (hb11.mono hw10.size)
  clear hz10 hp10 hT10 hw10 hb11 hv10
  obtain ⟨P, hP⟩ : ∃ P, P = p ++ z := ⟨_, rfl⟩
  have hPl : P.length ≤ 1000 := by rw [hP]; simp; omega
  rw [← hP] at hv11 ⊢
  have HP := Lib.hid hP
  clear hP
  go_wp2_with (first
    | (at_builtin; refine wpList_append_wanted (by go_simp) (.tmp 31) (.tmp 32) (by rfl) w11.heap.size _ p (by rfl) hown12 _ _ z (by rfl) hz12 (by omega) hs12 ?_; intro v13 w13 hown13 hb13)
    | (at_builtin; refine wpList_append_wanted (by go_simp) (.tmp 29) (.tmp 30) (by rfl) w11.heap.size (.slice (some ⟨w11.heap.size, 0, none⟩) 0 0) [] (by rfl) (own_lit w11 w11.heap.size [] (Nat.le_refl _) (by simp)) Q _ p (by rfl) (hp11.alloc _) (by simp; omega) (by simp) ?_; intro v12 w12 hown12 hb12; rw [List.nil_append] at hown12; have hq12 := ((Below.refl w11.heap.size w11).alloc (Nat.le_refl _) _).trans hb12; have hz12 := hz11.below hq12 (Nat.le_refl _); have hs12 := hq12.size))
  have hq13 := hq12.trans hb13
  have hby13 := Bytes.of_own hown13
  rw [← HP.out] at hby13
  have hv13 := hv11.below hq13 (Nat.le_refl _)
  have hT13 := hT11.below (Nat.le_refl _) hq13
  have hw13 := hw11.trans (hq13.mono hw11.size)
  clear hown13 hown12 hq12 hq13 hb12 hb13 hz12 hs12 hv11 hT11 hw11 hz11 hp11
  refine (ref_state _ P _ _ hby13 (by omega)).mono ?_
  rintro e w14 ⟨v14, rfl, hv14, hb14⟩
  have hv13' := hv13.below hb14 (Nat.le_refl _)
  have hT14 := hT13.below (Nat.le_refl _) hb14
  have hw14 := hw13.trans (hb14.mono hw13.size)
  clear hv13 hT13 hw13 hb14 hby13
  go_wp2_with fail
  refine (same_states (stAfter P) _ _ _ (restOf P) _ _ _ hv13' hv14 (by rw [restOf_length]; omega)).mono ?_
  rintro e w15 ⟨rfl, hb15⟩
  have hT15 := hT14.below (Nat.le_refl _) hb15
  have hw15 := hw14.trans (hb15.mono hw14.size)
  clear hv13' hv14 hT14 hw14 hb15
  go_wp2_with fail
  refine (awake _ hT15).mono ?_
  rintro e w16 ⟨rfl, hb16⟩
  have hw16 := hw15.trans (hb16.mono hw15.size)
  clear hT15 hw15 hb16
  go_wp2
  go_ret
  exact ⟨rfl, hw16⟩
end Go.Proofs.YtbbpdcnmoabooaaDoor
