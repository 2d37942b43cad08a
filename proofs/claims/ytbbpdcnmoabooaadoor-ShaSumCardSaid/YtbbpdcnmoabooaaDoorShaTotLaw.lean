/-
  The law of ShaSum: true, for all arguments.
-/
import Derived.Test.YtbbpdcnmoabooaaDoorShaStateLaw
namespace Go.Proofs.YtbbpdcnmoabooaaDoor
open Go Go.RowKit Sh Leaf

set_option maxRecDepth 20000 in
set_option maxHeartbeats 2000000 in
theorem sum_law (A A' : Option Addr) (l l' : List B8) (c c' : Nat) (Q Q' : Nat → Prop) (w : World) (hb : Bytes w Q (.slice A l.length c) l) (hb' : Bytes w Q' (.slice A' l'.length c') l') (hT : Tables w) : Calls Tryd.prog 6 #[.slice A l.length c, .slice A' l'.length c'] w fun e w' => e = .returned (.bool true) ∧ Below w.heap.size w w' := by
  obtain ⟨A0, c0, e0, h1, h2, h3, h4⟩ := id hb
  cases e0
  obtain ⟨A0, c0, e0, h1', h2', h3', h4'⟩ := id hb'
  cases e0
  have hs := short_bytes hb
  have hs' := short_bytes hb'
  clear hb hb' h4 h4'
  go_enter Tryd.func6, Tryd.ntmps6
  go_wp2_with fail
  refine (short_any A l.length c h1 (by omega) _).mono ?_
  rintro e w1 ⟨rfl, rfl⟩
  go_wp2_with fail
  refine (short_any A' l'.length c' h1' (by omega) _).mono ?_
  rintro e w1 ⟨rfl, rfl⟩
  go_wp2_with fail
  refine (new_st _ hT).mono ?_
  rintro e w1 ⟨rfl, hb1⟩
  obtain ⟨b, hbb⟩ : ∃ b, b = l.take 700 := ⟨_, rfl⟩
  obtain ⟨d, hdd⟩ : ∃ d, d = l'.take 700 := ⟨_, rfl⟩
  have hbl : b.length ≤ 700 := by rw [hbb]; simp; omega
  have hdl : d.length ≤ 700 := by rw [hdd]; simp; omega
  rw [← hbb] at hs
  rw [← hdd] at hs'
  clear hbb hdd
  have hs1 := hs.below hb1 (Nat.le_refl _)
  have hs1' := hs'.below hb1 (Nat.le_refl _)
  have hT1 := hT.below (Nat.le_refl _) hb1
  have hw1 := hb1
  clear hb1 hs hs' hT
  go_wp2_with fail
  refine (write_st [] b _ _ (fun _ => True) Q _ (Bytes.nil _ _) hs1 hT1.1 (by simp) (by omega)).mono ?_
  rintro e w2 ⟨v2, rfl, hv2, hb2⟩
  rw [List.nil_append] at hv2 ⊢
  have hs2 := hs1.below hb2 (Nat.le_refl _)
  have hs2' := hs1'.below hb2 (Nat.le_refl _)
  have hT2 := hT1.below (Nat.le_refl _) hb2
  have hw2 := hw1.trans (hb2.mono hw1.size)
  clear hb2 hs1 hs1' hT1 hw1
  obtain ⟨A2, c2, rfl, -⟩ := id hv2
  go_wp2_with fail
  have k0 : Whole (w2.alloc (.cells (hstate b (.slice A2 (restOf b).length c2)) 34)) w2.heap.size 34 (hstate b (.slice A2 (restOf b).length c2)) := Whole.here _ _ _
  have hx : ∀ o, Below w.heap.size w (w2.alloc o) := fun o => hw2.alloc hw2.size o
  have hT2' : ∀ o, Tables (w2.alloc o) := fun o => hT2.below (Nat.le_refl _) ((Below.refl _ _).alloc (Nat.le_refl _) _)
  refine (sum_st b _ _ _ (hv2.alloc _) (hT2' _).1 (by omega)).mono ?_
  rintro e w3 ⟨rfl, hb3⟩
  have hs3 := (hs2.alloc _).below hb3 (Nat.le_refl _)
  have hs3' := (hs2'.alloc _).below hb3 (Nat.le_refl _)
  have hv3 := (hv2.alloc _).below hb3 (Nat.le_refl _)
  have hT3 := (hT2' _).below (Nat.le_refl _) hb3
  have k3 := k0.below hb3 k0.lt
  have hw3 := (hx _).trans (hb3.mono (hx _).size)
  clear hb3 hs2 hs2' hT2 hw2 hv2 hT2' hx k0
  have hdb : (sha b).length = 32 := digest_length _
  have HL := Lib.hid hdb
  have HZ : Hid ((Tryd.prog.info? 26).map (·.size) = some 32) := Lib.hid (by kernel_rfl)
  have n0 : ∀ cs, Whole (w3.alloc (.cells cs 26)) w3.heap.size 26 cs := fun cs => Whole.here _ _ _
  have hbx : ∀ cs, Below w3.heap.size w3 ((w3.alloc (.cells cs 26)).setRow w3.heap.size ((sha b).map byt).toArray) := fun cs => below_setRow ((Below.refl _ _).alloc (Nat.le_refl _) _) (Nat.le_refl _) _
  have n3 : ∀ cs, Whole ((w3.alloc (.cells cs 26)).setRow w3.heap.size ((sha b).map byt).toArray) w3.heap.size 26 ((sha b).map byt).toArray := fun cs => (n0 cs).setRow _
  have k3x := fun cs => k3.below (hbx cs) k3.lt
  clear hdb
  go_wp2_with (first
    | (with_reducible refine wpList_store_row rfl 26 _ _ rfl w3.heap.size _ rfl rfl _ _ (n0 _).eq (by rw [HZ.out]; simp [HL.out]) (by simp [HL.out]) (all_oneCell_toArray (byt_one _)) ?_)
    | (with_reducible refine wpList_load_row rfl 34 _ rfl _ rfl _ _ _ _ (k3x _).eq Tryd.underlying34 rfl (by kernel_rfl) ?_))
  refine (write_st b d _ _ _ Q' _ (hv3.below (hbx _) (Nat.le_refl _)) (hs3'.below (hbx _) (Nat.le_refl _)) (hT3.below (Nat.le_refl _) (hbx _)).1 (by omega) (by omega)).mono ?_
  rintro e w4 ⟨v4, rfl, hv4, hb4⟩
  obtain ⟨bd, hbd⟩ : ∃ bd, bd = b ++ d := ⟨_, rfl⟩
  have hbdl : bd.length ≤ 1400 := by rw [hbd]; simp; omega
  rw [← hbd] at hv4 ⊢
  have HE := Lib.hid hbd
  clear hbd
  have hz : w3.heap.size < ((w3.alloc (.cells (Array.replicate 32 (.int .u8 0)) 26)).setRow w3.heap.size ((sha b).map byt).toArray).heap.size := (n3 _).lt
  have hb4' := (hbx _).trans (hb4.mono (hbx _).size)
  have hs4 := hs3.below hb4' (Nat.le_refl _)
  have hs4' := hs3'.below hb4' (Nat.le_refl _)
  have hv4' := hv3.below hb4' (Nat.le_refl _)
  have hT4 := hT3.below (Nat.le_refl _) hb4'
  have k4 := k3.below hb4' k3.lt
  have n4 := (n3 _).below hb4 (n3 _).lt
  have hw4 := hw3.trans (hb4'.mono hw3.size)
  clear hb4 hb4' hs3 hs3' hT3 hw3 hv3 k3 hz n0 n3 k3x hbx
  have te := tag_eql (sha b) (digest_length _)
  have te2 := tag_eql (sha bd) (digest_length _)
  obtain ⟨A4, c4, rfl, -⟩ := id hv4
  have HD := Lib.hid hv4'
  go_wp2_with fail
  have hc1 := fun W h1 => ref_sha (.slice A (min l.length 700) c) b Q W h1 (by omega)
  have hc3 := fun W v Q' h1 => ref_sha v bd Q' W h1 (by omega)
  have hc4 : ∀ W Q', Bytes W Q' (.slice A2 (restOf b).length c2) (restOf b) → Tables W → Calls Tryd.prog 20 #[.agg (hashv (stAfter b) (.slice A2 (restOf b).length c2) (b.length : Int))] W fun e w' => e = .returned (tagv (sha b)) ∧ Below W.heap.size W w' := fun W Q' h1 h2 => sum_st b _ Q' W h1 h2.1 (by omega)
  have hc2 : ∀ W Q', Bytes W Q' (.slice A4 (restOf bd).length c4) (restOf bd) → Tables W → Calls Tryd.prog 20 #[.agg (hashv (stAfter bd) (.slice A4 (restOf bd).length c4) (bd.length : Int))] W fun e w' => e = .returned (tagv (sha bd)) ∧ Below W.heap.size W w' := fun W Q' h1 h2 => sum_st bd _ Q' W h1 h2.1 (by omega)
  have k5 : ∀ cs, Whole (w4.alloc (.cells cs 34)) w4.heap.size 34 cs := fun cs => Whole.here _ _ _
  have k5' := k5 (hashv (stAfter bd) (.slice A4 (restOf bd).length c4) (bd.length : Int))
  have hwx : Below w4.heap.size w4 (w4.alloc (.cells (hashv (stAfter bd) (.slice A4 (restOf bd).length c4) (bd.length : Int)) 34)) := (Below.refl _ _).alloc (Nat.le_refl _) _
  change Whole w4 w2.heap.size 34 (hashv (stAfter b) (.slice A2 (restOf b).length c2) (b.length : Int)) at k4
  unfold hstate
  clear k5 HD
  have hML := HL.out
  generalize sha b = M at hc1 hc4 te n4 hML hv4 ⊢
  generalize sha bd = N at hc2 hc3 te2
  generalize (b.length : Int) = n1 at hc4 k4 ⊢
  generalize (bd.length : Int) = n2 at hc2 k5' hwx ⊢
  generalize stAfter b = s1 at hc4 k4 ⊢
  generalize stAfter bd = s2 at hc2 k5' hwx ⊢
  generalize restOf b = ρ1 at hc4 k4 hv4' ⊢
  generalize restOf bd = ρ2 at hc2 k5' hwx hv4 ⊢
  change Whole (w4.alloc (.cells #[Value.int .u32 (iv s2.a), Value.int .u32 (iv s2.b), Value.int .u32 (iv s2.c), Value.int .u32 (iv s2.d), Value.int .u32 (iv s2.e), Value.int .u32 (iv s2.f), Value.int .u32 (iv s2.g), Value.int .u32 (iv s2.h), .slice A4 ρ2.length c4, .int .i64 n2] 34)) w4.heap.size 34 (hashv s2 (.slice A4 ρ2.length c4) n2) at k5'
  change Below w4.heap.size w4 (w4.alloc (.cells #[Value.int .u32 (iv s2.a), Value.int .u32 (iv s2.b), Value.int .u32 (iv s2.c), Value.int .u32 (iv s2.d), Value.int .u32 (iv s2.e), Value.int .u32 (iv s2.f), Value.int .u32 (iv s2.g), Value.int .u32 (iv s2.h), .slice A4 ρ2.length c4, .int .i64 n2] 34)) at hwx
  have hE : ∃ W0, W0 = (w4.alloc (.cells #[Value.int .u32 (iv s2.a), Value.int .u32 (iv s2.b), Value.int .u32 (iv s2.c), Value.int .u32 (iv s2.d), Value.int .u32 (iv s2.e), Value.int .u32 (iv s2.f), Value.int .u32 (iv s2.g), Value.int .u32 (iv s2.h), .slice A4 ρ2.length c4, .int .i64 n2] 34)) := ⟨_, rfl⟩
  obtain ⟨W0, hE⟩ := hE
  rw [← hE] at k5' hwx ⊢
  clear hE
  have kh := k4.below hwx k4.lt
  have kx := n4.below hwx n4.lt
  have HA := Lib.hid (hs4.below hwx (Nat.le_refl _))
  have HB := Lib.hid (hs4'.below hwx (Nat.le_refl _))
  have HC := Lib.hid (hv4'.below hwx (Nat.le_refl _))
  have HD := Lib.hid (hv4.below hwx (Nat.le_refl _))
  have HT := Lib.hid (hT4.below (Nat.le_refl _) hwx)
  have HW := Lib.hid (hw4.trans (hwx.mono hw4.size))
  have q2 : w2.heap.size < W0.heap.size := kh.lt
  have q3 : w3.heap.size < W0.heap.size := kx.lt
  have q4 : w4.heap.size < W0.heap.size := k5'.lt
  have hS0 : ∀ w', Below W0.heap.size W0 w' → w'.rangeAt w3.heap.size 0 (M.map byt) ∧ (∀ o, w'.cell? ⟨w2.heap.size, o, none⟩ = (hashv s1 (.slice A2 ρ1.length c2) n1)[o]?) ∧ (∀ o, w'.cell? ⟨w4.heap.size, o, none⟩ = (hashv s2 (.slice A4 ρ2.length c4) n2)[o]?) := fun w' hb =>
    ⟨fun j v hj => by rw [Nat.zero_add, hb.cell (p := ⟨w3.heap.size, j, none⟩) q3, kx.cell, List.getElem?_toArray]; exact hj,
     fun o => (hb.cell (p := ⟨w2.heap.size, o, none⟩) q2).trans (kh.cell o), fun o => (hb.cell (p := ⟨w4.heap.size, o, none⟩) q4).trans (k5'.cell o)⟩
  have HS := Lib.hid hS0
  have C1 := Lib.hid hc1
  have C2 := Lib.hid hc2
  have C3 := Lib.hid hc3
  have C4 := Lib.hid hc4
  have hu := Tryd.underlying26
  have hz : (Tryd.prog.info? 26).map (·.size) = some (M.map byt).length := by rw [HZ.out, List.length_map, hML]
  clear hS0 hc1 hc2 hc3 hc4 kh kx k5' hwx k4 n4 hs4 hs4' hv4' hv4 hT4 hw4 h1 h2 h3 h1' h2' h3' hML HL
  refine wp_region_noPanic ?_
  refine wp_region_held_drew (S := fun w' => w'.rangeAt w3.heap.size 0 (M.map byt) ∧ (∀ o, w'.cell? ⟨w2.heap.size, o, none⟩ = (hashv s1 (.slice A2 ρ1.length c2) n1)[o]?) ∧ (∀ o, w'.cell? ⟨w4.heap.size, o, none⟩ = (hashv s2 (.slice A4 ρ2.length c4) n2)[o]?)) (by kernel_rfl) (HS.out _ (Below.refl _ _).drew) (fun hHeld => ?_)
  apply wpAnyH_take (i := 0) rfl (by kernel_rfl) (by kernel_rfl) (by kernel_rfl)
  case hQ => exact fun _ _ _ h => h
  case hS => exact hHeld
  case hy => exact yieldsIf_load_mid (by rfl) _ _ rfl _ 0 rfl (M.map byt) _ (fun w h => h.1) hu rfl hz
  simp only [List.getElem_toArray, List.getElem_cons_zero, Act.put, List.setIfInBounds_toArray, List.set_cons_zero, List.set_cons_succ]
  apply wpAnyH_take (i := 1) rfl (by kernel_rfl) (by kernel_rfl) (by kernel_rfl)
  case hQ => exact fun _ _ _ h => h
  case hS => exact hHeld
  case hy => (refine Or.inl ⟨by rfl, ?_⟩; intro w hSw; obtain ⟨hSx, hSh, hSg⟩ := hSw; go_simp; (try with_reducible rfl))
  simp only [List.getElem_toArray, List.getElem_cons_succ, List.getElem_cons_zero, Act.put, List.setIfInBounds_toArray, List.set_cons_zero, List.set_cons_succ]
  refine wpAnyH_ready (rs := [2]) (by kernel_rfl) (by simp) ?_
  refine AllReadyH.cons rfl (fun K hK => ?_) AllReadyH.nil
  simp only [List.getElem_toArray, List.getElem_cons_succ, List.getElem_cons_zero]
  go_simp
  go_at_call 14
  refine (C1.out W0.drew HA.out).mono ?_
  rintro e w5 ⟨rfl, hb5⟩
  have hq5 : Below W0.heap.size W0 w5 := ((Below.refl _ _).drew).trans hb5
  refine hK.out _ _ (HS.out _ hq5) (fun hHeld => ?_)
  clear hK K
  (try simp only [List.getElem_toArray, List.getElem_cons_succ, List.getElem_cons_zero, Act.put, List.setIfInBounds_toArray, List.set_cons_zero, List.set_cons_succ])
  apply wpAnyH_take (i := 3) rfl (by kernel_rfl) (by kernel_rfl) (by kernel_rfl)
  case hQ => exact fun _ _ _ h => h
  case hS => exact hHeld
  case hy => (refine Or.inl ⟨by rfl, ?_⟩; intro w hSw; obtain ⟨hSx, hSh, hSg⟩ := hSw; go_simp; (try with_reducible rfl))
  simp only [List.getElem_toArray, List.getElem_cons_succ, List.getElem_cons_zero, Act.put, List.setIfInBounds_toArray, List.set_cons_zero, List.set_cons_succ]
  apply wpAnyH_take (i := 4) rfl (by kernel_rfl) (by kernel_rfl) (by kernel_rfl)
  case hQ => exact fun _ _ _ h => h
  case hS => exact hHeld
  case hy => (refine Or.inl ⟨by rfl, ?_⟩; intro w hSw; obtain ⟨hSx, hSh, hSg⟩ := hSw; go_simp; (try with_reducible rfl))
  simp only [List.getElem_toArray, List.getElem_cons_succ, List.getElem_cons_zero, Act.put, List.setIfInBounds_toArray, List.set_cons_zero, List.set_cons_succ]
  apply wpAnyH_take (i := 5) rfl (by kernel_rfl) (by kernel_rfl) (by kernel_rfl)
  case hQ => exact fun _ _ _ h => h
  case hS => exact hHeld
  case hy => (refine Or.inl ⟨by rfl, ?_⟩; intro w hSw; obtain ⟨hSx, hSh, hSg⟩ := hSw; go_simp; (try with_reducible rfl))
  simp only [List.getElem_toArray, List.getElem_cons_succ, List.getElem_cons_zero, Act.put, List.setIfInBounds_toArray, List.set_cons_zero, List.set_cons_succ]
  apply wpAnyH_take (i := 8) rfl (by kernel_rfl) (by kernel_rfl) (by kernel_rfl)
  case hQ => exact fun _ _ _ h => h
  case hS => exact hHeld
  case hy => (refine Or.inl ⟨by rfl, ?_⟩; intro w hSw; obtain ⟨hSx, hSh, hSg⟩ := hSw; go_simp; (try with_reducible rfl))
  simp only [List.getElem_toArray, List.getElem_cons_succ, List.getElem_cons_zero, Act.put, List.setIfInBounds_toArray, List.set_cons_zero, List.set_cons_succ]
  apply wpAnyH_take (i := 10) rfl (by kernel_rfl) (by kernel_rfl) (by kernel_rfl)
  case hQ => exact fun _ _ _ h => h
  case hS => exact hHeld
  case hy => (refine Or.inl ⟨by rfl, ?_⟩; intro w hSw; obtain ⟨hSx, hSh, hSg⟩ := hSw; go_simp; (try with_reducible rfl))
  simp only [List.getElem_toArray, List.getElem_cons_succ, List.getElem_cons_zero, Act.put, List.setIfInBounds_toArray, List.set_cons_zero, List.set_cons_succ]
  refine wpAnyH_ready (rs := [6, 7]) (by kernel_rfl) (by simp) ?_
  refine AllReadyH.cons rfl (fun K hK => ?_) (AllReadyH.cons rfl (fun K hK => ?_) AllReadyH.nil)
  focus
    simp only [List.getElem_toArray, List.getElem_cons_succ, List.getElem_cons_zero]
    go_simp
    go_at_call 20
    refine (C2.out w5 _ (HD.out.below hq5 (Nat.le_refl _)) (HT.out.below (Nat.le_refl _) hq5)).mono ?_
    rintro e w6 ⟨rfl, hb6⟩
    have hq6 := hq5.trans (hb6.mono hq5.size)
    refine hK.out _ _ (HS.out _ hq6) (fun hHeld => ?_)
    clear hK K
    (try simp only [List.getElem_toArray, List.getElem_cons_succ, List.getElem_cons_zero, Act.put, List.setIfInBounds_toArray, List.set_cons_zero, List.set_cons_succ])
    refine wpAnyH_ready (rs := [7]) (by kernel_rfl) (by simp) ?_
    refine AllReadyH.cons rfl (fun K hK => ?_) AllReadyH.nil
    simp only [List.getElem_toArray, List.getElem_cons_succ, List.getElem_cons_zero]
    go_simp
    refine hK.out _ _ (HS.out _ (hq6.alloc hq6.size _)) (fun hHeld => ?_)
    clear hK K
    (try simp only [List.getElem_toArray, List.getElem_cons_succ, List.getElem_cons_zero, Act.put, List.setIfInBounds_toArray, List.set_cons_zero, List.set_cons_succ])
    have hqE := hq6.alloc hq6.size (.cells #[] 5)
    have hown0 := own_lit_at w6 W0.heap.size w6.heap.size [] rfl hq6.size (by simp)
    clear hq6 hb6
  rotate_left
  focus
    simp only [List.getElem_toArray, List.getElem_cons_succ, List.getElem_cons_zero]
    go_simp
    refine hK.out _ _ (HS.out _ (hq5.alloc hq5.size _)) (fun hHeld => ?_)
    clear hK K
    (try simp only [List.getElem_toArray, List.getElem_cons_succ, List.getElem_cons_zero, Act.put, List.setIfInBounds_toArray, List.set_cons_zero, List.set_cons_succ])
    refine wpAnyH_ready (rs := [6]) (by kernel_rfl) (by simp) ?_
    refine AllReadyH.cons rfl (fun K hK => ?_) AllReadyH.nil
    simp only [List.getElem_toArray, List.getElem_cons_succ, List.getElem_cons_zero]
    go_simp
    go_at_call 20
    refine (C2.out (w5.alloc (.cells #[] 5)) _ (HD.out.below (hq5.alloc hq5.size _) (Nat.le_refl _)) (HT.out.below (Nat.le_refl _) (hq5.alloc hq5.size _))).mono ?_
    rintro e w6 ⟨rfl, hb6⟩
    have hqE := (hq5.alloc hq5.size (.cells #[] 5)).trans (hb6.mono (hq5.alloc hq5.size _).size)
    refine hK.out _ _ (HS.out _ hqE) (fun hHeld => ?_)
    clear hK K
    (try simp only [List.getElem_toArray, List.getElem_cons_succ, List.getElem_cons_zero, Act.put, List.setIfInBounds_toArray, List.set_cons_zero, List.set_cons_succ])
    have hown0 := own_below (own_lit_at w5 W0.heap.size w5.heap.size [] rfl hq5.size (by simp)) hb6 (Nat.le_refl _)
    clear hb6
  all_goals
    refine wpAnyH_ready (rs := [9]) (by kernel_rfl) (by simp) ?_
    refine AllReadyH.cons rfl (fun K hK => ?_) AllReadyH.nil
    refine step_append_bytes (by rfl) _ _ (by rfl) W0.heap.size _ [] (by rfl) hown0 Q (.slice A (min l.length 700) c) b (by rfl) (HA.out.below hqE (Nat.le_refl _)) (by simp; omega) hqE.size ?_
    intro v7 w7 hown7 hb7
    rw [List.nil_append] at hown7
    have hq7 := hqE.trans hb7
    clear hown0 hqE hb7
    refine hK.out _ _ (HS.out _ hq7) (fun hHeld => ?_)
    clear hK K
    (try simp only [List.getElem_toArray, List.getElem_cons_succ, List.getElem_cons_zero, Act.put, List.setIfInBounds_toArray, List.set_cons_zero, List.set_cons_succ])
    refine wpAnyH_ready (rs := [11]) (by kernel_rfl) (by simp) ?_
    refine AllReadyH.cons rfl (fun K hK => ?_) AllReadyH.nil
    refine step_append_bytes (by rfl) _ _ (by rfl) W0.heap.size _ b (by rfl) hown7 Q' (.slice A' (min l'.length 700) c') d (by rfl) (HB.out.below hq7 (Nat.le_refl _)) (by omega) hq7.size ?_
    intro v8 w8 hown8 hb8
    have hq8 := hq7.trans hb8
    have hby8 := Bytes.of_own hown8
    rw [← HE.out] at hby8
    clear hown7 hown8 hb8 hq7
    refine hK.out _ _ (HS.out _ hq8) (fun hHeld => ?_)
    clear hK K
    (try simp only [List.getElem_toArray, List.getElem_cons_succ, List.getElem_cons_zero, Act.put, List.setIfInBounds_toArray, List.set_cons_zero, List.set_cons_succ])
    refine wpAnyH_ready (rs := [12]) (by kernel_rfl) (by simp) ?_
    refine AllReadyH.cons rfl (fun K hK => ?_) AllReadyH.nil
    simp only [List.getElem_toArray, List.getElem_cons_succ, List.getElem_cons_zero]
    go_simp
    go_at_call 14
    refine (C3.out w8 v8 _ hby8).mono ?_
    rintro e w9 ⟨rfl, hb9⟩
    have hq9 := hq8.trans (hb9.mono hq8.size)
    clear hby8 hb9 hq8
    refine hK.out _ _ (HS.out _ hq9) (fun hHeld => ?_)
    clear hK K
    (try simp only [List.getElem_toArray, List.getElem_cons_succ, List.getElem_cons_zero, Act.put, List.setIfInBounds_toArray, List.set_cons_zero, List.set_cons_succ])
    apply wpAnyH_take (i := 13) rfl (by kernel_rfl) (by kernel_rfl) (by kernel_rfl)
    case hQ => exact fun _ _ _ h => h
    case hS => exact hHeld
    case hy => (refine Or.inl ⟨by rfl, ?_⟩; intro w hSw; obtain ⟨hSx, hSh, hSg⟩ := hSw; go_simp; (try with_reducible rfl))
    simp only [List.getElem_toArray, List.getElem_cons_succ, List.getElem_cons_zero, Act.put, List.setIfInBounds_toArray, List.set_cons_zero, List.set_cons_succ]
    apply wpAnyH_take (i := 14) rfl (by kernel_rfl) (by kernel_rfl) (by kernel_rfl)
    case hQ => exact fun _ _ _ h => h
    case hS => exact hHeld
    case hy => (refine Or.inl ⟨by rfl, ?_⟩; intro w hSw; obtain ⟨hSx, hSh, hSg⟩ := hSw; go_simp; (try with_reducible rfl))
    simp only [List.getElem_toArray, List.getElem_cons_succ, List.getElem_cons_zero, Act.put, List.setIfInBounds_toArray, List.set_cons_zero, List.set_cons_succ]
    apply wpAnyH_take (i := 15) rfl (by kernel_rfl) (by kernel_rfl) (by kernel_rfl)
    case hQ => exact fun _ _ _ h => h
    case hS => exact hHeld
    case hy => (refine Or.inl ⟨by rfl, ?_⟩; intro w hSw; obtain ⟨hSx, hSh, hSg⟩ := hSw; go_simp; (try with_reducible rfl))
    simp only [List.getElem_toArray, List.getElem_cons_succ, List.getElem_cons_zero, Act.put, List.setIfInBounds_toArray, List.set_cons_zero, List.set_cons_succ]
    apply wpAnyH_take (i := 16) rfl (by kernel_rfl) (by kernel_rfl) (by kernel_rfl)
    case hQ => exact fun _ _ _ h => h
    case hS => exact hHeld
    case hy => (refine Or.inl ⟨by rfl, ?_⟩; intro w hSw; obtain ⟨hSx, hSh, hSg⟩ := hSw; go_simp; (try with_reducible rfl))
    simp only [List.getElem_toArray, List.getElem_cons_succ, List.getElem_cons_zero, Act.put, List.setIfInBounds_toArray, List.set_cons_zero, List.set_cons_succ]
    apply wpAnyH_take (i := 18) rfl (by kernel_rfl) (by kernel_rfl) (by kernel_rfl)
    case hQ => exact fun _ _ _ h => h
    case hS => exact hHeld
    case hy => exact yieldsIf_load_mid (by rfl) _ _ rfl _ 0 rfl (M.map byt) _ (fun w h => h.1) hu rfl hz
    simp only [List.getElem_toArray, List.getElem_cons_succ, List.getElem_cons_zero, Act.put, List.setIfInBounds_toArray, List.set_cons_zero, List.set_cons_succ]
    refine wpAnyH_ready (rs := [17]) (by kernel_rfl) (by simp) ?_
    refine AllReadyH.cons rfl (fun K hK => ?_) AllReadyH.nil
    simp only [List.getElem_toArray, List.getElem_cons_succ, List.getElem_cons_zero]
    go_simp
    go_at_call 20
    refine (C4.out w9 _ (HC.out.below hq9 (Nat.le_refl _)) (HT.out.below (Nat.le_refl _) hq9)).mono ?_
    rintro e w10 ⟨rfl, hb10⟩
    have hq10 := hq9.trans (hb10.mono hq9.size)
    clear hb10 hq9
    refine hK.out _ _ (HS.out _ hq10) (fun hHeld => ?_)
    clear hK K
    (try simp only [List.getElem_toArray, List.getElem_cons_succ, List.getElem_cons_zero, Act.put, List.setIfInBounds_toArray, List.set_cons_zero, List.set_cons_succ])
    apply wpAnyH_take (i := 19) rfl (by kernel_rfl) (by kernel_rfl) (by kernel_rfl)
    case hQ => exact fun _ _ _ h => h
    case hS => exact hHeld
    case hy => (refine Or.inl ⟨by rfl, ?_⟩; intro w hSw; obtain ⟨hSx, hSh, hSg⟩ := hSw; go_simp; (try with_reducible rfl))
    simp only [List.getElem_toArray, List.getElem_cons_succ, List.getElem_cons_zero, Act.put, List.setIfInBounds_toArray, List.set_cons_zero, List.set_cons_succ]
    apply wpAnyH_take (i := 20) rfl (by kernel_rfl) (by kernel_rfl) (by kernel_rfl)
    case hQ => exact fun _ _ _ h => h
    case hS => exact hHeld
    case hy => (refine Or.inl ⟨by rfl, ?_⟩; intro w hSw; obtain ⟨hSx, hSh, hSg⟩ := hSw; go_simp; (try with_reducible rfl))
    simp only [List.getElem_toArray, List.getElem_cons_succ, List.getElem_cons_zero, Act.put, List.setIfInBounds_toArray, List.set_cons_zero, List.set_cons_succ]
    apply wpAnyH_take (i := 21) rfl (by kernel_rfl) (by kernel_rfl) (by kernel_rfl)
    case hQ => exact fun _ _ _ h => h
    case hS => exact hHeld
    case hy => (refine Or.inl ⟨by rfl, ?_⟩; intro w hSw; obtain ⟨hSx, hSh, hSg⟩ := hSw; go_simp; (try with_reducible rfl))
    simp only [List.getElem_toArray, List.getElem_cons_succ, List.getElem_cons_zero, Act.put, List.setIfInBounds_toArray, List.set_cons_zero, List.set_cons_succ]
    refine wpAnyH_ready (rs := [22]) (by kernel_rfl) (by simp) ?_
    refine AllReadyH.cons rfl (fun K hK => ?_) AllReadyH.nil
    simp only [List.getElem_toArray, List.getElem_cons_succ, List.getElem_cons_zero]
    go_simp
    go_at_call 15
    refine (awake w10 (HT.out.below (Nat.le_refl _) hq10)).mono ?_
    rintro e w11 ⟨rfl, hb11⟩
    have hq11 := hq10.trans (hb11.mono hq10.size)
    clear hb11 hq10
    refine hK.out _ _ (HS.out _ hq11) (fun hHeld => ?_)
    clear hK K
    (try simp only [List.getElem_toArray, List.getElem_cons_succ, List.getElem_cons_zero, Act.put, List.setIfInBounds_toArray, List.set_cons_zero, List.set_cons_succ])
    apply wpAnyH_take (i := 23) rfl (by kernel_rfl) (by kernel_rfl) (by kernel_rfl)
    case hQ => exact fun _ _ _ h => h
    case hS => exact hHeld
    case hy => (refine Or.inl ⟨by rfl, ?_⟩; intro w hSw; obtain ⟨hSx, hSh, hSg⟩ := hSw; go_simp; (try with_reducible rfl))
    simp only [List.getElem_toArray, List.getElem_cons_succ, List.getElem_cons_zero, Act.put, List.setIfInBounds_toArray, List.set_cons_zero, List.set_cons_succ]
    apply wpAnyH_take (i := 24) rfl (by kernel_rfl) (by kernel_rfl) (by kernel_rfl)
    case hQ => exact fun _ _ _ h => h
    case hS => exact hHeld
    case hy => (refine Or.inl ⟨by rfl, ?_⟩; intro w hSw; obtain ⟨hSx, hSh, hSg⟩ := hSw; go_simp; (try with_reducible rfl))
    simp only [List.getElem_toArray, List.getElem_cons_succ, List.getElem_cons_zero, Act.put, List.setIfInBounds_toArray, List.set_cons_zero, List.set_cons_succ]
    refine wpAnyH_done (by kernel_rfl) ?_ _
    refine NoPanic.normal ?_
    go_wp2
    go_ret
    exact ⟨rfl, HW.out.trans (hq11.mono HW.out.size)⟩
end Go.Proofs.YtbbpdcnmoabooaaDoor
