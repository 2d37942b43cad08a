/-
  Towards the law of ShaSum: what its last region keeps.
-/
import Derived.Test.YtbbpdcnmoabooaaDoorShaStep
namespace Go.Proofs.YtbbpdcnmoabooaaDoor
open Go Go.RowKit Sh Leaf

theorem short_bytes {A : Option Addr} {l : List B8} {c : Nat} {Q : Nat → Prop} {w : World} (hb : Bytes w Q (.slice A l.length c) l) : Bytes w Q (.slice A (min l.length 700) c) (l.take 700) := by
  have := hb.take (min l.length 700) (Nat.min_le_left _ _)
  rwa [show l.take (min l.length 700) = l.take 700 by rw [List.take_eq_take_iff]; omega] at this

/-- It frees the names that 'go_region_held3' gives at a load of a long array: without it a second such load in one region finds them taken. -/
theorem free5 {p : Prop} (hS hu hd hi rest : p) : (p ∧ p) ∧ p ∧ p ∧ p := ⟨⟨hS, hu⟩, hd, hi, rest⟩
theorem range_keep {W0 w' : World} {g o : Nat} {xs : List Value} (h : W0.rangeAt g o xs) (hg : g < W0.heap.size) (hk : Below W0.heap.size W0 w') :
    w'.rangeAt g o xs ∧ ∀ b o, b < W0.heap.size → w'.cell? ⟨b, o, none⟩ = W0.cell? ⟨b, o, none⟩ :=
  ⟨fun j v hj => (hk.cell (p := ⟨g, o + j, none⟩) hg).trans (h j v hj), fun b o hb => hk.cell (p := ⟨b, o, none⟩) hb⟩

/- NOT FINISHED, kept as a remark so that this text builds clean. The walk below goes through the whole of the function up to the second load of x in its last region (operation 18), where go_region_held3 stops: it names the goals of a load of a long array ?hS ?hu ?hd ?hi ?rest in one macro scope, so a SECOND such load in one region finds the names taken ('no goal hS'). Ways left: take the first load by hand (wp_region_held_drew, wpAnyH_take with yieldsIf_load_mid) and go on by hand; or go_region_law. All arms fit as they stand.

set_option maxHeartbeats 4000000 in
theorem sum_law (A A' : Option Addr) (l l' : List B8) (c c' : Nat) (Q Q' : Nat → Prop) (w : World) (hb : Bytes w Q (.slice A l.length c) l) (hb' : Bytes w Q' (.slice A' l'.length c') l') (hT : Tables w) : Calls Tryd.prog 6 #[.slice A l.length c, .slice A' l'.length c'] w fun e w' => e = .returned (.bool true) ∧ Below w.heap.size w w' := by
  obtain ⟨A0, c0, e0, h1, h2, h3, h4⟩ := id hb
  cases e0
  obtain ⟨A0, c0, e0, h1', h2', h3', h4'⟩ := id hb'
  cases e0
  have hs := short_bytes hb
  have hs' := short_bytes hb'
  clear hb hb' h4 h4'
  go_enter Tryd.func6, Tryd.ntmps6
  go_wp2_with fail
  refine (short_any A l.length c h1 (by omega) _).mono ?_
  rintro e w1 ⟨rfl, rfl⟩
  go_wp2_with fail
  refine (short_any A' l'.length c' h1' (by omega) _).mono ?_
  rintro e w1 ⟨rfl, rfl⟩
  go_wp2_with fail
  refine (new_st _ hT).mono ?_
  rintro e w1 ⟨rfl, hb1⟩
  obtain ⟨b, hbb⟩ : ∃ b, b = l.take 700 := ⟨_, rfl⟩
  obtain ⟨d, hdd⟩ : ∃ d, d = l'.take 700 := ⟨_, rfl⟩
  have hbl : b.length ≤ 700 := by rw [hbb]; simp; omega
  have hdl : d.length ≤ 700 := by rw [hdd]; simp; omega
  rw [← hbb] at hs
  rw [← hdd] at hs'
  clear hbb hdd
  have hs1 := hs.below hb1 (Nat.le_refl _)
  have hs1' := hs'.below hb1 (Nat.le_refl _)
  have hT1 := hT.below (Nat.le_refl _) hb1
  have hw1 := hb1
  clear hb1 hs hs' hT
  go_wp2_with fail
  refine (write_st [] b _ _ (fun _ => True) Q _ (Bytes.nil _ _) hs1 hT1.1 (by simp) (by omega)).mono ?_
  rintro e w2 ⟨v2, rfl, hv2, hb2⟩
  rw [List.nil_append] at hv2 ⊢
  have hs2 := hs1.below hb2 (Nat.le_refl _)
  have hs2' := hs1'.below hb2 (Nat.le_refl _)
  have hT2 := hT1.below (Nat.le_refl _) hb2
  have hw2 := hw1.trans (hb2.mono hw1.size)
  clear hb2 hs1 hs1' hT1 hw1
  obtain ⟨A2, c2, rfl, -⟩ := id hv2
  go_wp2_with fail
  have k0 : Whole (w2.alloc (.cells (hstate b (.slice A2 (restOf b).length c2)) 34)) w2.heap.size 34 (hstate b (.slice A2 (restOf b).length c2)) := Whole.here _ _ _
  have hx : ∀ o, Below w.heap.size w (w2.alloc o) := fun o => hw2.alloc hw2.size o
  have hT2' : ∀ o, Tables (w2.alloc o) := fun o => hT2.below (Nat.le_refl _) ((Below.refl _ _).alloc (Nat.le_refl _) _)
  refine (sum_st b _ _ _ (hv2.alloc _) (hT2' _).1 (by omega)).mono ?_
  rintro e w3 ⟨rfl, hb3⟩
  have hs3 := (hs2.alloc _).below hb3 (Nat.le_refl _)
  have hs3' := (hs2'.alloc _).below hb3 (Nat.le_refl _)
  have hv3 := (hv2.alloc _).below hb3 (Nat.le_refl _)
  have hT3 := (hT2' _).below (Nat.le_refl _) hb3
  have k3 := k0.below hb3 k0.lt
  have hw3 := (hx _).trans (hb3.mono (hx _).size)
  clear hb3 hs2 hs2' hT2 hw2 hv2 hT2' hx k0
  have hdb : (sha b).length = 32 := digest_length _
  have HL := Lib.hid hdb
  have HZ : Hid ((Tryd.prog.info? 26).map (·.size) = some 32) := Lib.hid (by kernel_rfl)
  have n0 : ∀ cs, Whole (w3.alloc (.cells cs 26)) w3.heap.size 26 cs := fun cs => Whole.here _ _ _
  have hbx : ∀ cs, Below w3.heap.size w3 ((w3.alloc (.cells cs 26)).setRow w3.heap.size ((sha b).map byt).toArray) := fun cs => below_setRow ((Below.refl _ _).alloc (Nat.le_refl _) _) (Nat.le_refl _) _
  have n3 : ∀ cs, Whole ((w3.alloc (.cells cs 26)).setRow w3.heap.size ((sha b).map byt).toArray) w3.heap.size 26 ((sha b).map byt).toArray := fun cs => (n0 cs).setRow _
  have k3x := fun cs => k3.below (hbx cs) k3.lt
  clear hdb
  go_wp2_with (first
    | (with_reducible refine wpList_store_row rfl 26 _ _ rfl w3.heap.size _ rfl rfl _ _ (n0 _).eq (by rw [HZ.out]; simp [HL.out]) (by simp [HL.out]) (all_oneCell_toArray (byt_one _)) ?_)
    | (with_reducible refine wpList_load_row rfl 34 _ rfl _ rfl _ _ _ _ (k3x _).eq Tryd.underlying34 rfl (by kernel_rfl) ?_))
  refine (write_st b d _ _ _ Q' _ (hv3.below (hbx _) (Nat.le_refl _)) (hs3'.below (hbx _) (Nat.le_refl _)) (hT3.below (Nat.le_refl _) (hbx _)).1 (by omega) (by omega)).mono ?_
  rintro e w4 ⟨v4, rfl, hv4, hb4⟩
  obtain ⟨bd, hbd⟩ : ∃ bd, bd = b ++ d := ⟨_, rfl⟩
  have hbdl : bd.length ≤ 1400 := by rw [hbd]; simp; omega
  rw [← hbd] at hv4 ⊢
  have HE := Lib.hid hbd
  clear hbd
  have hz : w3.heap.size < ((w3.alloc (.cells (Array.replicate 32 (.int .u8 0)) 26)).setRow w3.heap.size ((sha b).map byt).toArray).heap.size := (n3 _).lt
  have hb4' := (hbx _).trans (hb4.mono (hbx _).size)
  have hs4 := hs3.below hb4' (Nat.le_refl _)
  have hs4' := hs3'.below hb4' (Nat.le_refl _)
  have hv4' := hv3.below hb4' (Nat.le_refl _)
  have hT4 := hT3.below (Nat.le_refl _) hb4'
  have k4 := k3.below hb4' k3.lt
  have n4 := (n3 _).below hb4 (n3 _).lt
  have hw4 := hw3.trans (hb4'.mono hw3.size)
  clear hb4 hb4' hs3 hs3' hT3 hw3 hv3 k3 hz n0 n3 k3x hbx
  have te := tag_eql (sha b) (digest_length _)
  have te2 := tag_eql (sha bd) (digest_length _)
  obtain ⟨A4, c4, rfl, -⟩ := id hv4
  have HD := Lib.hid hv4'
  go_wp2_with fail
  obtain ⟨W0, hW0⟩ : ∃ W0, W0 = w4.alloc (.cells (hstate bd (.slice A4 (restOf bd).length c4)) 34) := ⟨_, rfl⟩
  have hwx : Below w4.heap.size w4 W0 := by rw [hW0]; exact (Below.refl _ _).alloc (Nat.le_refl _) _
  have kg : Whole W0 w4.heap.size 34 (hstate bd (.slice A4 (restOf bd).length c4)) := by rw [hW0]; exact Whole.here _ _ _
  have kh := k4.below hwx k4.lt
  have kx := n4.below hwx n4.lt
  have r1 := hs4.below hwx (Nat.le_refl _)
  have r2 := hs4'.below hwx (Nat.le_refl _)
  have r3 := hv4'.below hwx (Nat.le_refl _)
  have r4 := hv4.below hwx (Nat.le_refl _)
  have r5 := hT4.below (Nat.le_refl _) hwx
  have r6 := hw4.trans (hwx.mono hw4.size)
  have hE : w4.alloc (.cells #[.int .u32 (iv (stAfter bd).a), .int .u32 (iv (stAfter bd).b), .int .u32 (iv (stAfter bd).c), .int .u32 (iv (stAfter bd).d), .int .u32 (iv (stAfter bd).e), .int .u32 (iv (stAfter bd).f), .int .u32 (iv (stAfter bd).g), .int .u32 (iv (stAfter bd).h), .slice A4 (restOf bd).length c4, .int .i64 (bd.length : Int)] 34) = W0 := by
    rw [hW0]
  rw [hE]
  have q2 : w2.heap.size < W0.heap.size := kh.lt
  have q3 : w3.heap.size < W0.heap.size := kx.lt
  have q4 : w4.heap.size < W0.heap.size := kg.lt
  have p0 : W0.cell? ⟨w2.heap.size, 0, none⟩ = some (u (stAfter b).a) := kh.cell 0
  have p1 : W0.cell? ⟨w2.heap.size, 1, none⟩ = some (u (stAfter b).b) := kh.cell 1
  have p2 : W0.cell? ⟨w2.heap.size, 2, none⟩ = some (u (stAfter b).c) := kh.cell 2
  have p3 : W0.cell? ⟨w2.heap.size, 3, none⟩ = some (u (stAfter b).d) := kh.cell 3
  have p4 : W0.cell? ⟨w2.heap.size, 4, none⟩ = some (u (stAfter b).e) := kh.cell 4
  have p5 : W0.cell? ⟨w2.heap.size, 5, none⟩ = some (u (stAfter b).f) := kh.cell 5
  have p6 : W0.cell? ⟨w2.heap.size, 6, none⟩ = some (u (stAfter b).g) := kh.cell 6
  have p7 : W0.cell? ⟨w2.heap.size, 7, none⟩ = some (u (stAfter b).h) := kh.cell 7
  have p8 : W0.cell? ⟨w2.heap.size, 8, none⟩ = some (.slice A2 (restOf b).length c2) := kh.cell 8
  have p9 : W0.cell? ⟨w2.heap.size, 9, none⟩ = some (.int .i64 (b.length : Int)) := kh.cell 9
  have g0 : W0.cell? ⟨w4.heap.size, 0, none⟩ = some (u (stAfter bd).a) := kg.cell 0
  have g1 : W0.cell? ⟨w4.heap.size, 1, none⟩ = some (u (stAfter bd).b) := kg.cell 1
  have g2 : W0.cell? ⟨w4.heap.size, 2, none⟩ = some (u (stAfter bd).c) := kg.cell 2
  have g3 : W0.cell? ⟨w4.heap.size, 3, none⟩ = some (u (stAfter bd).d) := kg.cell 3
  have g4 : W0.cell? ⟨w4.heap.size, 4, none⟩ = some (u (stAfter bd).e) := kg.cell 4
  have g5 : W0.cell? ⟨w4.heap.size, 5, none⟩ = some (u (stAfter bd).f) := kg.cell 5
  have g6 : W0.cell? ⟨w4.heap.size, 6, none⟩ = some (u (stAfter bd).g) := kg.cell 6
  have g7 : W0.cell? ⟨w4.heap.size, 7, none⟩ = some (u (stAfter bd).h) := kg.cell 7
  have g8 : W0.cell? ⟨w4.heap.size, 8, none⟩ = some (.slice A4 (restOf bd).length c4) := kg.cell 8
  have g9 : W0.cell? ⟨w4.heap.size, 9, none⟩ = some (.int .i64 (bd.length : Int)) := kg.cell 9
  have x0 : W0.rangeAt w3.heap.size 0 ((sha b).map byt) := by
    intro j v hj
    rw [Nat.zero_add, kx.cell, List.getElem?_toArray]; exact hj
  have HX := Lib.hid x0
  clear x0
  have hu := Tryd.underlying26
  have hz : (Tryd.prog.info? 26).map (·.size) = some ((sha b).map byt).length := by rw [HZ.out]; simp [HL.out]
  have KG := Lib.hid kg
  have KH := Lib.hid kh
  have KX := Lib.hid kx
  have R1 := Lib.hid r1
  have R2 := Lib.hid r2
  have R3 := Lib.hid r3
  have R4 := Lib.hid r4
  have R5 := Lib.hid r5
  have R6 := Lib.hid r6
  clear kg kh kx r1 r2 r3 r4 r5 r6 hE hW0 hwx k4 n4 hs4 hs4' hv4' hv4 hT4 hw4 HD h1 h2 h3 h1' h2' h3'
  go_region_held3 (fun w' => w'.rangeAt w3.heap.size 0 ((sha b).map byt) ∧ ∀ b o, b < W0.heap.size → w'.cell? ⟨b, o, none⟩ = W0.cell? ⟨b, o, none⟩)
    ((refine range_keep HX.out q3 ?_; go_grown; done))
    (first
      | (go_at_call 15; refine (awake _ (R5.out.below (Nat.le_refl _) hbw10)).mono ?_; rintro e w11 ⟨rfl, hb11⟩; have hbw11 := hbw10.trans (hb11.mono hbw10.size); have hs11 := hbw11.size; obtain ⟨hx11, hc11⟩ := range_keep HX.out q3 hbw11)
      | (go_at_call 20; refine (sum_st b _ _ _ (R3.out.below hbw9 (Nat.le_refl _)) (R5.out.below (Nat.le_refl _) hbw9).1 (by omega)).mono ?_; rintro e w10 ⟨rfl, hb10⟩; have hbw10 := hbw9.trans (hb10.mono hbw9.size); have hs10 := hbw10.size; obtain ⟨hx10, hc10⟩ := range_keep HX.out q3 hbw10)
      | (go_at_call 14; refine (ref_sha v8 bd _ _ hby8 (by omega)).mono ?_; rintro e w9 ⟨rfl, hb9⟩; have hbw9 := hbw8.trans (hb9.mono hbw8.size); have hs9 := hbw9.size; obtain ⟨hx9, hc9⟩ := range_keep HX.out q3 hbw9)
      | (go_at_call 14; refine (ref_sha _ b Q _ R1.out.drew (by omega)).mono ?_; rintro e w5 ⟨rfl, hb5⟩; have hfree : (True ∧ True) ∧ True ∧ True ∧ True := (by apply free5; (case hS => trivial); (case hu => trivial); (case hd => trivial); (case hi => trivial); (case rest => trivial)); clear hfree; have hbw5 : Below W0.heap.size W0 w5 := (((Below.refl _ _).drew).trans hb5); obtain ⟨hx5, hc5⟩ := range_keep HX.out q3 hbw5; have hs5 : W0.heap.size ≤ w5.heap.size := hbw5.size)
      | (go_at_call 20; refine (sum_st bd _ _ _ (by first | exact R4.out.below hbw5 (Nat.le_refl _) | exact (R4.out.below hbw5 (Nat.le_refl _)).alloc _) (by first | exact (R5.out.below (Nat.le_refl _) hbw5).1 | exact (R5.out.below (Nat.le_refl _) (hbw5.alloc hbw5.size _)).1) (by omega)).mono ?_; rintro e w6 ⟨rfl, hb6⟩; have hbw6 : Below W0.heap.size W0 w6 := (by first | exact hbw5.trans (hb6.mono hbw5.size) | exact (hbw5.alloc hbw5.size _).trans (hb6.mono (by have := hbw5.size; simp; omega))); obtain ⟨hx6, hc6⟩ := range_keep HX.out q3 hbw6; have hs6 : W0.heap.size ≤ w6.heap.size := hbw6.size; have ht6 := hb6.size; (try simp at ht6))
      | (refine step_append_bytes (by rfl) _ _ (by rfl) W0.heap.size v7 b (by rfl) h7 Q' (.slice A' (min l'.length 700) c') d (by rfl) (R2.out.below hbw7 (Nat.le_refl _)) (by omega) hs7 ?_; intro v8 w8 h8 hb8; have hbw8 := hbw7.trans hb8; have hby8 : Bytes w8 (fun g => W0.heap.size ≤ g) v8 bd := (by rw [HE.out]; exact Bytes.of_own h8); have hs8 := hbw8.size; obtain ⟨hx8, hc8⟩ := range_keep HX.out q3 hbw8)
      | (refine step_append_bytes (by rfl) _ _ (by rfl) W0.heap.size (.slice (some ⟨w6.heap.size, 0, none⟩) 0 0) [] (by rfl) (own_lit_at w6 W0.heap.size w6.heap.size [] rfl hs6 (by simp)) Q (.slice A (min l.length 700) c) b (by rfl) ((R1.out.below hbw6 (Nat.le_refl _)).alloc _) (by simp; omega) (by simp; omega) ?_; intro v7 w7 h70 hb7; have h7 : w7.ownsRow W0.heap.size 5 1 v7 b.length (b.map byt) := h70; have hbw7 : Below W0.heap.size W0 w7 := (by first | exact (hbw6.alloc hbw6.size _).trans hb7 | exact hbw6.trans hb7); have hs7 := hbw7.size; obtain ⟨hx7, hc7⟩ := range_keep HX.out q3 hbw7)
      | (refine step_append_bytes (by rfl) _ _ (by rfl) W0.heap.size (.slice (some ⟨w5.heap.size, 0, none⟩) 0 0) [] (by rfl) (own_below (own_lit_at w5 W0.heap.size w5.heap.size [] rfl hs5 (by simp)) hb6 (Nat.le_refl _)) Q (.slice A (min l.length 700) c) b (by rfl) (R1.out.below hbw6 (Nat.le_refl _)) (by simp; omega) hs6 ?_; intro v7 w7 h70 hb7; have h7 : w7.ownsRow W0.heap.size 5 1 v7 b.length (b.map byt) := h70; have hbw7 : Below W0.heap.size W0 w7 := (by first | exact (hbw6.alloc hbw6.size _).trans hb7 | exact hbw6.trans hb7); have hs7 := hbw7.size; obtain ⟨hx7, hc7⟩ := range_keep HX.out q3 hbw7))
  all_goals trace_state
  all_goals sorry
-/
end Go.Proofs.YtbbpdcnmoabooaaDoor
