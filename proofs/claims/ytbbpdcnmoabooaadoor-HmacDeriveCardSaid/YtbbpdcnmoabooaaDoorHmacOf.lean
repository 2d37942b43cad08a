/-
  Package hmac: Of returns the tag.
-/
import Derived.Test.YtbbpdcnmoabooaaDoorHmacDig
namespace Go.Proofs.YtbbpdcnmoabooaaDoor
open Go Go.RowKit Sh Leaf

theorem range_there {W0 w' : World} {g g' n : Nat} {xs : List Value} (h : W0.rangeAt g 0 xs) (hg : g < W0.heap.size) (h' : W0.there g' 0 n) (hg' : g' < W0.heap.size) (hk : Below W0.heap.size W0 w') :
    w'.rangeAt g 0 xs ∧ w'.there g' 0 n :=
  ⟨fun j v hj => (hk.cell (p := ⟨g, 0 + j, none⟩) hg).trans (h j v hj), fun j hj => by
    have := h' j hj
    rw [hk.cell (p := ⟨g', 0 + j, none⟩) hg', hk.frozen (p := ⟨g', 0 + j, none⟩) hg']
    exact this⟩

set_option maxRecDepth 20000 in
set_option maxHeartbeats 1000000 in
theorem hof (vk v : Value) (l b : List B8) (Qk Q : Nat → Prop) (w : World) (hk : Bytes w Qk vk l) (hr : Bytes w Q v b) (hT : Tables w) (hl : l.length ≤ 900000) (hb : b.length ≤ 900000) :
    Calls Tryd.prog 21 #[vk, v] w fun e w' => e = .returned (tagv (hmac l b)) ∧ Below w.heap.size w w' := by
  have hgo : sha (mask (ext l) 92 ++ sha (mask (ext l) 54 ++ b)) = hmac l b := rfl
  have hB := ext_brow l
  have hEl := ext_length l
  obtain ⟨E, hE⟩ : ∃ E, E = ext l := ⟨_, rfl⟩
  have HE := Lib.hid hE
  rw [← hE] at hgo hEl hB
  clear hE
  obtain ⟨f, hf⟩ : ∃ f, f = fun j => E.getD j 0 := ⟨_, rfl⟩
  rw [← hf] at hB
  clear hf
  have HB := Lib.hid hB
  clear hB
  have HG := Lib.hid hgo
  clear hgo
  have h54 : byt 54 = .int .u8 54 := by have : bv 54 = 54 := by unfold bv; rfl
                                        rw [byt, this]
  have h92 : byt 92 = .int .u8 92 := by have : bv 92 = 92 := by unfold bv; rfl
                                        rw [byt, this]
  have H54 := Lib.hid h54
  have H92 := Lib.hid h92
  clear h54 h92
  obtain ⟨D, hD⟩ : ∃ D, D = sha (mask E 54 ++ b) := ⟨_, rfl⟩
  have hDl : D.length = 32 := by rw [hD, sha_length]
  have hd54 : ∀ W, Bytes W Q v b → Tables W → Calls Tryd.prog 41 #[.agg (brow 64 f), .int .u8 54, v] W (fun e w' => e = .returned (tagv D) ∧ Below W.heap.size W w') := fun W h1 h2 => by
    rw [HB.out, ← H54.out, hD]
    exact hdigest E hEl 54 v b Q W h1 h2 hb
  have hd92 : ∀ W v' Q', Bytes W Q' v' D → Tables W → Calls Tryd.prog 41 #[.agg (brow 64 f), .int .u8 92, v'] W (fun e w' => e = .returned (tagv (hmac l b)) ∧ Below W.heap.size W w') := fun W v' Q' h1 h2 => by
    rw [HB.out, ← H92.out, ← HG.out, ← hD]
    exact hdigest E hEl 92 v' D Q' W h1 h2 (by omega)
  have HD54 := Lib.hid hd54
  have HD92 := Lib.hid hd92
  clear hd54 hd92 hD H54 H92 HG
  have hx0 : ∀ o, Below w.heap.size w (w.alloc o) := fun o => (Below.refl _ _).alloc (Nat.le_refl _) _
  have hT0 : ∀ o, Tables (w.alloc o) := fun o => hT.below (Nat.le_refl _) (hx0 o)
  have k0 : ∀ cs, Whole (w.alloc (.cells cs 26)) w.heap.size 26 cs := fun cs => Whole.here _ _ _
  go_enter Tryd.func21, Tryd.ntmps21
  go_wp2_with fail
  refine (extended _ l Qk _ (hk.alloc _) (hT0 _) (by omega)).mono ?_
  rintro e w1 ⟨rfl, hb1⟩
  rw [← HE.out, ← HB.out]
  have k1 : Whole w1 w.heap.size 26 (brow 32 fun _ => 0) := by rw [brow_zero]; exact (k0 _).below hb1 (by simp)
  have hw1 := (hx0 _).trans (hb1.mono (hx0 _).size)
  have hr1 := hr.below hw1 (Nat.le_refl _)
  have hT1 := hT.below (Nat.le_refl _) hw1
  have hs1 : w.heap.size < w1.heap.size := k1.lt
  clear hb1 hx0 hT0 k0 hk hr hT
  have n0 : ∀ cs, Whole (w1.alloc (.cells cs 63)) w1.heap.size 63 cs := fun cs => Whole.here _ _ _
  have n1 : ∀ cs, Whole ((w1.alloc (.cells cs 63)).setRow w1.heap.size (brow 64 f)) w1.heap.size 63 (brow 64 f) := fun cs => (n0 cs).setRow _
  have hbx : ∀ cs, Below w1.heap.size w1 ((w1.alloc (.cells cs 63)).setRow w1.heap.size (brow 64 f)) := fun cs => below_setRow ((Below.refl _ _).alloc (Nat.le_refl _) _) (Nat.le_refl _) _
  have hZ : Hid ((Tryd.prog.info? 63).map (·.size) = some 64) := Lib.hid (by kernel_rfl)
  go_wp2_with (first
    | (with_reducible refine wpList_store_row rfl 63 _ _ rfl w1.heap.size _ rfl rfl _ _ (n0 _).eq (by rw [hZ.out, brow_size]) (by rw [brow_size]; simp) (brow_one _ _) ?_)
    | (with_reducible refine wpList_load_row rfl 63 _ rfl w1.heap.size rfl _ _ _ _ (n1 _).eq Tryd.underlying63 rfl (by rw [hZ.out, brow_size]) ?_))
  refine (HD54.out _ (hr1.below (hbx _) (Nat.le_refl _)) (hT1.below (Nat.le_refl _) (hbx _))).mono ?_
  rintro e w2 ⟨rfl, hb2⟩
  have hb2' := (hbx _).trans (hb2.mono (hbx _).size)
  have k2 := k1.below hb2' k1.lt
  have n2 := (n1 _).below hb2 (n1 _).lt
  have hw2 := hw1.trans (hb2'.mono hw1.size)
  have hT2 := hT1.below (Nat.le_refl _) hb2'
  have hq1 : w1.heap.size < w2.heap.size := n2.lt
  clear hb2 hb2' k1 n1 n0 hw1 hr1 hT1 hbx
  have hZ2 : Hid ((Tryd.prog.info? 26).map (·.size) = some 32) := Lib.hid (by kernel_rfl)
  have HDl := Lib.hid hDl
  have m0 : ∀ cs, Whole (w2.alloc (.cells cs 26)) w2.heap.size 26 cs := fun cs => Whole.here _ _ _
  have m1 : ∀ cs, Whole ((w2.alloc (.cells cs 26)).setRow w2.heap.size (D.map byt).toArray) w2.heap.size 26 (D.map byt).toArray := fun cs => (m0 cs).setRow _
  have hbx : ∀ cs, Below w2.heap.size w2 ((w2.alloc (.cells cs 26)).setRow w2.heap.size (D.map byt).toArray) := fun cs => below_setRow ((Below.refl _ _).alloc (Nat.le_refl _) _) (Nat.le_refl _) _
  clear hDl
  go_wp2_with (with_reducible refine wpList_store_row rfl 26 _ _ rfl w2.heap.size _ rfl rfl _ _ (m0 _).eq (by rw [hZ2.out]; simp [HDl.out]) (by simp [HDl.out]) (all_oneCell_toArray (byt_one _)) ?_)
  have q1 := hbx #[.int .u8 0, .int .u8 0, .int .u8 0, .int .u8 0, .int .u8 0, .int .u8 0, .int .u8 0, .int .u8 0, .int .u8 0, .int .u8 0, .int .u8 0, .int .u8 0, .int .u8 0, .int .u8 0, .int .u8 0, .int .u8 0, .int .u8 0, .int .u8 0, .int .u8 0, .int .u8 0, .int .u8 0, .int .u8 0, .int .u8 0, .int .u8 0, .int .u8 0, .int .u8 0, .int .u8 0, .int .u8 0, .int .u8 0, .int .u8 0, .int .u8 0, .int .u8 0]
  have q2 := m1 #[.int .u8 0, .int .u8 0, .int .u8 0, .int .u8 0, .int .u8 0, .int .u8 0, .int .u8 0, .int .u8 0, .int .u8 0, .int .u8 0, .int .u8 0, .int .u8 0, .int .u8 0, .int .u8 0, .int .u8 0, .int .u8 0, .int .u8 0, .int .u8 0, .int .u8 0, .int .u8 0, .int .u8 0, .int .u8 0, .int .u8 0, .int .u8 0, .int .u8 0, .int .u8 0, .int .u8 0, .int .u8 0, .int .u8 0, .int .u8 0, .int .u8 0, .int .u8 0]
  clear hbx m0 m1
  generalize (w2.alloc (.cells #[.int .u8 0, .int .u8 0, .int .u8 0, .int .u8 0, .int .u8 0, .int .u8 0, .int .u8 0, .int .u8 0, .int .u8 0, .int .u8 0, .int .u8 0, .int .u8 0, .int .u8 0, .int .u8 0, .int .u8 0, .int .u8 0, .int .u8 0, .int .u8 0, .int .u8 0, .int .u8 0, .int .u8 0, .int .u8 0, .int .u8 0, .int .u8 0, .int .u8 0, .int .u8 0, .int .u8 0, .int .u8 0, .int .u8 0, .int .u8 0, .int .u8 0, .int .u8 0] 26)).setRow w2.heap.size (D.map byt).toArray = W0 at q1 q2 ⊢
  have k3 := k2.below q1 k2.lt
  have n3 := n2.below q1 n2.lt
  have hT3 := hT2.below (Nat.le_refl _) q1
  have hw3 := hw2.trans (q1.mono hw2.size)
  have hby := q2.bytes (by rw [HDl.out]; omega)
  rw [HDl.out] at hby
  have HX : Hid (W0.rangeAt w1.heap.size 0 (E.map byt)) := Lib.hid (by
    intro j x hj
    rw [n3.cell, HB.out, List.getElem?_toArray, Nat.zero_add]
    exact hj)
  have HY : Hid (W0.there w.heap.size 0 32) := Lib.hid (k3.there 0 32 (by rw [brow_size]; omega))
  have p1 : w1.heap.size < W0.heap.size := n3.lt
  have p0 : w.heap.size < W0.heap.size := k3.lt
  have hone := byt_one (hmac l b)
  have hlen : ((hmac l b).map byt).length = 32 := by rw [List.length_map]; exact sha_length _
  have hu := Tryd.underlying63
  have hz : (Tryd.prog.info? 63).map (·.size) = some (E.map byt).length := by rw [hZ.out, List.length_map, hEl]
  have hsz : (Tryd.prog.info? 26).map (·.size) = some 32 := hZ2.out
  have hst := fun g W => run_sliceAt_whole (P := Tryd.prog) (t := 26) (e := 5) (n := 32) Tryd.underlying26 (by kernel_rfl) g W
  have hd92' : ∀ W v' Q', Bytes W Q' v' D → Tables W → Calls Tryd.prog 41 #[.agg (E.map byt).toArray, .int .u8 92, v'] W (fun e w' => e = .returned (tagv (hmac l b)) ∧ Below W.heap.size W w') := by
    rw [← HB.out]; exact HD92.out
  have HD := Lib.hid hd92'
  have HT3 := Lib.hid hT3
  have HW3 := Lib.hid hw3
  have HBY := Lib.hid hby
  clear hd92' HD92 HD54 hT3 hw3 hby k2 k3 n2 n3 q1 q2 hT2 hw2
  obtain ⟨M, hMd⟩ : ∃ M, M = hmac l b := ⟨_, rfl⟩
  rw [← hMd] at hone hlen HD
  have HM := Lib.hid hMd
  clear hMd
  have hd0 : W0.drew.rangeAt w1.heap.size 0 (E.map byt) ∧ W0.drew.there w.heap.size 0 32 := ⟨HX.out, HY.out⟩
  have hne : w1.heap.size ≠ w.heap.size := by omega
  go_region_held3 (fun w' => w'.rangeAt w1.heap.size 0 (E.map byt) ∧ w'.there w.heap.size 0 32)
    (first | assumption | (exact ⟨World.rangeAt_setCells_apart (And.left (by assumption)) _ _ _ (Or.inl hne), World.there_setCells (And.right (by assumption)) _ _ _⟩))
    (first
      | (go_at_call 41; refine (HD.out W0.drew _ _ HBY.out HT3.out).mono ?_; rintro e w5 ⟨rfl, hb5⟩; have hbw5 : Below W0.heap.size W0 w5 := ((Below.refl _ _).drew).trans hb5; have hd5 := range_there HX.out p1 HY.out p0 hbw5))
  refine (‹∀ (a : Act) (w : World), Code.wp Tryd.prog Code.ret _ a w → _›) _ _ ?_
  apply wp_ret
  refine bodyPost_ret (results_cell_mid Tryd.results21 _ _ w.heap.size 0 _ _ rfl (World.rangeAt_setCells_same _ _ _ _ (by rw [hlen]; exact hd5.2)) Tryd.underlying26 rfl (by rw [hlen]; exact hsz)) rfl ⟨by rw [HM.out], ?_⟩
  exact (HW3.out.trans (hbw5.mono HW3.out.size)).trans (setCells_below _ (Nat.le_refl _) _ _ _)
end Go.Proofs.YtbbpdcnmoabooaaDoor
