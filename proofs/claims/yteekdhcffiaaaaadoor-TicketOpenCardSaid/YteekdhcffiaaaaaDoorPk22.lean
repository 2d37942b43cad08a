/-
  HmacPad
  HmacRef
-/
import Derived.Test.YteekdhcffiaaaaaDoorPk8
import Derived.Test.YteekdhcffiaaaaaDoorPk21
namespace Go.Proofs.YteekdhcffiaaaaaDoor
open Go Go.RowKit Sh Leaf

theorem pad_brow (l : List B8) (hl : l.length ≤ 64) (x : B8) : brow 64 (fun j => l.getD j 0 ^^^ x) = ((mask (l ++ List.replicate (64 - l.length) 0) x).map byt).toArray := by
  have hlen : (l ++ List.replicate (64 - l.length) (0 : B8)).length = 64 := by simp; omega
  rw [← mask_brow _ hlen]
  refine brow_congr fun j hj => ?_
  congr 1
  simp only [List.getD_eq_getElem?_getD, List.getElem?_append]
  by_cases h : j < l.length
  · rw [if_pos h]
  · rw [if_neg h, List.getElem?_eq_none (by omega)]
    simp [List.getElem?_replicate]
    split <;> rfl

set_option maxRecDepth 20000 in
set_option maxHeartbeats 1000000 in
theorem padded (v : Value) (l : List B8) (Q : Nat → Prop) (x : B8) (w : World) (hr : Bytes w Q v l) (hl : l.length ≤ 64) :
    Calls Tryd.prog 52 #[v, byt x] w fun e w' => e = .returned (.slice (some ⟨w.heap.size, 0, none⟩) 64 64) ∧ Whole w' w.heap.size 5 ((mask (l ++ List.replicate (64 - l.length) 0) x).map byt).toArray ∧ Below w.heap.size w w' := by
  obtain ⟨A, c, rfl, -⟩ := id hr
  have hP := pad_brow l hl x
  rw [← hP]
  clear hP
  obtain ⟨f, hf⟩ : ∃ f : Nat → B8, f = fun j => l.getD j 0 := ⟨_, rfl⟩
  have hP' : Hid (∀ j, f j = l.getD j 0) := Lib.hid fun j => by rw [hf]
  rw [show (fun j => l.getD j 0 ^^^ x) = fun j => f j ^^^ x by rw [hf]]
  clear hf
  have hmk := make_bytes 64 64 rfl (by omega)
  have k0 : Whole (w.alloc (.cells (brow 64 fun _ => 0) 5)) w.heap.size 5 (brow 64 fun _ => 0) := Whole.here _ _ _
  go_enter Tryd.func52, Tryd.ntmps52
  go_wp2
  go_loopw [6] (fun i wr => ∃ k : Nat, k ≤ 64 ∧ i = .int .i64 k ∧ Whole wr w.heap.size 5 (brow 64 fun j => if j < k then f j ^^^ x else 0) ∧ Below w.heap.size w wr) (fun i _ => 64 - (intOf i).toNat)
  case atStart => exact ⟨0, by omega, rfl, by simpa using k0, (Below.refl _ _).alloc (Nat.le_refl _) _⟩
  case round =>
    clear k0 hmk
    obtain ⟨k, hk, rfl, h0, hbw⟩ := hrel
    by_cases hlt : k < 64
    · have hg : ∀ (h : Nat → B8) (y : B8), (∀ j, j < k → h j = f j ^^^ x) → (∀ j, k < j → h j = 0) → y = f k ^^^ x → (brow 64 h).setIfInBounds k (byt y) = brow 64 fun j => if j < k + 1 then f j ^^^ x else 0 := fun h y h1 h2 h3 => by
        rw [brow_set 64 _ k _ hlt]
        refine brow_congr fun j _ => ?_
        by_cases e1 : j = k
        · subst e1; rw [if_pos rfl, if_pos (by omega), h3]
        · by_cases e2 : j < k
          · rw [if_neg e1, h1 j e2, if_pos (by omega)]
          · rw [if_neg e1, h2 j (by omega), if_neg (by omega)]
      have hc : wr.cell? ⟨w.heap.size, k, none⟩ = some (byt 0) := by rw [h0.cell, brow_get 64 _ k hlt, if_neg (by omega)]
      have hz := h0.frozen k
      have h1 := h0.set k (byt x)
      have hbw1 := hbw.setCell (p := ⟨w.heap.size, k, none⟩) (Nat.le_refl _) (byt x)
      by_cases hi : k < l.length
      · obtain ⟨A1, c1, e1, -, -, -, h4⟩ := id hr
        cases e1
        obtain ⟨g, o, rfl, _, hcell⟩ := h4 (by omega)
        have hx : f k = l[k] := by rw [hP'.out, List.getD_eq_getElem?_getD, List.getElem?_eq_getElem hi]; rfl
        have hck := hcell k (f k) (by rw [List.getElem?_eq_getElem hi, hx])
        have hgl : g < w.heap.size := block_lt_of_cell hck
        have hck1 : (wr.setCell ⟨w.heap.size, k, none⟩ (byt x)).cell? ⟨g, o + k, none⟩ = some (byt (f k)) := (hbw1.cell (p := ⟨g, o + k, none⟩) hgl).trans hck
        rw [brow_set 64 _ k _ hlt] at h1
        have hc1 : (wr.setCell ⟨w.heap.size, k, none⟩ (byt x)).cell? ⟨w.heap.size, k, none⟩ = some (byt x) := by rw [h1.cell, brow_get 64 _ k hlt, if_pos rfl]
        have hz1 := h1.frozen k
        have hb1 := bits_xor_bv (f k) x
        have h2 := h1.set k (byt (f k ^^^ x))
        rw [hg _ _ (fun j hj => by rw [if_neg (by omega), if_pos hj]) (fun j hj => by rw [if_neg (by omega), if_neg (by omega)]) rfl] at h2
        have hbw2 := hbw1.setCell (p := ⟨w.heap.size, k, none⟩) (Nat.le_refl _) (byt (f k ^^^ x))
        have H := Lib.hid (And.intro h2 hbw2)
        clear h1 h2 hbw1 hbw2 h0 hbw hg hcell h4 hck hr hx
        go_wp2
        go_roundw
        case rel => exact ⟨k + 1, by omega, by go_num, H.out.1, H.out.2⟩
        case measure => simp [intOf]; omega
      · have hx : x = f k ^^^ x := by
          rw [hP'.out, List.getD_eq_getElem?_getD, List.getElem?_eq_none (by omega)]
          simp
        rw [hg _ x (fun j hj => by rw [if_pos hj]) (fun j hj => by rw [if_neg (by omega)]) hx] at h1
        have H := Lib.hid (And.intro h1 hbw1)
        clear h1 hbw1 h0 hbw hg hr hx
        go_wp2
        go_roundw
        case rel => exact ⟨k + 1, by omega, by go_num, H.out.1, H.out.2⟩
        case measure => simp [intOf]; omega
    · have hk64 : k = 64 := by omega
      subst hk64
      rw [brow_congr (g := fun j => f j ^^^ x) (fun j hj => if_pos hj)] at h0
      have H := Lib.hid (And.intro h0 hbw)
      clear h0 hbw
      go_wp2
      go_ret
      exact ⟨rfl, H.out⟩
end Go.Proofs.YteekdhcffiaaaaaDoor
namespace Go.Proofs.YteekdhcffiaaaaaDoor
open Go Go.RowKit Sh Leaf

set_option maxRecDepth 20000 in
set_option maxHeartbeats 2000000 in
theorem ref_hmac (vk v : Value) (l b : List B8) (Qk Q : Nat → Prop) (w : World) (hk : Bytes w Qk vk l) (hr : Bytes w Q v b) (hl : l.length ≤ 900000) (hb : b.length ≤ 900000) :
    Calls Tryd.prog 35 #[vk, v] w fun e w' => e = .returned (tagv (hmac l b)) ∧ Below w.heap.size w w' := by
  obtain ⟨A, c, rfl, -⟩ := id hk
  have hKl := kb_length l
  have hgo : sha (mask (ext l) 92 ++ sha (mask (ext l) 54 ++ b)) = hmac l b := rfl
  have hEl := ext_length l
  have h54 : byt 54 = .int .u8 54 := by have : bv 54 = 54 := by unfold bv; rfl
                                        rw [byt, this]
  have h92 : byt 92 = .int .u8 92 := by have : bv 92 = 92 := by unfold bv; rfl
                                        rw [byt, this]
  have hp54 : ∀ W v' Q', Bytes W Q' v' (kb l) → Calls Tryd.prog 52 #[v', .int .u8 54] W (fun e w' => e = .returned (.slice (some ⟨W.heap.size, 0, none⟩) 64 64) ∧ Whole w' W.heap.size 5 ((mask (ext l) 54).map byt).toArray ∧ Below W.heap.size W w') := fun W v' Q' h => by
    rw [← h54]; exact padded v' (kb l) Q' 54 W h hKl
  have hp92 : ∀ W v' Q', Bytes W Q' v' (kb l) → Calls Tryd.prog 52 #[v', .int .u8 92] W (fun e w' => e = .returned (.slice (some ⟨W.heap.size, 0, none⟩) 64 64) ∧ Whole w' W.heap.size 5 ((mask (ext l) 92).map byt).toArray ∧ Below W.heap.size W w') := fun W v' Q' h => by
    rw [← h92]; exact padded v' (kb l) Q' 92 W h hKl
  clear h54 h92
  have hm1 : (mask (ext l) 54).length = 64 := by rw [mask_length, hEl]
  have hm2 : (mask (ext l) 92).length = 64 := by rw [mask_length, hEl]
  obtain ⟨E1, hE1⟩ : ∃ E1, E1 = mask (ext l) 54 := ⟨_, rfl⟩
  obtain ⟨E2, hE2⟩ : ∃ E2, E2 = mask (ext l) 92 := ⟨_, rfl⟩
  rw [← hE1, ← hE2] at hgo
  rw [← hE1] at hp54 hm1
  rw [← hE2] at hp92 hm2
  clear hE1 hE2 hEl
  obtain ⟨D, hD⟩ : ∃ D, D = sha (E1 ++ b) := ⟨_, rfl⟩
  have hDl : D.length = 32 := by rw [hD, sha_length]
  obtain ⟨M, hM⟩ : ∃ M, M = hmac l b := ⟨_, rfl⟩
  rw [← hD, ← hM] at hgo
  have hMl : M.length = 32 := by rw [hM]; exact sha_length _
  rw [← hM]
  have HD := Lib.hid hD
  have HG := Lib.hid hgo
  clear hD hgo hM
  have HP54 := Lib.hid hp54
  have HP92 := Lib.hid hp92
  clear hp54 hp92
  have HDl := Lib.hid hDl
  have HMl := Lib.hid hMl
  clear hDl hMl
  have hZ : Hid ((Tryd.prog.info? 28).map (·.size) = some 32) := Lib.hid (by kernel_rfl)
  have hx0 : ∀ o, Below w.heap.size w (w.alloc o) := fun o => (Below.refl _ _).alloc (Nat.le_refl _) _
  have k0 : ∀ cs, Whole (w.alloc (.cells cs 28)) w.heap.size 28 cs := fun cs => Whole.here _ _ _
  have hst := fun g W => run_sliceAt_whole (P := Tryd.prog) (t := 28) (e := 5) (n := 32) Tryd.underlying28 (by kernel_rfl) g W
  by_cases h64 : 64 < l.length
  focus
    have hkb : kb l = sha l := by unfold kb; rw [if_pos h64]
    have hsl : (sha l).length = 32 := sha_length _
    obtain ⟨K, hK⟩ : ∃ K, K = sha l := ⟨_, rfl⟩
    rw [← hK] at hkb hsl
    have HK := Lib.hid hK
    have HKb := Lib.hid hkb
    have HS := Lib.hid hsl
    clear hK hkb hsl
    go_enter Tryd.func35, Tryd.ntmps35
    go_wp2_with fail
    refine (ref_sha _ l Qk _ (hk.alloc _) (by omega)).mono ?_
    rintro e w1 ⟨rfl, hb1⟩
    rw [← HK.out]
    have k1 : Whole w1 w.heap.size 28 (brow 32 fun _ => 0) := by rw [brow_zero]; exact (k0 _).below hb1 (by simp)
    have hw1 := (hx0 _).trans (hb1.mono (hx0 _).size)
    have hs1 : w.heap.size < w1.heap.size := k1.lt
    have hr1 := hr.below hw1 (Nat.le_refl _)
    have m0 : ∀ cs, Whole (w1.alloc (.cells cs 28)) w1.heap.size 28 cs := fun cs => Whole.here _ _ _
    have m1 : ∀ cs, Whole ((w1.alloc (.cells cs 28)).setRow w1.heap.size (K.map byt).toArray) w1.heap.size 28 (K.map byt).toArray := fun cs => (m0 cs).setRow _
    have hbx : ∀ cs, Below w1.heap.size w1 ((w1.alloc (.cells cs 28)).setRow w1.heap.size (K.map byt).toArray) := fun cs => below_setRow ((Below.refl _ _).alloc (Nat.le_refl _) _) (Nat.le_refl _) _
    clear hb1 hx0 k0 hk hr
    go_wp2_with (first
      | (with_reducible refine wpList_store_row rfl 28 _ _ rfl w1.heap.size _ rfl rfl _ _ (m0 _).eq (by rw [hZ.out]; simp [HS.out]) (by simp [HS.out]) (all_oneCell_toArray (byt_one _)) ?_))
    have q1 := hbx #[Value.int .u8 0, Value.int .u8 0, Value.int .u8 0, Value.int .u8 0, Value.int .u8 0, Value.int .u8 0, Value.int .u8 0, Value.int .u8 0, Value.int .u8 0, Value.int .u8 0, Value.int .u8 0, Value.int .u8 0, Value.int .u8 0, Value.int .u8 0, Value.int .u8 0, Value.int .u8 0, Value.int .u8 0, Value.int .u8 0, Value.int .u8 0, Value.int .u8 0, Value.int .u8 0, Value.int .u8 0, Value.int .u8 0, Value.int .u8 0, Value.int .u8 0, Value.int .u8 0, Value.int .u8 0, Value.int .u8 0, Value.int .u8 0, Value.int .u8 0, Value.int .u8 0, Value.int .u8 0]
    have q2 := m1 #[Value.int .u8 0, Value.int .u8 0, Value.int .u8 0, Value.int .u8 0, Value.int .u8 0, Value.int .u8 0, Value.int .u8 0, Value.int .u8 0, Value.int .u8 0, Value.int .u8 0, Value.int .u8 0, Value.int .u8 0, Value.int .u8 0, Value.int .u8 0, Value.int .u8 0, Value.int .u8 0, Value.int .u8 0, Value.int .u8 0, Value.int .u8 0, Value.int .u8 0, Value.int .u8 0, Value.int .u8 0, Value.int .u8 0, Value.int .u8 0, Value.int .u8 0, Value.int .u8 0, Value.int .u8 0, Value.int .u8 0, Value.int .u8 0, Value.int .u8 0, Value.int .u8 0, Value.int .u8 0]
    clear hbx m0 m1
    generalize (w1.alloc (Obj.cells #[Value.int .u8 0, Value.int .u8 0, Value.int .u8 0, Value.int .u8 0, Value.int .u8 0, Value.int .u8 0, Value.int .u8 0, Value.int .u8 0, Value.int .u8 0, Value.int .u8 0, Value.int .u8 0, Value.int .u8 0, Value.int .u8 0, Value.int .u8 0, Value.int .u8 0, Value.int .u8 0, Value.int .u8 0, Value.int .u8 0, Value.int .u8 0, Value.int .u8 0, Value.int .u8 0, Value.int .u8 0, Value.int .u8 0, Value.int .u8 0, Value.int .u8 0, Value.int .u8 0, Value.int .u8 0, Value.int .u8 0, Value.int .u8 0, Value.int .u8 0, Value.int .u8 0, Value.int .u8 0] 28)).setRow w1.heap.size (K.map byt).toArray = W1 at q1 q2 ⊢
    have hby := q2.bytes (by rw [HS.out]; omega)
    rw [HS.out, ← HKb.out] at hby
    have k2 := k1.below q1 k1.lt
    have hr2 := hr1.below q1 (Nat.le_refl _)
    have hw2 := hw1.trans (q1.mono hw1.size)
    clear k1 hr1 hw1 q1 q2
  rotate_left
  focus
    have hkb : kb l = l := by unfold kb; rw [if_neg h64]
    have hk' : Bytes w Qk (.slice A l.length c) (kb l) := by rw [hkb]; exact hk
    have hw2 := hx0 (Obj.cells #[Value.int .u8 0, Value.int .u8 0, Value.int .u8 0, Value.int .u8 0, Value.int .u8 0, Value.int .u8 0, Value.int .u8 0, Value.int .u8 0, Value.int .u8 0, Value.int .u8 0, Value.int .u8 0, Value.int .u8 0, Value.int .u8 0, Value.int .u8 0, Value.int .u8 0, Value.int .u8 0, Value.int .u8 0, Value.int .u8 0, Value.int .u8 0, Value.int .u8 0, Value.int .u8 0, Value.int .u8 0, Value.int .u8 0, Value.int .u8 0, Value.int .u8 0, Value.int .u8 0, Value.int .u8 0, Value.int .u8 0, Value.int .u8 0, Value.int .u8 0, Value.int .u8 0, Value.int .u8 0] 28)
    have k2 : Whole (w.alloc (Obj.cells #[Value.int .u8 0, Value.int .u8 0, Value.int .u8 0, Value.int .u8 0, Value.int .u8 0, Value.int .u8 0, Value.int .u8 0, Value.int .u8 0, Value.int .u8 0, Value.int .u8 0, Value.int .u8 0, Value.int .u8 0, Value.int .u8 0, Value.int .u8 0, Value.int .u8 0, Value.int .u8 0, Value.int .u8 0, Value.int .u8 0, Value.int .u8 0, Value.int .u8 0, Value.int .u8 0, Value.int .u8 0, Value.int .u8 0, Value.int .u8 0, Value.int .u8 0, Value.int .u8 0, Value.int .u8 0, Value.int .u8 0, Value.int .u8 0, Value.int .u8 0, Value.int .u8 0, Value.int .u8 0] 28)) w.heap.size 28 (brow 32 fun _ => 0) := by rw [brow_zero]; exact k0 _
    have hby := hk'.alloc (Obj.cells #[Value.int .u8 0, Value.int .u8 0, Value.int .u8 0, Value.int .u8 0, Value.int .u8 0, Value.int .u8 0, Value.int .u8 0, Value.int .u8 0, Value.int .u8 0, Value.int .u8 0, Value.int .u8 0, Value.int .u8 0, Value.int .u8 0, Value.int .u8 0, Value.int .u8 0, Value.int .u8 0, Value.int .u8 0, Value.int .u8 0, Value.int .u8 0, Value.int .u8 0, Value.int .u8 0, Value.int .u8 0, Value.int .u8 0, Value.int .u8 0, Value.int .u8 0, Value.int .u8 0, Value.int .u8 0, Value.int .u8 0, Value.int .u8 0, Value.int .u8 0, Value.int .u8 0, Value.int .u8 0] 28)
    have hr2 := hr.alloc (Obj.cells #[Value.int .u8 0, Value.int .u8 0, Value.int .u8 0, Value.int .u8 0, Value.int .u8 0, Value.int .u8 0, Value.int .u8 0, Value.int .u8 0, Value.int .u8 0, Value.int .u8 0, Value.int .u8 0, Value.int .u8 0, Value.int .u8 0, Value.int .u8 0, Value.int .u8 0, Value.int .u8 0, Value.int .u8 0, Value.int .u8 0, Value.int .u8 0, Value.int .u8 0, Value.int .u8 0, Value.int .u8 0, Value.int .u8 0, Value.int .u8 0, Value.int .u8 0, Value.int .u8 0, Value.int .u8 0, Value.int .u8 0, Value.int .u8 0, Value.int .u8 0, Value.int .u8 0, Value.int .u8 0] 28)
    have HKb := Lib.hid hkb
    clear hk hr hx0 k0 hk' hkb
    go_enter Tryd.func35, Tryd.ntmps35
    go_wp2_with fail
    generalize w.alloc (Obj.cells #[Value.int .u8 0, Value.int .u8 0, Value.int .u8 0, Value.int .u8 0, Value.int .u8 0, Value.int .u8 0, Value.int .u8 0, Value.int .u8 0, Value.int .u8 0, Value.int .u8 0, Value.int .u8 0, Value.int .u8 0, Value.int .u8 0, Value.int .u8 0, Value.int .u8 0, Value.int .u8 0, Value.int .u8 0, Value.int .u8 0, Value.int .u8 0, Value.int .u8 0, Value.int .u8 0, Value.int .u8 0, Value.int .u8 0, Value.int .u8 0, Value.int .u8 0, Value.int .u8 0, Value.int .u8 0, Value.int .u8 0, Value.int .u8 0, Value.int .u8 0, Value.int .u8 0, Value.int .u8 0] 28) = W1 at hw2 k2 hby hr2 ⊢
  all_goals
    have hs2 : w.heap.size < W1.heap.size := k2.lt
    refine (HP54.out _ _ _ hby).mono ?_
    rintro e w2 ⟨rfl, n2, hb2⟩
    have hown := own_whole (base := W1.heap.size) n2 (Nat.le_refl _) (by omega)
    rw [hm1] at hown
    have hown' : w2.ownsRow W1.heap.size 5 1 (.slice (some ⟨W1.heap.size, 0, none⟩) 64 64) E1.length (E1.map byt) := by rw [hm1]; exact hown
    clear hown
    have hr3 := hr2.below hb2 (Nat.le_refl _)
    have hs3 := n2.lt
    clear n2
    have HBY := Lib.hid hby
    have HK2 := Lib.hid k2
    have HW2 := Lib.hid hw2
    clear hby k2 hw2 hr2
    go_wp2_with (at_builtin; refine wpList_append_bytes rfl _ _ rfl W1.heap.size _ E1 rfl hown' Q _ b rfl hr3 (by omega) (by omega) ?_; intro v4 w4 hown4 hb4)
    have hq4 := hb2.trans hb4
    have hEb : (E1 ++ b).length ≤ 1000000 := by simp; omega
    clear hown' hb4 hb2 hr3 hs3
    refine (ref_sha _ (E1 ++ b) _ _ (Bytes.of_own hown4) hEb).mono ?_
    rintro e w5 ⟨rfl, hb5⟩
    rw [← HD.out]
    have hq5 := hq4.trans (hb5.mono hq4.size)
    have m0 : ∀ cs, Whole (w5.alloc (.cells cs 28)) w5.heap.size 28 cs := fun cs => Whole.here _ _ _
    have m1 : ∀ cs, Whole ((w5.alloc (.cells cs 28)).setRow w5.heap.size (D.map byt).toArray) w5.heap.size 28 (D.map byt).toArray := fun cs => (m0 cs).setRow _
    have hbx : ∀ cs, Below w5.heap.size w5 ((w5.alloc (.cells cs 28)).setRow w5.heap.size (D.map byt).toArray) := fun cs => below_setRow ((Below.refl _ _).alloc (Nat.le_refl _) _) (Nat.le_refl _) _
    clear hb5 hq4 hown4 hEb
    go_wp2_with (with_reducible refine wpList_store_row rfl 28 _ _ rfl w5.heap.size _ rfl rfl _ _ (m0 _).eq (by rw [hZ.out]; simp [HDl.out]) (by simp [HDl.out]) (all_oneCell_toArray (byt_one _)) ?_)
    have q1 := hbx #[Value.int .u8 0, Value.int .u8 0, Value.int .u8 0, Value.int .u8 0, Value.int .u8 0, Value.int .u8 0, Value.int .u8 0, Value.int .u8 0, Value.int .u8 0, Value.int .u8 0, Value.int .u8 0, Value.int .u8 0, Value.int .u8 0, Value.int .u8 0, Value.int .u8 0, Value.int .u8 0, Value.int .u8 0, Value.int .u8 0, Value.int .u8 0, Value.int .u8 0, Value.int .u8 0, Value.int .u8 0, Value.int .u8 0, Value.int .u8 0, Value.int .u8 0, Value.int .u8 0, Value.int .u8 0, Value.int .u8 0, Value.int .u8 0, Value.int .u8 0, Value.int .u8 0, Value.int .u8 0]
    have q2 := m1 #[Value.int .u8 0, Value.int .u8 0, Value.int .u8 0, Value.int .u8 0, Value.int .u8 0, Value.int .u8 0, Value.int .u8 0, Value.int .u8 0, Value.int .u8 0, Value.int .u8 0, Value.int .u8 0, Value.int .u8 0, Value.int .u8 0, Value.int .u8 0, Value.int .u8 0, Value.int .u8 0, Value.int .u8 0, Value.int .u8 0, Value.int .u8 0, Value.int .u8 0, Value.int .u8 0, Value.int .u8 0, Value.int .u8 0, Value.int .u8 0, Value.int .u8 0, Value.int .u8 0, Value.int .u8 0, Value.int .u8 0, Value.int .u8 0, Value.int .u8 0, Value.int .u8 0, Value.int .u8 0]
    clear hbx m0 m1
    generalize (w5.alloc (Obj.cells #[Value.int .u8 0, Value.int .u8 0, Value.int .u8 0, Value.int .u8 0, Value.int .u8 0, Value.int .u8 0, Value.int .u8 0, Value.int .u8 0, Value.int .u8 0, Value.int .u8 0, Value.int .u8 0, Value.int .u8 0, Value.int .u8 0, Value.int .u8 0, Value.int .u8 0, Value.int .u8 0, Value.int .u8 0, Value.int .u8 0, Value.int .u8 0, Value.int .u8 0, Value.int .u8 0, Value.int .u8 0, Value.int .u8 0, Value.int .u8 0, Value.int .u8 0, Value.int .u8 0, Value.int .u8 0, Value.int .u8 0, Value.int .u8 0, Value.int .u8 0, Value.int .u8 0, Value.int .u8 0] 28)).setRow w5.heap.size (D.map byt).toArray = W6 at q1 q2 ⊢
    have hq6 := hq5.trans (q1.mono hq5.size)
    have hbd := q2.bytes (by rw [HDl.out]; omega)
    rw [HDl.out] at hbd
    have HBD := Lib.hid hbd
    have hs6 := hq6.size
    have p0 : w.heap.size < W6.heap.size := by omega
    have HY : Hid (W6.there w.heap.size 0 32) := Lib.hid ((HK2.out.below hq6 hs2).there 0 32 (by rw [brow_size]; omega))
    have hd0 : W6.drew.there w.heap.size 0 32 := HY.out
    have HB6 := Lib.hid (HBY.out.below hq6 (Nat.le_refl _))
    have HW6 := Lib.hid (HW2.out.trans (hq6.mono HW2.out.size))
    have hone := byt_one M
    have hlen : (M.map byt).length = 32 := by rw [List.length_map]; exact HMl.out
    have hsz : (Tryd.prog.info? 28).map (·.size) = some 32 := hZ.out
    have HQ := Lib.hid hq6
    clear hbd q1 q2 hq5 hq6
    go_region_held3 (fun w' => w'.there w.heap.size 0 32)
      (first | assumption | (exact World.there_setCells (by assumption) _ _ _))
      (first
        | (go_at_call 51; refine (ref_sha _ (E2 ++ D) _ _ (Bytes.of_own hown8) (by rw [List.length_append]; have := HDl.out; omega)).mono ?_; rintro e w9 ⟨rfl, hb9⟩; rw [HG.out]; have hq9 := hq8.trans (hb9.mono hq8.size); have hd9 : w9.there w.heap.size 0 32 := there_below HY.out p0 hq9)
        | (refine step_append_bytes (by rfl) _ _ (by rfl) W6.heap.size (.slice (some ⟨W6.heap.size, 0, none⟩) 64 64) E2 (by rfl) hown7 _ _ D (by rfl) (HBD.out.below hq7 (Nat.le_refl _)) (by have := HDl.out; omega) hq7.size ?_; intro v8 w8 hown8 hb8; have hq8 := hq7.trans hb8; have hd8 : w8.there w.heap.size 0 32 := there_below HY.out p0 hq8)
        | (go_at_call 52; refine (HP92.out W6.drew _ _ HB6.out).mono ?_; rintro e w7 ⟨rfl, n7, hb7⟩; have hq7 : Below W6.heap.size W6 w7 := ((Below.refl _ _).drew).trans hb7; have hd7 : w7.there w.heap.size 0 32 := there_below HY.out p0 hq7; have hown7 : w7.ownsRow W6.heap.size 5 1 (.slice (some ⟨W6.heap.size, 0, none⟩) 64 64) E2.length (E2.map byt) := (by have h := own_whole (base := W6.heap.size) n7 (Nat.le_refl _) (by omega); rw [hm2] at h ⊢; exact h)))
    refine (‹∀ (a : Act) (w : World), Code.wp Tryd.prog Code.ret _ a w → _›) _ _ ?_
    apply wp_ret
    refine bodyPost_ret (results_cell_mid Tryd.results35 _ _ w.heap.size 0 _ _ rfl (World.rangeAt_setCells_same _ _ _ _ (by rw [hlen]; exact hd9)) Tryd.underlying28 rfl (by rw [hlen]; exact hsz)) rfl ⟨rfl, ?_⟩
    exact (HW6.out.trans (hq9.mono HW6.out.size)).trans (setCells_below _ (Nat.le_refl _) _ _ _)
end Go.Proofs.YteekdhcffiaaaaaDoor
