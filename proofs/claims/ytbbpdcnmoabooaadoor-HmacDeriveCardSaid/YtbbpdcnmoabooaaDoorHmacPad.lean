/-
  The reference's padded: a key of at most 64 bytes as a masked block.
-/
import Derived.Test.YtbbpdcnmoabooaaDoorHmacOf
namespace Go.Proofs.YtbbpdcnmoabooaaDoor
open Go Go.RowKit Sh Leaf

theorem own_whole {w : World} {base g : Nat} {xs : List B8} (h : Whole w g 5 (xs.map byt).toArray) (hb : base ≤ g) (hl : xs.length ≤ 1000000) :
    w.ownsRow base 5 1 (.slice (some ⟨g, 0, none⟩) xs.length xs.length) xs.length (xs.map byt) :=
  ⟨by simp, .inr ⟨g, xs.length, (xs.map byt).toArray, rfl, hb, h, Nat.le_refl _, by unfold maxLen; omega, by simp, by simp [List.take_of_length_le]⟩⟩

theorem pad_brow (l : List B8) (hl : l.length ≤ 64) (x : B8) : brow 64 (fun j => l.getD j 0 ^^^ x) = ((mask (l ++ List.replicate (64 - l.length) 0) x).map byt).toArray := by
  have hlen : (l ++ List.replicate (64 - l.length) (0 : B8)).length = 64 := by simp; omega
  rw [← mask_brow _ hlen]
  refine brow_congr fun j hj => ?_
  congr 1
  simp only [List.getD_eq_getElem?_getD, List.getElem?_append]
  by_cases h : j < l.length
  · rw [if_pos h]
  · rw [if_neg h, List.getElem?_eq_none (by omega)]
    simp [List.getElem?_replicate]
    split <;> rfl

set_option maxHeartbeats 1000000 in
theorem padded (v : Value) (l : List B8) (Q : Nat → Prop) (x : B8) (w : World) (hr : Bytes w Q v l) (hl : l.length ≤ 64) :
    Calls Tryd.prog 42 #[v, byt x] w fun e w' => e = .returned (.slice (some ⟨w.heap.size, 0, none⟩) 64 64) ∧ Whole w' w.heap.size 5 ((mask (l ++ List.replicate (64 - l.length) 0) x).map byt).toArray ∧ Below w.heap.size w w' := by
  obtain ⟨A, c, rfl, -⟩ := id hr
  have hP := pad_brow l hl x
  rw [← hP]
  clear hP
  obtain ⟨f, hf⟩ : ∃ f : Nat → B8, f = fun j => l.getD j 0 := ⟨_, rfl⟩
  have hP' : Hid (∀ j, f j = l.getD j 0) := Lib.hid fun j => by rw [hf]
  rw [show (fun j => l.getD j 0 ^^^ x) = fun j => f j ^^^ x by rw [hf]]
  clear hf
  have hmk := make_bytes 64 64 rfl (by omega)
  have k0 : Whole (w.alloc (.cells (brow 64 fun _ => 0) 5)) w.heap.size 5 (brow 64 fun _ => 0) := Whole.here _ _ _
  go_enter Tryd.func42, Tryd.ntmps42
  go_wp2
  go_loopw [6] (fun i wr => ∃ k : Nat, k ≤ 64 ∧ i = .int .i64 k ∧ Whole wr w.heap.size 5 (brow 64 fun j => if j < k then f j ^^^ x else 0) ∧ Below w.heap.size w wr) (fun i _ => 64 - (intOf i).toNat)
  case atStart => exact ⟨0, by omega, rfl, by simpa using k0, (Below.refl _ _).alloc (Nat.le_refl _) _⟩
  case round =>
    clear k0 hmk
    obtain ⟨k, hk, rfl, h0, hbw⟩ := hrel
    by_cases hlt : k < 64
    · have hg : ∀ (h : Nat → B8) (y : B8), (∀ j, j < k → h j = f j ^^^ x) → (∀ j, k < j → h j = 0) → y = f k ^^^ x → (brow 64 h).setIfInBounds k (byt y) = brow 64 fun j => if j < k + 1 then f j ^^^ x else 0 := fun h y h1 h2 h3 => by
        rw [brow_set 64 _ k _ hlt]
        refine brow_congr fun j _ => ?_
        by_cases e1 : j = k
        · subst e1; rw [if_pos rfl, if_pos (by omega), h3]
        · by_cases e2 : j < k
          · rw [if_neg e1, h1 j e2, if_pos (by omega)]
          · rw [if_neg e1, h2 j (by omega), if_neg (by omega)]
      have hc : wr.cell? ⟨w.heap.size, k, none⟩ = some (byt 0) := by rw [h0.cell, brow_get 64 _ k hlt, if_neg (by omega)]
      have hz := h0.frozen k
      have h1 := h0.set k (byt x)
      have hbw1 := hbw.setCell (p := ⟨w.heap.size, k, none⟩) (Nat.le_refl _) (byt x)
      by_cases hi : k < l.length
      · obtain ⟨A1, c1, e1, -, -, -, h4⟩ := id hr
        cases e1
        obtain ⟨g, o, rfl, _, hcell⟩ := h4 (by omega)
        have hx : f k = l[k] := by rw [hP'.out, List.getD_eq_getElem?_getD, List.getElem?_eq_getElem hi]; rfl
        have hck := hcell k (f k) (by rw [List.getElem?_eq_getElem hi, hx])
        have hgl : g < w.heap.size := block_lt_of_cell hck
        have hck1 : (wr.setCell ⟨w.heap.size, k, none⟩ (byt x)).cell? ⟨g, o + k, none⟩ = some (byt (f k)) := (hbw1.cell (p := ⟨g, o + k, none⟩) hgl).trans hck
        rw [brow_set 64 _ k _ hlt] at h1
        have hc1 : (wr.setCell ⟨w.heap.size, k, none⟩ (byt x)).cell? ⟨w.heap.size, k, none⟩ = some (byt x) := by rw [h1.cell, brow_get 64 _ k hlt, if_pos rfl]
        have hz1 := h1.frozen k
        have hb1 := bits_xor_bv (f k) x
        have h2 := h1.set k (byt (f k ^^^ x))
        rw [hg _ _ (fun j hj => by rw [if_neg (by omega), if_pos hj]) (fun j hj => by rw [if_neg (by omega), if_neg (by omega)]) rfl] at h2
        have hbw2 := hbw1.setCell (p := ⟨w.heap.size, k, none⟩) (Nat.le_refl _) (byt (f k ^^^ x))
        have H := Lib.hid (And.intro h2 hbw2)
        clear h1 h2 hbw1 hbw2 h0 hbw hg hcell h4 hck hr hx
        go_wp2
        go_roundw
        case rel => exact ⟨k + 1, by omega, by go_num, H.out.1, H.out.2⟩
        case measure => simp [intOf]; omega
      · have hx : x = f k ^^^ x := by
          rw [hP'.out, List.getD_eq_getElem?_getD, List.getElem?_eq_none (by omega)]
          simp
        rw [hg _ x (fun j hj => by rw [if_pos hj]) (fun j hj => by rw [if_neg (by omega)]) hx] at h1
        have H := Lib.hid (And.intro h1 hbw1)
        clear h1 hbw1 h0 hbw hg hr hx
        go_wp2
        go_roundw
        case rel => exact ⟨k + 1, by omega, by go_num, H.out.1, H.out.2⟩
        case measure => simp [intOf]; omega
    · have hk64 : k = 64 := by omega
      subst hk64
      rw [brow_congr (g := fun j => f j ^^^ x) (fun j hj => if_pos hj)] at h0
      have H := Lib.hid (And.intro h0 hbw)
      clear h0 hbw
      go_wp2
      go_ret
      exact ⟨rfl, H.out⟩
end Go.Proofs.YtbbpdcnmoabooaaDoor
