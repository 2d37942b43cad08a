/-
  Package hmac: the digest of a masked key followed by a message.
-/
import Derived.Test.YtbbpdcnmoabooaaDoorHmacExt
namespace Go.Proofs.YtbbpdcnmoabooaaDoor
open Go Go.RowKit Sh Leaf

theorem mask_brow (l : List B8) (hl : l.length = 64) (m : B8) : brow 64 (fun j => l.getD j 0 ^^^ m) = ((mask l m).map byt).toArray := by
  have h := brow_list (mask l m)
  rw [mask_length, hl] at h
  rw [← h]
  refine brow_congr fun j hj => ?_
  simp [mask, List.getD_eq_getElem?_getD, hl, hj]

/-- A result of an array type that lies in the midst of a block. -/
theorem results_cell_mid {P : Program} {fn : Func} {p : Tmp} {ty : TypeId} (h : fn.results = #[.cell p ty]) (tmps : Array Value) (w : World) (g o : Nat) (cs : List Value) (d : TypeDesc)
    (hp : tmps.getD p undef = .pointer (some ⟨g, o, none⟩)) (hg : w.rangeAt g o cs) (hu : P.underlying ty = some d) (hd : d.isRow = true) (hi : (P.info? ty).map (·.size) = some cs.length) :
    (results fn tmps).run P w = .ok (.agg cs.toArray) w := by
  have hp' : tmps[p]?.getD undef = .pointer (some ⟨g, o, none⟩) := by simpa using hp
  simp [results, h, hp', asAddr, run_loadVar_mid w g o ty cs d hg hu hd hi]

set_option maxRecDepth 20000 in
set_option maxHeartbeats 1000000 in
theorem hdigest (l : List B8) (hl : l.length = 64) (m : B8) (v : Value) (b : List B8) (Q : Nat → Prop) (w : World) (hr : Bytes w Q v b) (hT : Tables w) (hb : b.length ≤ 900000) :
    Calls Tryd.prog 41 #[.agg (l.map byt).toArray, byt m, v] w fun e w' => e = .returned (tagv (sha (mask l m ++ b))) ∧ Below w.heap.size w w' := by
  have hB : brow 64 (fun j => l.getD j 0) = (l.map byt).toArray := by
    have := brow_list l
    rwa [hl] at this
  have hM := Lib.hid (mask_brow l hl m)
  rw [← hB]
  clear hB
  obtain ⟨f, hf⟩ : ∃ f, f = fun j => l.getD j 0 := ⟨_, rfl⟩
  have hM' : Hid (brow 64 (fun j => f j ^^^ m) = ((mask l m).map byt).toArray) := Lib.hid (by rw [hf]; exact hM.out)
  rw [← hf]
  clear hf hM
  have hml : (mask l m).length = 64 := by rw [mask_length, hl]
  obtain ⟨K, hK⟩ : ∃ K, K = mask l m := ⟨_, rfl⟩
  rw [← hK] at hM' hml ⊢
  clear hK
  have hT0 : ∀ o o', Tables ((w.alloc o).alloc o') := fun o o' => hT.below (Nat.le_refl _) (((Below.refl _ _).alloc (Nat.le_refl _) _).alloc (by simp) _)
  have hb0 : ∀ o o', Below w.heap.size w ((w.alloc o).alloc o') := fun o o' => ((Below.refl _ _).alloc (Nat.le_refl _) _).alloc (by simp) _
  have k0 : ∀ cs o, Whole ((w.alloc (.cells cs 63)).alloc o) w.heap.size 63 cs := fun cs o => (Whole.here _ _ _).alloc _
  have k1 : ∀ o cs, Whole ((w.alloc o).alloc (.cells cs 26)) (w.heap.size + 1) 26 cs := fun o cs => Whole.at_ _ _ _ _ (by simp)
  go_enter Tryd.func41, Tryd.ntmps41
  go_wp2
  go_loopw [8] (fun i wr => ∃ k : Nat, k ≤ 64 ∧ i = .int .i64 k ∧ Whole wr w.heap.size 63 (brow 64 fun j => if j < k then f j ^^^ m else f j) ∧ Whole wr (w.heap.size + 1) 26 (brow 32 fun _ => 0) ∧ Below w.heap.size w wr) (fun i _ => 64 - (intOf i).toNat)
  case atStart => exact ⟨0, by omega, rfl, by simpa using k0 _ _, by rw [brow_zero]; exact k1 _ _, hb0 _ _⟩
  case round =>
    obtain ⟨k, hk, rfl, h0, h1, hbw⟩ := hrel
    by_cases hlt : k < 64
    · have hc : wr.cell? ⟨w.heap.size, k, none⟩ = some (byt (f k)) := by rw [h0.cell, brow_get 64 _ k hlt, if_neg (by omega)]
      have hz := h0.frozen k
      have hx := bits_xor_bv (f k) m
      have hset := h0.set k (byt (f k ^^^ m))
      rw [brow_set 64 _ k _ hlt, brow_congr (g := fun j => if j < k + 1 then f j ^^^ m else f j) (fun j _ => by
        by_cases e1 : j = k
        · subst e1; rw [if_pos rfl, if_pos (by omega)]
        · by_cases e2 : j < k
          · rw [if_neg e1, if_pos e2, if_pos (by omega)]
          · rw [if_neg e1, if_neg e2, if_neg (by omega)])] at hset
      have hn : Whole (wr.setCell ⟨w.heap.size, k, none⟩ (byt (f k ^^^ m))) (w.heap.size + 1) 26 (brow 32 fun _ => 0) := h1.far (by simp) _
      have hbw2 := hbw.setCell (p := ⟨w.heap.size, k, none⟩) (Nat.le_refl _) (byt (f k ^^^ m))
      have HS := Lib.hid (And.intro hset (And.intro hn hbw2))
      clear hset hn hbw2 h0 h1 hbw
      go_wp2
      go_roundw
      case rel => exact ⟨k + 1, by omega, by go_num, HS.out.1, HS.out.2.1, HS.out.2.2⟩
      case measure => simp [intOf]; omega
    · have hk64 : k = 64 := by omega
      subst hk64
      rw [brow_congr (g := fun j => f j ^^^ m) (fun j hj => if_pos hj), hM'.out] at h0
      have hT1 : Tables wr := hT.below (Nat.le_refl _) hbw
      have hby := h0.bytes (by omega)
      rw [hml] at hby
      have hr1 := hr.below hbw (Nat.le_refl _)
      clear hr hT hT0 hb0 k0 k1
      have hsl := fun g W => run_sliceAt_whole (P := Tryd.prog) (t := 63) (e := 5) (n := 64) Tryd.underlying63 (by kernel_rfl) g W
      have ht : wr.there (w.heap.size + 1) 0 32 := h1.there 0 32 (by rw [brow_size]; omega)
      have hsz : (Tryd.prog.info? 26).map (·.size) = some 32 := by kernel_rfl
      have HB := Lib.hid hby
      have HR := Lib.hid hr1
      have H0 := Lib.hid h0
      have H1 := Lib.hid h1
      have HT := Lib.hid hT1
      have HW := Lib.hid hbw
      clear hby hr1 h0 h1 hT1 hbw
      have hKb : (K ++ b).length ≤ 1000000 := by simp; omega
      have HKb := Lib.hid hKb
      have hone := byt_one (sha (K ++ b))
      have hlen : ((sha (K ++ b)).map byt).length = 32 := by rw [List.length_map, sha_length]
      clear hKb
      go_wp2
      have hd0 : wr.drew.there (w.heap.size + 1) 0 32 := ht
      go_region_held3 (fun w' => w'.there (w.heap.size + 1) 0 32) (first | (exact World.there_setCells (by assumption) _ _ _) | assumption)
        (first
          | (go_at_call 20; refine (sum_st (K ++ b) v7 _ _ hv7 (HT.out.below (Nat.le_refl _) hbw7).1 HKb.out).mono ?_; rintro e w8 ⟨rfl, hb8⟩; have hbw8 : Below wr.heap.size wr w8 := hbw7.trans (hb8.mono hbw7.size); have hd8 : w8.there (w.heap.size + 1) 0 32 := (H1.out.below hbw8 H1.out.lt).there 0 32 (by rw [brow_size]; omega))
          | (go_at_call 19; refine (write_st K b v6 _ _ Q _ hv6 (HR.out.below hbw6 (Nat.le_refl _)) (HT.out.below (Nat.le_refl _) hbw6).1 (by omega) (by omega)).mono ?_; rintro e w7 ⟨v7, rfl, hv7, hb7⟩; have hbw7 : Below wr.heap.size wr w7 := hbw6.trans (hb7.mono hbw6.size); have hd7 : w7.there (w.heap.size + 1) 0 32 := (H1.out.below hbw7 H1.out.lt).there 0 32 (by rw [brow_size]; omega))
          | (go_at_call 19; refine (write_st [] K _ _ (fun _ => True) _ _ (Bytes.nil _ _) (HB.out.below hbw5 (Nat.le_refl _)) (HT.out.below (Nat.le_refl _) hbw5).1 (by simp) (by omega)).mono ?_; rintro e w6 ⟨v6, rfl, hv6, hb6⟩; rw [List.nil_append] at hv6 ⊢; have hbw6 : Below wr.heap.size wr w6 := hbw5.trans (hb6.mono hbw5.size); have hd6 : w6.there (w.heap.size + 1) 0 32 := (H1.out.below hbw6 H1.out.lt).there 0 32 (by rw [brow_size]; omega))
          | (go_at_call 17; refine (new_st wr.drew HT.out).mono ?_; rintro e w5 ⟨rfl, hb5⟩; have hbw5 : Below wr.heap.size wr w5 := ((Below.refl _ _).drew).trans hb5; have hd5 : w5.there (w.heap.size + 1) 0 32 := (H1.out.below hbw5 H1.out.lt).there 0 32 (by rw [brow_size]; omega)))
      refine (‹∀ (a : Act) (w : World), Code.wp Tryd.prog Code.ret _ a w → _›) _ _ ?_
      apply wp_ret
      refine bodyPost_ret (results_cell_mid Tryd.results41 _ _ (w.heap.size + 1) 0 _ _ rfl (World.rangeAt_setCells_same _ _ _ _ (by rw [hlen]; exact hd8)) Tryd.underlying26 rfl (by rw [hlen]; exact hsz)) rfl ⟨rfl, ?_⟩
      exact (HW.out.trans (hbw8.mono HW.out.size)).trans (setCells_below _ (by omega) _ _ _)
end Go.Proofs.YtbbpdcnmoabooaaDoor
