/-
  Package hmac: the key as a block.
-/
import Derived.Test.YtbbpdcnmoabooaaDoorHmacSpec
namespace Go.Proofs.YtbbpdcnmoabooaaDoor
open Go Go.RowKit Sh Leaf

/-- What stands in the array behind the copy. -/
theorem ext_row (k : List B8) : (k.map byt ++ (List.replicate 64 (Value.int .u8 0)).drop k.length) = (k ++ List.replicate (64 - k.length) 0).map byt := by
  have h0 : bv 0 = 0 := by unfold bv; rfl
  rw [List.map_append, List.drop_replicate, List.map_replicate, byt, h0]

theorem ext_brow (l : List B8) : brow 64 (fun j => (ext l).getD j 0) = ((ext l).map byt).toArray := by
  have := brow_list (ext l)
  rwa [ext_length] at this

set_option maxHeartbeats 1000000 in
theorem extended_ (v : Value) (l : List B8) (Q : Nat → Prop) (w : World) (hr : Bytes w Q v l) (hT : Tables w) (hl : l.length ≤ 1000000) :
    Calls Tryd.prog 40 #[v] w fun e w' => e = .returned (.agg (brow 64 fun j => (ext l).getD j 0)) ∧ Below w.heap.size w w' := by
  obtain ⟨A, c, rfl, -⟩ := id hr
  have hT0 : ∀ o o', Tables ((w.alloc o).alloc o') := fun o o' => hT.below (Nat.le_refl _) (((Below.refl _ _).alloc (Nat.le_refl _) _).alloc (by simp) _)
  have hb0 : ∀ o o', Below w.heap.size w ((w.alloc o).alloc o') := fun o o' => ((Below.refl _ _).alloc (Nat.le_refl _) _).alloc (by simp) _
  have hE : Hid ((Tryd.prog.info? 63).map (·.size) = some 64) := Lib.hid (by kernel_rfl)
  have hB := Lib.hid (ext_brow l)
  obtain ⟨f, hf⟩ : ∃ f, f = fun j => (ext l).getD j 0 := ⟨_, rfl⟩
  rw [← hf] at hB ⊢
  clear hf
  have hsl := fun g W => run_sliceAt_whole (P := Tryd.prog) (t := 63) (e := 5) (n := 64) Tryd.underlying63 (by kernel_rfl) g W
  have hst := fun g W => run_sliceAt_whole (P := Tryd.prog) (t := 26) (e := 5) (n := 32) Tryd.underlying26 (by kernel_rfl) g W
  have k1 : ∀ o cs, Whole ((w.alloc o).alloc (.cells cs 63)) (w.heap.size + 1) 63 cs := fun o cs => Whole.at_ _ _ _ _ (by simp)
  have k0 : ∀ cs o, Whole ((w.alloc (.cells cs 63)).alloc o) w.heap.size 63 cs := fun cs o => (Whole.here _ _ _).alloc _
  by_cases h64 : 64 < l.length
  · have hk : kb l = sha l := by unfold kb; rw [if_pos h64]
    have he : (sha l ++ List.replicate (64 - (sha l).length) 0) = ext l := by unfold ext; rw [hk]
    go_enter Tryd.func40, Tryd.ntmps40
    go_wp2_with fail
    refine (of_ _ l Q _ (hr.alloc _ |>.alloc _) (hT0 _ _) hl).mono ?_
    rintro e w1 ⟨rfl, hb1⟩
    have k0' : Whole w1 w.heap.size 63 (Array.replicate 64 (.int .u8 0)) := (k0 _ _).below hb1 (by simp; omega)
    have k1' : Whole w1 (w.heap.size + 1) 63 (Array.replicate 64 (.int .u8 0)) := (k1 _ _).below hb1 (by simp)
    have hw1 := (hb0 _ _).trans (hb1.mono (hb0 _ _).size)
    have hs1 : w.heap.size + 2 ≤ w1.heap.size := by have := hb1.size; simp at this; omega
    have hdl : (sha l).length = 32 := sha_length _
    have HL := Lib.hid hdl
    have HZ : Hid ((Tryd.prog.info? 26).map (·.size) = some 32) := Lib.hid (by kernel_rfl)
    have n0 : ∀ cs, Whole (w1.alloc (.cells cs 26)) w1.heap.size 26 cs := fun cs => Whole.here _ _ _
    have n1 : ∀ cs, Whole ((w1.alloc (.cells cs 26)).setRow w1.heap.size ((sha l).map byt).toArray) w1.heap.size 26 ((sha l).map byt).toArray := fun cs => (n0 cs).setRow _
    have hbx : ∀ cs, Below w1.heap.size w1 ((w1.alloc (.cells cs 26)).setRow w1.heap.size ((sha l).map byt).toArray) := fun cs => below_setRow ((Below.refl _ _).alloc (Nat.le_refl _) _) (Nat.le_refl _) _
    have hby : ∀ cs, Bytes ((w1.alloc (.cells cs 26)).setRow w1.heap.size ((sha l).map byt).toArray) (fun b => b = w1.heap.size) (.slice (some ⟨w1.heap.size, 0, none⟩) 32 32) (sha l) := fun cs => by
      have := (n1 cs).bytes (by omega)
      rwa [hdl] at this
    clear hdl hr hT0 k0 k1 hb1 hT
    go_wp2_with (first
      | (with_reducible refine wpList_store_row rfl 26 _ _ rfl w1.heap.size _ rfl rfl _ _ (n0 _).eq (by rw [HZ.out]; simp [HL.out]) (by simp [HL.out]) (all_oneCell_toArray (byt_one _)) ?_)
      | (with_reducible refine wpList_copy_bytes rfl (.tmp 11) (.tmp 12) rfl (w.heap.size + 1) 64 64 rfl _ rfl _ (sha l) (hby _) _ (List.replicate 64 (.int .u8 0)) (k1'.below (hbx _) k1'.lt) (by rw [HL.out]; omega) (by simp) ?_))
    intro w2 hk2 hb2
    have hk2' : Whole w2 (w.heap.size + 1) 63 ((sha l).map byt ++ (List.replicate 64 (Value.int .u8 0)).drop (sha l).length).toArray := hk2.out
    rw [ext_row, he, ← hB.out] at hk2'
    have k0'' : Whole w2 w.heap.size 63 (brow 64 fun _ => 0) := by rw [brow_zero]; exact (k0'.below (hbx _) k0'.lt).below hb2 (by omega)
    have hw2 := (hw1.trans ((hbx _).mono hw1.size)).trans (hb2.mono (by omega))
    have K2 := Lib.hid hk2'
    have K0 := Lib.hid k0''
    clear hk2' k0''
    clear hk2 hbx n0 n1 hby k1' k0' hb2 he hb0
    go_wp2_with (first
      | (with_reducible refine wpList_load_row rfl 63 _ rfl (w.heap.size + 1) rfl _ _ _ _ K2.out.eq Tryd.underlying63 rfl (by rw [hE.out, brow_size]) ?_)
      | (with_reducible refine wpList_store_row rfl 63 _ _ rfl w.heap.size _ rfl rfl _ _ K0.out.eq (by rw [hE.out, brow_size]) (by rw [brow_size, brow_size]) (brow_one _ _) (RowKit.Hid.out ?_)))
    refine Lib.hid ?_
    refine (‹∀ (a : Act) (w : World), Code.wp Tryd.prog Code.ret _ a w → _›) _ _ ?_
    apply wp_ret
    refine bodyPost_ret (results_cell_row Tryd.results40 _ _ w.heap.size _ _ _ _ rfl (K0.out.setRow _) Tryd.underlying63 rfl (by rw [hE.out, brow_size])) rfl ⟨rfl, below_setRow hw2 (Nat.le_refl _) (brow 64 f)⟩
  · have hk : kb l = l := by unfold kb; rw [if_neg h64]
    have he : (l ++ List.replicate (64 - l.length) 0) = ext l := by unfold ext; rw [hk]
    go_enter Tryd.func40, Tryd.ntmps40
    go_wp2_with (with_reducible refine wpList_copy_bytes rfl (.tmp 11) (.tmp 12) rfl (w.heap.size + 1) 64 64 rfl _ rfl Q l (hr.alloc _ |>.alloc _) _ (List.replicate 64 (.int .u8 0)) (k1 _ _) (by omega) (by simp) ?_)
    intro w2 hk2 hb2
    have hk2' : Whole w2 (w.heap.size + 1) 63 (l.map byt ++ (List.replicate 64 (Value.int .u8 0)).drop l.length).toArray := hk2.out
    rw [ext_row, he, ← hB.out] at hk2'
    have k0'' : Whole w2 w.heap.size 63 (brow 64 fun _ => 0) := by rw [brow_zero]; exact (k0 _ _).below hb2 (by omega)
    have hw2 := (hb0 _ _).trans (hb2.mono (by omega))
    have K2 := Lib.hid hk2'
    have K0 := Lib.hid k0''
    clear hk2' k0''
    clear hk2 k1 k0 hb2 he hb0 hT0
    go_wp2_with (first
      | (with_reducible refine wpList_load_row rfl 63 _ rfl (w.heap.size + 1) rfl _ _ _ _ K2.out.eq Tryd.underlying63 rfl (by rw [hE.out, brow_size]) ?_)
      | (with_reducible refine wpList_store_row rfl 63 _ _ rfl w.heap.size _ rfl rfl _ _ K0.out.eq (by rw [hE.out, brow_size]) (by rw [brow_size, brow_size]) (brow_one _ _) (RowKit.Hid.out ?_)))
    refine Lib.hid ?_
    refine (‹∀ (a : Act) (w : World), Code.wp Tryd.prog Code.ret _ a w → _›) _ _ ?_
    apply wp_ret
    refine bodyPost_ret (results_cell_row Tryd.results40 _ _ w.heap.size _ _ _ _ rfl (K0.out.setRow _) Tryd.underlying63 rfl (by rw [hE.out, brow_size])) rfl ⟨rfl, below_setRow hw2 (Nat.le_refl _) (brow 64 f)⟩
theorem extended (v : Value) (l : List B8) (Q : Nat → Prop) (w : World) (hr : Bytes w Q v l) (hT : Tables w) (hl : l.length ≤ 1000000) :
    Calls Tryd.prog 40 #[v] w fun e w' => e = .returned (.agg ((ext l).map byt).toArray) ∧ Below w.heap.size w w' := by
  rw [← ext_brow]
  exact extended_ v l Q w hr hT hl
end Go.Proofs.YtbbpdcnmoabooaaDoor
