/-
  Package sha by its promise: Write, Sum and Of on the states that New and Write return.
-/
import Derived.Test.YtbbpdcnmoabooaaDoorShaSum
import Derived.Test.YtbbpdcnmoabooaaDoorShaPlain
namespace Go.Proofs.YtbbpdcnmoabooaaDoor
open Go Go.RowKit Sh Leaf

abbrev hstate (l : List B8) (v : Value) : Array Value := hashv (stAfter l) v (l.length : Int)
abbrev tagv (l : List B8) : Value := .agg (l.map byt).toArray

theorem write_st (l b : List B8) (vr vb : Value) (Qr Qb : Nat → Prop) (w : World) (hr : Bytes w Qr vr (restOf l)) (hb : Bytes w Qb vb b) (hK : Consts w) (hl : l.length ≤ 1000000) (hbl : b.length ≤ 1000000) :
    Calls Tryd.prog 19 #[.agg (hstate l vr), vb] w fun e w' => ∃ v', e = .returned (.agg (hstate (l ++ b) v')) ∧ Bytes w' (fun g => w.heap.size ≤ g) v' (restOf (l ++ b)) ∧ Below w.heap.size w w' := by
  refine (write (stAfter l) vr vb (restOf l) b l.length Qr Qb w hr hb hK (by rw [restOf_length]; omega) (by omega)).mono ?_
  rintro e w' ⟨v', rfl, h1, h2⟩
  rw [st_write, rest_write] at *
  refine ⟨v', ?_, h1, h2⟩
  rw [hstate, List.length_append, Int.natCast_add]
theorem sum_st (l : List B8) (vr : Value) (Q : Nat → Prop) (w : World) (hr : Bytes w Q vr (restOf l)) (hK : Consts w) (hl : l.length ≤ 1000000) :
    Calls Tryd.prog 20 #[.agg (hstate l vr)] w fun e w' => e = .returned (tagv (sha l)) ∧ Below w.heap.size w w' := by
  refine (sum (stAfter l) vr (restOf l) l.length Q w hr hK (by rw [restOf_length]; omega) hl).mono ?_
  rintro e w' ⟨rfl, h2⟩
  exact ⟨by rw [st_write, ← sha_eq], h2⟩
theorem new_st (w : World) (hT : Tables w) : Calls Tryd.prog 17 #[] w fun e w' => e = .returned (.agg (hstate [] (.slice none 0 0))) ∧ Below w.heap.size w w' := new w hT

set_option maxHeartbeats 1000000 in
theorem of_ (v : Value) (l : List B8) (Q : Nat → Prop) (w : World) (hr : Bytes w Q v l) (hT : Tables w) (hl : l.length ≤ 1000000) :
    Calls Tryd.prog 13 #[v] w fun e w' => e = .returned (tagv (sha l)) ∧ Below w.heap.size w w' := by
  go_enter Tryd.func13, Tryd.ntmps13
  go_wp2_with fail
  have hT0 : ∀ o, Tables (w.alloc o) := fun o => hT.below (Nat.le_refl _) ((Below.refl _ _).alloc (Nat.le_refl _) _)
  refine (new_st _ (hT0 _)).mono ?_
  rintro e w1 ⟨rfl, hb1⟩
  have k1 : Whole w1 w.heap.size 26 (Array.replicate 32 (.int .u8 0)) := Whole.below (Whole.here _ _ _) hb1 (by simp)
  have hT1 : Tables w1 := (hT0 _).below (Nat.le_refl _) hb1
  have hr1 : Bytes w1 Q v l := (hr.alloc _).below hb1 (Nat.le_refl _)
  have hw1 : Below w.heap.size w w1 := ((Below.refl _ _).alloc (Nat.le_refl _) _).trans (hb1.mono (by simp))
  clear hb1 hT0 hT hr
  go_wp2_with fail
  refine (write_st [] l _ _ (fun _ => True) Q _ (Bytes.nil _ _) hr1 hT1.1 (by simp) hl).mono ?_
  rintro e w2 ⟨v2, rfl, hv2, hb2⟩
  rw [List.nil_append] at hv2 ⊢
  have k2 := k1.below hb2 k1.lt
  have hT2 : Tables w2 := hT1.below (Nat.le_refl _) hb2
  have hw2 := hw1.trans (hb2.mono hw1.size)
  clear hb2 hT1 hw1 k1 hr1
  go_wp2_with fail
  refine (sum_st l _ _ _ hv2 hT2.1 hl).mono ?_
  rintro e w3 ⟨rfl, hb3⟩
  have k3 := k2.below hb3 k2.lt
  have hw3 := hw2.trans (hb3.mono hw2.size)
  have hdl : (sha l).length = 32 := digest_length _
  have HL := Lib.hid hdl
  have HZ : Hid ((Tryd.prog.info? 26).map (·.size) = some 32) := Lib.hid (by kernel_rfl)
  clear hb3 hT2 hw2 k2 hv2 hdl
  go_wp2_with (with_reducible refine wpList_store_row rfl 26 _ _ rfl w.heap.size _ rfl rfl _ _ k3.eq ?_ ?_ ?_ ?_)
  · rw [HZ.out]; simp [HL.out]
  · simp [HL.out]
  · exact all_oneCell_toArray (byt_one _)
  · exact bodyPost_ret (results_cell_row Tryd.results13 _ _ w.heap.size _ _ _ _ rfl (k3.setRow _) Tryd.underlying26 rfl (by rw [HZ.out]; simp [HL.out])) rfl ⟨rfl, below_setRow hw3 (by omega) _⟩
end Go.Proofs.YtbbpdcnmoabooaaDoor
