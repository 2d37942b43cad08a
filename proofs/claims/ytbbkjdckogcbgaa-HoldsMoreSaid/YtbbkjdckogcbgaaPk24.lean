/-
  Package holds: All.
-/
import Derived.Test.YtbbkjdckogcbgaaPk15
import Derived.Test.YtbbkjdckogcbgaaPk9
namespace Go.Proofs.Ytbbkjdckogcbgaa
open Go Go.RowKit Sh Leaf

theorem hdA_at (c : Ctx) (l : List Prd) (j : Nat) (p : Prd) (hj : l[j]? = some p) (hall : ∀ i q, i < j → l[i]? = some q → hd q c) (h : ¬ hd p c) : hdAll l c = (j, false) := by
  obtain ⟨hl, rfl⟩ := List.getElem?_eq_some_iff.1 hj
  have := hdA_ok c l 0 j hl (fun i hi hij => hall i _ hij (List.getElem?_eq_getElem hi)) h
  rw [Nat.zero_add] at this
  exact this
theorem hdA_end (c : Ctx) (l : List Prd) (hall : ∀ i q, i < l.length → l[i]? = some q → hd q c) : hdAll l c = (0, true) :=
  hdA_true c l 0 fun p hp => by
    obtain ⟨j, hj, rfl⟩ := List.getElem_of_mem hp
    exact hall j _ hj (List.getElem?_eq_getElem hj)
set_option maxHeartbeats 1000000 in
theorem hall_ (l : List Prd) (c : Ctx) (hc : c.holder.length ≤ 9223372036854775807) (A : Option Addr) (k : Nat) (Q : Nat → Prop) (w : World) (hI : Prds w Q A k l) :
    Calls Try.prog 18 #[.slice A l.length k, cv c] w fun e w' => e = .returned (.tuple #[.int .i64 ((hdAll l c).1 : Int), .bool (hdAll l c).2]) ∧ Below w.heap.size w w' := by
  have hh := fun p hp W => hholds p c (And.left hp) (And.right hp) hc W
  obtain ⟨z, cl, mi, nm⟩ := c
  unfold cv at hh ⊢
  simp only at hh hc ⊢
  have hlen : l.length ≤ 9223372036854775807 := by
    have := hI.1
    have := hI.2.1
    unfold maxLen at this
    omega
  have hb0 : Below w.heap.size w (w.alloc (.cells (crow z cl mi nm) 23)) := (Below.refl w.heap.size w).alloc (Nat.le_refl _) _
  have hC0 : CRow (w.alloc (.cells (crow z cl mi nm) 23)) w.heap.size z cl mi nm := Whole.here w _ _
  go_enter Try.func18, Try.ntmps18
  go_wp2
  go_loopw [6, 7, 10] (fun _ _ i wr => ∃ j : Nat, j ≤ l.length ∧ i = .int .i64 j ∧ (∀ i q, i < j → l[i]? = some q → hd q ⟨z, cl, mi, nm⟩) ∧ Below w.heap.size w wr ∧ CRow wr w.heap.size z cl mi nm ∧ Prds wr Q A k l) (fun _ _ i _ => l.length - (intOf i).toNat)
  case atStart => exact ⟨0, by omega, rfl, fun i q h => by omega, hb0, hC0, hI.alloc _⟩
  case round =>
    obtain ⟨j, hj, rfl, hall, hb, hC, hP⟩ := hrel
    have HA := Lib.hid hall
    clear hall
    have hwj : w.heap.size < wr.heap.size := hC.lt
    by_cases hlt : j < l.length
    · obtain ⟨p, hp⟩ : ∃ p, l[j]? = some p := ⟨_, List.getElem?_eq_getElem hlt⟩
      have hpb := hP.2.2.2.1 p (List.mem_of_getElem? hp)
      have hh1 := fun W => hh p hpb W
      rw [pv_row] at hh1
      obtain ⟨g, o, rfl, hQ, hg, c0, c1, c2, c3, c4, c5⟩ := hP.get j p hp
      obtain ⟨d0, d1, d2, d3⟩ := CRow.cells hC
      obtain ⟨pk, pm, pl, ph, pn, pu⟩ := p
      simp only at hh1 c0 c1 c2 c3 c4 c5
      have HP := Lib.hid hP
      have HC := Lib.hid hC
      have HB := Lib.hid hb
      have HI := Lib.hid hp
      obtain ⟨D, hD⟩ : ∃ D, D = decide (hd ⟨pk, pm, pl, ph, pn, pu⟩ ⟨z, cl, mi, nm⟩) := ⟨_, rfl⟩
      rw [← hD] at hh1
      have HD := Lib.hid hD
      clear hh hP hC hb hI hC0 hb0 hD hp hpb
      have hwr : ∀ w2, Below (wr.alloc (.cells (prow pk pm pl ph pn pu) 35)).heap.size (wr.alloc (.cells (prow pk pm pl ph pn pu) 35)) w2 → Below wr.heap.size wr w2 := fun _ h => one_below h
      have HW := Lib.hid hwr
      clear hwr
      cases D
      · go_wp2_with (go_at_call 15; refine (hh1 _).mono ?_; rintro e w2 ⟨rfl, hb2⟩; have HB2 := Lib.hid (HB.out.trans ((HW.out _ hb2).mono HB.out.size)); clear hb2)
        go_ret2
        have e := hdA_at ⟨z, cl, mi, nm⟩ l j _ HI.out HA.out (of_decide_eq_false HD.out.symm)
        exact ⟨by rw [e]; rfl, HB2.out⟩
      · go_wp2_with (go_at_call 15; refine (hh1 _).mono ?_; rintro e w2 ⟨rfl, hb2⟩; have HB2 := Lib.hid (HW.out _ hb2); clear hb2)
        go_roundw
        case rel =>
          refine ⟨j + 1, by omega, by go_num, fun i q hi hq => ?_, HB.out.trans (HB2.out.mono HB.out.size), HC.out.below HB2.out hwj, HP.out.below HB2.out (Nat.le_refl _)⟩
          by_cases e : i = j
          · subst e
            have h1 := HI.out
            rw [hq] at h1
            injection h1 with h1
            rw [h1]
            exact of_decide_eq_true HD.out.symm
          · exact HA.out i q (by omega) hq
        case measure => simp [intOf]; omega
    · have e := hdA_end ⟨z, cl, mi, nm⟩ l (fun i q hi hq => HA.out i q (by omega) hq)
      have HE := Lib.hid e
      clear hh e hI hP
      go_wp2
      go_ret2
      exact ⟨by rw [HE.out]; rfl, hb⟩
end Go.Proofs.Ytbbkjdckogcbgaa
