/-
  The reference's Same.
-/
import Derived.Test.YtefjdpanjioflaaKApp
import Derived.BigQuiet
import Derived.Deep.QuietTactic
namespace Go.Proofs.Ytefjdpanjioflaa
open Go Go.RowKit Sh Leaf

set_option maxHeartbeats 1000000 in
theorem same_ (va vb : Value) (a b : List B8) (Q Q' : Nat → Prop) (w : World) (ha : Bytes w Q va a) (hb : Bytes w Q' vb b) (hal : a.length ≤ 1000000) (hbl : b.length ≤ 1000000) :
    Calls Try.prog 13 #[va, vb] w fun e w' => e = .returned (.bool (decide (a = b))) ∧ Below w.heap.size w w' := by
  obtain ⟨A, c, rfl, -⟩ := id ha
  obtain ⟨B, d, rfl, -⟩ := id hb
  by_cases hlen : a.length = b.length
  · go_enter Try.func13, Try.ntmps13
    go_wp2
    go_loopw [5] (fun vi wr => ∃ k : Nat, k ≤ a.length ∧ vi = .int .i64 k ∧ a.take k = b.take k ∧ Below w.heap.size w wr) (fun vi _ => a.length - (intOf vi).toNat)
    case atStart => exact ⟨0, by omega, rfl, by simp, Below.refl _ _⟩
    case round =>
      obtain ⟨k, hk, rfl, hx, hbw⟩ := hrel
      by_cases hlt : k < a.length
      · obtain ⟨A1, c1, e1, -, -, -, h4⟩ := id ha
        cases e1
        obtain ⟨g, o, rfl, _, hcell⟩ := h4 (by omega)
        obtain ⟨B1, d1, e2, -, -, -, h5⟩ := id hb
        cases e2
        obtain ⟨g', o', rfl, _, hcell'⟩ := h5 (by omega)
        have hc := hcell k a[k] (List.getElem?_eq_getElem hlt)
        have hc' := hcell' k b[k] (List.getElem?_eq_getElem (by omega))
        have hgl : g < w.heap.size := block_lt_of_cell hc
        have hgl' : g' < w.heap.size := block_lt_of_cell hc'
        have hd : wr.cell? ⟨g, o + k, none⟩ = some (byt a[k]) := (hbw.cell (p := ⟨g, o + k, none⟩) hgl).trans hc
        have hd' : wr.cell? ⟨g', o' + k, none⟩ = some (byt b[k]) := (hbw.cell (p := ⟨g', o' + k, none⟩) hgl').trans hc'
        have hkb : k < b.length := by omega
        have HX := Lib.hid hx
        clear hx hc hc' hcell hcell' h4 h5
        by_cases he : a[k] = b[k]
        · have he' : bv a[k] = bv b[k] := by rw [he]
          have hn : a.take (k + 1) = b.take (k + 1) := by
            rw [List.take_add_one, List.take_add_one, List.getElem?_eq_getElem hlt, List.getElem?_eq_getElem hkb, HX.out, he]
          have HN := Lib.hid hn
          clear hn he
          go_wp2
          go_quiet (fail)
          go_wp2
          go_roundw
          case rel => exact ⟨k + 1, by omega, by go_num, HN.out, below_drewN hbw _⟩
          case measure => simp [intOf]; omega
        · have he' : ¬ bv a[k] = bv b[k] := fun h => he (bv_inj h)
          have hne : decide (a = b) = false := by
            rw [decide_eq_false_iff_not]
            rintro rfl
            exact he rfl
          have HN := Lib.hid hne
          clear hne he
          go_wp2
          go_quiet (fail)
          go_wp2
          go_ret
          exact ⟨by rw [HN.out]; rfl, below_drewN hbw _⟩
      · have hk2 : k = a.length := by omega
        have hk3 : ¬ k < b.length := by omega
        have hx' : decide (a = b) = true := by
          have e1 : a.take k = a := by rw [hk2]; exact List.take_length
          have e2 : b.take k = b := by rw [hk2, hlen]; exact List.take_length
          rw [e1, e2] at hx
          simpa using hx
        have HN := Lib.hid hx'
        clear hx hx'
        go_wp2
        go_ret
        exact ⟨by rw [HN.out]; rfl, hbw⟩
  · have hne : decide (a = b) = false := by
      rw [decide_eq_false_iff_not]
      intro h
      exact hlen (by rw [h])
    go_enter Try.func13, Try.ntmps13
    go_wp2
    go_ret
    exact ⟨by rw [hne]; rfl, Below.refl _ _⟩
end Go.Proofs.Ytefjdpanjioflaa
