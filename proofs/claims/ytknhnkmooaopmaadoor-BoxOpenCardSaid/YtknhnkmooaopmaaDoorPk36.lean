/-
  Package hmac: Equal; the reference's Same.
-/
import Derived.BigQuiet
import Derived.Deep.QuietTactic
import Derived.Test.YtknhnkmooaopmaaDoorPk3
import Derived.Test.YtknhnkmooaopmaaDoorPk8
namespace Go.Proofs.YtknhnkmooaopmaaDoor
open Go Go.RowKit Sh Leaf

theorem take_eq_succ (a b : List B8) (k : Nat) (ha : k < a.length) (hb : k < b.length) (x : B8) (h : x = 0 ↔ a.take k = b.take k) : (x ||| (a[k] ^^^ b[k])) = 0 ↔ a.take (k + 1) = b.take (k + 1) := by
  have e1 : a.take (k + 1) = a.take k ++ [a[k]] := by rw [List.take_add_one, List.getElem?_eq_getElem ha]; rfl
  have e2 : b.take (k + 1) = b.take k ++ [b[k]] := by rw [List.take_add_one, List.getElem?_eq_getElem hb]; rfl
  rw [e1, e2]
  have h1 : (x ||| (a[k] ^^^ b[k])) = 0 ↔ x = 0 ∧ a[k] = b[k] := by
    generalize a[k] = y
    generalize b[k] = z
    constructor
    · intro h0
      have hx : x = 0 := by
        apply BitVec.eq_of_getElem_eq
        intro i hi
        have := congrArg (fun t => t[i]) h0
        simp at this ⊢
        exact this.1
      subst hx
      refine ⟨rfl, ?_⟩
      apply BitVec.eq_of_getElem_eq
      intro i hi
      have := congrArg (fun t => t[i]) h0
      simpa using this
    · rintro ⟨rfl, rfl⟩
      simp
  rw [h1, h]
  constructor
  · rintro ⟨h2, h3⟩; rw [h2, h3]
  · intro h2
    have := List.append_inj h2 (by simp; omega)
    exact ⟨this.1, by simpa using this.2⟩

set_option maxRecDepth 20000 in
set_option maxHeartbeats 1000000 in
theorem equal_ (va vb : Value) (a b : List B8) (Q Q' : Nat → Prop) (w : World) (ha : Bytes w Q va a) (hb : Bytes w Q' vb b) (hal : a.length ≤ 1000000) :
    Calls Tryd.prog 59 #[va, vb] w fun e w' => e = .returned (.bool (decide (a = b))) ∧ Below w.heap.size w w' := by
  obtain ⟨A, c, rfl, -⟩ := id ha
  obtain ⟨B, d, rfl, -⟩ := id hb
  by_cases hlen : a.length = b.length
  · go_enter Tryd.func59, Tryd.ntmps59
    go_wp2
    go_loopw [5, 14] (fun vx vi wr => ∃ k : Nat, ∃ x : B8, k ≤ a.length ∧ vi = .int .i64 k ∧ vx = .int .u8 (bv x) ∧ (x = 0 ↔ a.take k = b.take k) ∧ Below w.heap.size w wr) (fun _ vi _ => a.length - (intOf vi).toNat)
    case atStart => exact ⟨0, 0, by omega, rfl, by unfold bv; rfl, by simp, Below.refl _ _⟩
    case round =>
      obtain ⟨k, x, hk, rfl, rfl, hx, hbw⟩ := hrel
      by_cases hlt : k < a.length
      · obtain ⟨A1, c1, e1, -, -, -, h4⟩ := id ha
        cases e1
        obtain ⟨g, o, rfl, _, hcell⟩ := h4 (by omega)
        obtain ⟨B1, d1, e2, -, -, -, h5⟩ := id hb
        cases e2
        obtain ⟨g', o', rfl, _, hcell'⟩ := h5 (by omega)
        have hc := hcell k a[k] (List.getElem?_eq_getElem hlt)
        have hc' := hcell' k b[k] (List.getElem?_eq_getElem (by omega))
        have hgl : g < w.heap.size := block_lt_of_cell hc
        have hgl' : g' < w.heap.size := block_lt_of_cell hc'
        have hd : wr.cell? ⟨g, o + k, none⟩ = some (byt a[k]) := (hbw.cell (p := ⟨g, o + k, none⟩) hgl).trans hc
        have hd' : wr.cell? ⟨g', o' + k, none⟩ = some (byt b[k]) := (hbw.cell (p := ⟨g', o' + k, none⟩) hgl').trans hc'
        have hn := take_eq_succ a b k hlt (by omega) x hx
        have hx1 := bits_xor_bv a[k] b[k]
        have hx2 := bits_or_bv x (a[k] ^^^ b[k])
        have HN := Lib.hid hn
        have HX := Lib.hid hx
        clear hn hx hc hc' hcell hcell' h4 h5
        have hkb : k < b.length := by omega
        have bv0 := bv_le (x ||| (a[k] ^^^ b[k]))
        go_wp2
        go_quiet (fail)
        go_wp2
        go_roundw
        case rel => exact ⟨k + 1, x ||| (a[k] ^^^ b[k]), by omega, by go_num, by first | rfl | (congr 1; omega), HN.out, below_drewN hbw _⟩
        case measure => simp [intOf]; omega
      · have hk2 : k = a.length := by omega
        have hx' : (decide (bv x = 0)) = decide (a = b) := by
          have e1 : a.take k = a := by rw [hk2]; exact List.take_length
          have e2 : b.take k = b := by rw [hk2, hlen]; exact List.take_length
          rw [e1, e2] at hx
          have e3 : bv x = 0 ↔ x = 0 := by
            constructor
            · intro h
              unfold bv at h
              exact BitVec.eq_of_toNat_eq (by simp; omega)
            · rintro rfl
              unfold bv; rfl
          rw [decide_eq_decide, e3, hx]
        have hk3 : ¬ k < b.length := by omega
        clear hx
        go_wp2
        go_ret
        exact ⟨by rw [← hx']; rfl, hbw⟩
  · have hne : decide (a = b) = false := by
      rw [decide_eq_false_iff_not]
      intro h
      exact hlen (by rw [h])
    go_enter Tryd.func59, Tryd.ntmps59
    go_wp2
    go_ret
    exact ⟨by rw [hne]; rfl, Below.refl _ _⟩

end Go.Proofs.YtknhnkmooaopmaaDoor
