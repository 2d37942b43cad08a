/-
  valuesOf of package base64 by its contract.
-/
import Derived.Test.YtefjdpanjioflaaB64Val
import Derived.Test.YtefjdpanjioflaaKOwn
namespace Go.Proofs.Ytefjdpanjioflaa
open Go Go.RowKit Sh Leaf

theorem all_take_succ {l : List B8} {k : Nat} (h : k < l.length) : (l.take (k + 1)).all okc = ((l.take k).all okc && okc (l.getD k 0)) := by
  rw [List.take_add_one, List.getElem?_eq_getElem h, List.all_append]
  simp [List.getD_eq_getElem?_getD, h]
theorem vl_take_succ {l : List B8} {k : Nat} (h : k < l.length) : vl (l.take (k + 1)) = vl (l.take k) ++ [(vof (l.getD k 0)).getD 0] := by
  rw [List.take_add_one, List.getElem?_eq_getElem h]
  unfold vl
  rw [List.map_append]
  simp [List.getD_eq_getElem?_getD, h]
theorem all_false {l : List B8} {k : Nat} (h : k < l.length) (hk : okc (l.getD k 0) = false) : l.all okc = false := by
  have : ¬ l.all okc = true := fun hc => by
    have := List.all_eq_true.1 hc l[k] (List.getElem_mem h)
    rw [List.getD_eq_getElem?_getD, List.getElem?_eq_getElem h] at hk
    simp at hk
    rw [hk] at this
    cases this
  simpa using this

/-- The values of the characters, none where one is none. -/
@[irreducible] def vls (l : List B8) : List B8 := if l.all okc = true then vl l else []
theorem vls_ok {l : List B8} (h : l.all okc = true) : vls l = vl l := by unfold vls; rw [if_pos h]
theorem vls_bad {l : List B8} (h : l.all okc = false) : vls l = [] := by unfold vls; rw [if_neg (by rw [h]; simp)]

set_option maxHeartbeats 1000000 in
theorem values_of (l : List B8) (hl : l.length ≤ 1000000) (w : World) :
    Calls Try.prog 15 #[.string (sof l)] w fun e w' => ∃ v', e = .returned (.tuple #[v', .bool (l.all okc)]) ∧ Own w' w.heap.size v' (vls l) ∧ Below w.heap.size w w' := by
  have hsz := sof_size l
  go_enter Try.func15, Try.ntmps15
  go_wp2_with fail
  go_loopw [4, 10] (fun vv vi wr => ∃ k : Nat, k ≤ l.length ∧ vi = .int .i64 k ∧ (l.take k).all okc = true ∧ Own wr w.heap.size vv (vl (l.take k)) ∧ Below w.heap.size w wr) (fun _ vi _ => l.length - (intOf vi).toNat)
  case atStart => exact ⟨0, by omega, rfl, by simp, own_nil _ _, Below.refl _ _⟩
  case round =>
    obtain ⟨k, hk, rfl, hall, hown, hb⟩ := hrel
    have HSZ := Lib.hid hsz
    by_cases hlt : k < l.length
    · have hix := fun W => run_index_sof (P := Try.prog) W 9 l .i64 (k : Int) k Try.underlying9 rfl hlt
      have hlt' : (k : Int) < (l.length : Int) := by omega
      have hxl : (vl (l.take k)).length ≤ 1000000 := by rw [vl_length, List.length_take]; omega
      have HT := Lib.hid (all_take_succ hlt)
      have HV := Lib.hid (vl_take_succ hlt)
      have HF := Lib.hid (fun h => all_false hlt h)
      have HA := Lib.hid hall
      clear hall hlt
      generalize l.getD k 0 = x at *
      go_wp2_with fail
      refine (value_of x _).mono ?_
      rintro e w1 ⟨rfl, rfl⟩
      cases hok : okc x with
      | true =>
        rw [hok, HA.out] at HT
        have hs := hb.size
        clear hix
        generalize (vof x).getD 0 = y at *
        go_wp2_with (at_builtin; go_must (refine wpList_append_bytes rfl _ _ rfl w.heap.size _ (vl (l.take k)) rfl (hown.alloc _) _ (.slice (some ⟨wr.heap.size, 0, none⟩) 1 1) [y] rfl (bytes_one wr _ _ rfl) (by simp only [List.length_singleton]; omega) (by simp; omega) ?_; intro v' w' h1 h2))
        go_roundw
        case rel => exact ⟨k + 1, by omega, by go_num, by rw [HT.out]; rfl, by rw [HV.out]; exact h1, (hb.alloc (by omega) _).trans h2⟩
        case measure => simp [intOf]; omega
      | false =>
        have HN := Lib.hid (HF.out hok)
        clear hix
        generalize (vof x).getD 0 = y at *
        go_wp2
        go_ret2
        rw [HN.out, vls_bad HN.out]
        exact ⟨_, rfl, own_nil _ _, hb⟩
    · have hk2 : k = l.length := by omega
      subst hk2
      rw [List.take_length] at hall hown
      have HA := Lib.hid hall
      clear hall hlt
      go_wp2
      go_ret2
      rw [HA.out, vls_ok HA.out]
      exact ⟨_, rfl, hown, hb⟩
end Go.Proofs.Ytefjdpanjioflaa
