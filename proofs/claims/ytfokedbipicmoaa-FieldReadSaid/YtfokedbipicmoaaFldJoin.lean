/-
  Join of package field, Join of the reference.
-/
import Derived.Test.YtfokedbipicmoaaFldApp
import Derived.Test.YtfokedbipicmoaaKRows
namespace Go.Proofs.Ytfokedbipicmoaa
open Go Go.RowKit Sh Leaf

theorem okl_take_succ {ll : List (List B8)} {k : Nat} (h : okl (ll.take k)) (hk : k < ll.length) (hx : ll[k].length ≤ 1024) : okl (ll.take (k + 1)) := by
  rw [List.take_succ_eq_append_getElem hk]; exact okl_snoc h hx
theorem cat_take_succ {ll : List (List B8)} {k : Nat} (hk : k < ll.length) : cat (ll.take (k + 1)) = cat (ll.take k) ++ enc ll[k].length ++ ll[k] := by
  rw [List.take_succ_eq_append_getElem hk, cat_snoc, fld, List.append_assoc]
set_option maxHeartbeats 1000000 in
theorem fjoin (v : Value) (ll : List (List B8)) (w : World) (h : Lists w v ll) (hl : ll.length ≤ 1000000) :
    Calls Try.prog 17 #[v] w fun e w' => ∃ v', e = .returned (.tuple #[v', .int .i64 ((jn ll).2 : Int)]) ∧ Bytes w' (fun _ => True) v' (jn ll).1 ∧ Below w.heap.size w w' := by
  obtain ⟨A, c, us, rfl, -⟩ := id h
  go_enter Try.func17, Try.ntmps17
  go_wp2_with fail
  go_loopw [4, 11] (fun vb vi wr => ∃ (k : Nat), k ≤ ll.length ∧ vi = .int .i64 k ∧ Own wr w.heap.size vb (cat (ll.take k)) ∧ okl (ll.take k) ∧ Below w.heap.size w wr) (fun _ vi _ => ll.length - (intOf vi).toNat)
  case atStart => exact ⟨0, by omega, rfl, own_nil _ _, (by intro x hx; cases hx), Below.refl _ _⟩
  case round =>
    obtain ⟨k, hk, rfl, hown, hok, hb⟩ := hrel
    by_cases hlt : k < ll.length
    · obtain ⟨-, -, -, hget⟩ := h.get
      obtain ⟨g, o, A', c', rfl, hc0, hx, hg⟩ := hget k hlt
      have hc : wr.cell? ⟨g, o + k, none⟩ = some (.slice A' ll[k].length c') := (hb.cell (p := ⟨g, o + k, none⟩) hg).trans hc0
      have hxr := hx.below hb (Nat.le_refl _)
      have HX := Lib.hid hx
      have HOK := Lib.hid hok
      have HCL := Lib.hid (cat_len hok)
      have HT := Lib.hid (cat_take_succ hlt)
      have hs := hb.size
      clear hok hget h hc0 hx
      by_cases hx1 : ll[k].length ≤ 1024
      · have HK := Lib.hid (okl_take_succ HOK.out hlt hx1)
        have he7 := enc_len7 (n := ll[k].length) (by omega)
        go_wp2_with fail
        refine (lenOf_ok _ ll[k] _ _ hxr hx1).mono ?_
        rintro e w1 ⟨v1, rfl, ho1, hb1⟩
        have hown1 := own_below hown hb1 (Nat.le_refl _)
        have he1 := Bytes.of_own ho1
        have hs1 := hb1.size
        have hb01 := hb.trans (hb1.mono hs)
        clear hxr hown ho1 hc
        have hlk : (cat (ll.take k)).length ≤ 1031000000 := by have := HCL.out; simp at this; omega
        go_wp2_with (at_builtin; go_must (first
          | ((refine wpList_append_bytes rfl (.tmp 26) (.tmp 27) rfl w.heap.size _ _ rfl hown2 _ _ ll[k] rfl (HX.out.below hb2' (Nat.le_refl _)) (by simp only [List.length_append]; omega) hs2 ?_); intro v3 w3 hown3 hb3)
          | ((refine wpList_append_bytes rfl (.tmp 23) (.tmp 24) rfl w.heap.size _ (cat (ll.take k)) rfl hown1 _ v1 (enc ll[k].length) rfl he1 (by omega) (by omega) ?_); intro v2 w2 hown2 hb2; have hb2' := hb01.trans hb2; have hs2 := hb2'.size)))
        rw [← HT.out] at hown3
        go_roundw
        case rel => exact ⟨k + 1, by omega, by go_num, hown3, HK.out, hb2'.trans hb3⟩
        case measure => simp [intOf]; omega
      · have HB := Lib.hid (jn_bad k hlt (by omega))
        go_wp2_with fail
        refine (lenOf_bad _ ll[k] _ _ hxr (by omega)).mono ?_
        rintro e w1 ⟨rfl, rfl⟩
        clear hxr hown hc
        go_wp2
        go_ret2
        exact ⟨_, by rw [HB.out]; rfl, by rw [HB.out]; exact Bytes.nil _ _, hb⟩
    · have e : ll.take k = ll := List.take_of_length_le (by omega)
      have HB := Lib.hid (jn_ok (e ▸ hok))
      have hbo := (Bytes.of_own hown).mono (Q' := fun _ => True) fun _ _ _ => trivial
      rw [e] at hbo
      clear hown h e hok
      go_wp2
      go_ret2
      exact ⟨_, by rw [HB.out]; rfl, by rw [HB.out]; exact hbo, hb⟩

set_option maxHeartbeats 1000000 in
theorem rjoin_own (v : Value) (ll : List (List B8)) (w : World) (h : Lists w v ll) (hl : ll.length ≤ 1000000) :
    Calls Try.prog 18 #[v] w fun e w' => ∃ v', e = .returned (.tuple #[v', .int .i64 ((jn ll).2 : Int)]) ∧ Own w' w.heap.size v' (jn ll).1 ∧ Below w.heap.size w w' := by
  obtain ⟨A, c, us, rfl, -⟩ := id h
  go_enter Try.func18, Try.ntmps18
  go_wp2_with fail
  go_loopw [4, 5] (fun vb vi wr => ∃ (k : Nat), k ≤ ll.length ∧ vi = .int .i64 k ∧ Own wr w.heap.size vb (cat (ll.take k)) ∧ okl (ll.take k) ∧ Below w.heap.size w wr) (fun _ vi _ => ll.length - (intOf vi).toNat)
  case atStart => exact ⟨0, by omega, rfl, own_nil _ _, (by intro x hx; cases hx), Below.refl _ _⟩
  case round =>
    obtain ⟨k, hk, rfl, hown, hok, hb⟩ := hrel
    by_cases hlt : k < ll.length
    · obtain ⟨-, -, -, hget⟩ := h.get
      obtain ⟨g, o, A', c', rfl, hc0, hx, hg⟩ := hget k hlt
      have hc : wr.cell? ⟨g, o + k, none⟩ = some (.slice A' ll[k].length c') := (hb.cell (p := ⟨g, o + k, none⟩) hg).trans hc0
      have hxr := hx.below hb (Nat.le_refl _)
      have HOK := Lib.hid hok
      have HCL := Lib.hid (cat_len hok)
      have HT := Lib.hid (cat_take_succ hlt)
      have hs := hb.size
      clear hok hget h hc0 hx
      by_cases hx1 : ll[k].length ≤ 1024
      · have HK := Lib.hid (okl_take_succ HOK.out hlt hx1)
        have hfl := fld_len (x := ll[k]) (by omega)
        have hx1' : ¬ (1024 : Int) < (ll[k].length : Int) := by omega
        go_wp2_with fail
        refine (rfield _ ll[k] _ _ hxr (by omega)).mono ?_
        rintro e w1 ⟨v1, rfl, ho1, hb1⟩
        have hown1 := own_below hown hb1 (Nat.le_refl _)
        have he1 := Bytes.of_own ho1
        have hs1 := hb1.size
        have hb01 := hb.trans (hb1.mono hs)
        clear hxr hown ho1 hc
        have hlk : (cat (ll.take k)).length ≤ 1031000000 := by have := HCL.out; simp at this; omega
        go_wp2_with (at_builtin; go_must (((refine wpList_append_bytes rfl _ _ rfl w.heap.size _ (cat (ll.take k)) rfl hown1 _ v1 (fld ll[k]) rfl he1 (by omega) (by omega) ?_); intro v2 w2 hown2 hb2)))
        rw [fld, ← List.append_assoc, ← HT.out] at hown2
        go_roundw
        case rel => exact ⟨k + 1, by omega, by go_num, hown2, HK.out, hb01.trans hb2⟩
        case measure => simp [intOf]; omega
      · have HB := Lib.hid (jn_bad k hlt (by omega))
        have hx1' : (1024 : Int) < (ll[k].length : Int) := by omega
        clear hxr hown
        go_wp2
        go_ret2
        exact ⟨_, by rw [HB.out]; rfl, by rw [HB.out]; exact own_nil _ _, hb⟩
    · have e : ll.take k = ll := List.take_of_length_le (by omega)
      have HB := Lib.hid (jn_ok (e ▸ hok))
      have hbo := hown
      rw [e] at hbo
      clear hown h e hok
      go_wp2
      go_ret2
      exact ⟨_, by rw [HB.out]; rfl, by rw [HB.out]; exact hbo, hb⟩
theorem rjoin (v : Value) (ll : List (List B8)) (w : World) (h : Lists w v ll) (hl : ll.length ≤ 1000000) :
    Calls Try.prog 18 #[v] w fun e w' => ∃ v', e = .returned (.tuple #[v', .int .i64 ((jn ll).2 : Int)]) ∧ Bytes w' (fun _ => True) v' (jn ll).1 ∧ Below w.heap.size w w' :=
  (rjoin_own v ll w h hl).mono fun _ _ ⟨v', h1, h2, h3⟩ => ⟨v', h1, (Bytes.of_own h2).mono fun _ _ _ => trivial, h3⟩
end Go.Proofs.Ytfokedbipicmoaa
