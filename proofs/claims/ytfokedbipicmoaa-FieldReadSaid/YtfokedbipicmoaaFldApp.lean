/-
  slices.Grow, slices.Concat of three, lengthOf and Append of package field; the reference's Field, AppendField.
-/
import Derived.Test.YtfokedbipicmoaaFldSpec
import Derived.Test.YtfokedbipicmoaaVarRef
import Derived.LoopN
import Derived.Handy
namespace Go.Proofs.Ytfokedbipicmoaa
open Go Go.RowKit Sh Leaf

set_option maxHeartbeats 1000000 in
theorem grow (n : Nat) (h0 : 0 < n) (hn : n ≤ 1000000000) (w : World) :
    Calls Try.prog 30 #[.slice none 0 0, .int .i64 (n : Int)] w fun e w' => ∃ v', e = .returned v' ∧ w'.ownsRow w.heap.size 5 1 v' 0 [] ∧ Below w.heap.size w w' := by
  obtain ⟨i0, hi, hz0, hz1, hz2⟩ := info_parts byteInfo
  have hr := fun ty => Lib.run_append_nil_zeros (P := Try.prog) w 22 3 ty 5 i0 (.int .u8 0) .i64 .i64 Try.underlying22 Try.underlying3 hi hz0 n h0 (by omega) (by omega) (by rw [hz2]; omega)
  have hge := grownCap_ge w n 0 5
  have hle := grownCap_le_maxLen w n 0 5 (by unfold maxLen; omega)
  generalize grownCap w n 0 5 = C at *
  rw [zeroCells_byt, zeroCells_byt] at hr
  have ho : (w.drew.alloc (.cells (((List.replicate n (0 : B8)).map byt).toArray ++ ((List.replicate (C - n) (0 : B8)).map byt).toArray) 5)).ownsRow w.heap.size 5 1 (.slice (some ⟨w.heap.size, 0, none⟩) 0 C) 0 [] :=
    ⟨rfl, .inr ⟨_, C, _, rfl, Nat.le_refl _, heap_alloc_new _ _, by omega, hle, by simp; omega, by simp⟩⟩
  have hb : Below w.heap.size w (w.drew.alloc (.cells (((List.replicate n (0 : B8)).map byt).toArray ++ ((List.replicate (C - n) (0 : B8)).map byt).toArray) 5)) := (Below.refl _ _).drew.alloc (by simp) _
  generalize (w.drew.alloc (.cells (((List.replicate n (0 : B8)).map byt).toArray ++ ((List.replicate (C - n) (0 : B8)).map byt).toArray) 5)) = w1 at *
  have HR := Lib.hid hr
  clear hr hi hz0 hz1 hz2
  go_enter Try.func30, Try.ntmps30
  go_wp2_with (at_builtin; refine Lib.wpList_append_run _ rfl _ _ _ _ rfl _ _ rfl rfl _ _ (HR.out 22) ?_)
  go_ret
  exact ⟨_, rfl, ho, hb⟩

set_option maxHeartbeats 2000000 in
theorem concat3 (g : Nat) (v1 v2 v3 : Value) (l1 l2 l3 : List B8) (Q1 Q2 Q3 : Nat → Prop) (w : World) (hc1 : w.cell? ⟨g, 0, none⟩ = some v1) (hc2 : w.cell? ⟨g, 1, none⟩ = some v2) (hc3 : w.cell? ⟨g, 2, none⟩ = some v3)
    (h1 : Bytes w Q1 v1 l1) (h2 : Bytes w Q2 v2 l2) (h3 : Bytes w Q3 v3 l3) (h0 : 0 < l2.length) (hl : l1.length + l2.length + l3.length ≤ 1000000000) :
    Calls Try.prog 23 #[.slice (some ⟨g, 0, none⟩) 3 3] w fun e w' => ∃ v', e = .returned v' ∧ Own w' w.heap.size v' (l1 ++ l2 ++ l3) ∧ Below w.heap.size w w' := by
  have hg : g < w.heap.size := block_lt_of_cell hc1
  obtain ⟨A1, c1, rfl, -⟩ := id h1
  obtain ⟨A2, c2, rfl, -⟩ := id h2
  obtain ⟨A3, c3, rfl, -⟩ := id h3
  have hgr := grow (l1.length + l2.length + l3.length) (by omega) hl w
  rw [show ((l1.length + l2.length + l3.length : Nat) : Int) = (l1.length : Int) + (l2.length : Int) + (l3.length : Int) by omega] at hgr
  have HG := Lib.hid hgr
  clear hgr
  go_enter Try.func23, Try.ntmps23
  go_wp2
  refine wp_loop_rounds 4 ?_
  iterate 4 (rw [rounds_succ]; go_wp2_with fail)
  refine HG.out.mono ?_
  rintro e w1 ⟨v', rfl, ho, hb⟩
  have hc1' : w1.cell? ⟨g, 0, none⟩ = some (.slice A1 l1.length c1) := (hb.cell (p := ⟨g, 0, none⟩) hg).trans hc1
  have hc2' : w1.cell? ⟨g, 1, none⟩ = some (.slice A2 l2.length c2) := (hb.cell (p := ⟨g, 1, none⟩) hg).trans hc2
  have hc3' : w1.cell? ⟨g, 2, none⟩ = some (.slice A3 l3.length c3) := (hb.cell (p := ⟨g, 2, none⟩) hg).trans hc3
  have h1' := h1.below hb (Nat.le_refl _)
  have H2 := Lib.hid h2
  have H3 := Lib.hid h3
  have hbs := hb.size
  clear HG hc1 hc2 hc3 h1 h2 h3
  go_wp2
  refine wp_loop_rounds 4 ?_
  rw [rounds_succ]
  go_wp2_with (at_builtin; refine wpList_append_bytes rfl _ _ rfl w.heap.size v' [] rfl ho Q1 _ l1 rfl h1' (by simp; omega) hbs ?_; intro v3 w3 ho3 hb3)
  rw [List.nil_append] at ho3
  have hc2'' : w3.cell? ⟨g, 1, none⟩ = some (.slice A2 l2.length c2) := (hb3.cell (p := ⟨g, 1, none⟩) hg).trans hc2'
  have hc3'' : w3.cell? ⟨g, 2, none⟩ = some (.slice A3 l3.length c3) := (hb3.cell (p := ⟨g, 2, none⟩) hg).trans hc3'
  have h2'' : Bytes w3 Q2 (.slice A2 l2.length c2) l2 := H2.out.below (hb.trans hb3) (Nat.le_refl _)
  have hbs3 : w.heap.size ≤ w3.heap.size := Nat.le_trans hbs hb3.size
  clear hc1' hc2' hc3' h1'
  rw [rounds_succ]
  go_wp2_with (at_builtin; refine wpList_append_bytes rfl _ _ rfl w.heap.size v3 l1 rfl ho3 Q2 _ l2 rfl h2'' (by omega) hbs3 ?_; intro v4 w4 ho4 hb4)
  have hc3''' : w4.cell? ⟨g, 2, none⟩ = some (.slice A3 l3.length c3) := (hb4.cell (p := ⟨g, 2, none⟩) hg).trans hc3''
  have h3'' : Bytes w4 Q3 (.slice A3 l3.length c3) l3 := H3.out.below ((hb.trans hb3).trans hb4) (Nat.le_refl _)
  have hbs4 : w.heap.size ≤ w4.heap.size := Nat.le_trans hbs3 hb4.size
  clear hc2'' hc3'' h2''
  rw [rounds_succ]
  go_wp2_with (at_builtin; refine wpList_append_bytes rfl _ _ rfl w.heap.size v4 (l1 ++ l2) rfl ho4 Q3 _ l3 rfl h3'' (by simp; omega) hbs4 ?_; intro v5 w5 ho5 hb5)
  rw [rounds_succ]
  go_wp2
  go_ret
  exact ⟨v5, rfl, ho5, hb.trans (hb3.trans (hb4.trans hb5))⟩

theorem lenOf_ok (v : Value) (l : List B8) (Q : Nat → Prop) (w : World) (hr : Bytes w Q v l) (hl : l.length ≤ 1024) :
    Calls Try.prog 22 #[v] w fun e w' => ∃ v', e = .returned (.tuple #[v', .int .i64 0]) ∧ Own w' w.heap.size v' (enc l.length) ∧ Below w.heap.size w w' := by
  obtain ⟨A, c, rfl, -⟩ := id hr
  clear hr
  go_enter Try.func22, Try.ntmps22
  go_wp2_with fail
  refine (append_ok _ [] (fun _ => True) l.length _ (Bytes.nil _ _) (by simp) (by omega)).mono ?_
  rintro e w1 ⟨v1, rfl, hown, hb⟩
  rw [List.nil_append] at hown
  go_wp2
  go_ret2
  exact ⟨v1, rfl, hown, hb⟩
theorem lenOf_bad (v : Value) (l : List B8) (Q : Nat → Prop) (w : World) (hr : Bytes w Q v l) (hl : 1024 < l.length) :
    Calls Try.prog 22 #[v] w fun e w' => e = .returned (.tuple #[.slice none 0 0, .int .i64 2]) ∧ w = w' := by
  obtain ⟨A, c, rfl, -⟩ := id hr
  clear hr
  have hl' : (1024 : Int) < (l.length : Int) := by omega
  go_enter Try.func22, Try.ntmps22
  go_wp2
  go_ret2
  exact ⟨rfl, rfl⟩

/-- The bytes and the error of Append. -/
def fap (b x : List B8) : List B8 × Nat := if x.length ≤ 1024 then (b ++ fld x, 0) else ([], 2)
theorem fap_len (b x : List B8) : (fap b x).1.length ≤ b.length + 1031 := by
  unfold fap
  split
  · have := fld_len (x := x) (by omega)
    simp; omega
  · simp
set_option maxHeartbeats 1000000 in
theorem fappend (vb vx : Value) (b x : List B8) (Q Q' : Nat → Prop) (w : World) (hb : Bytes w Q vb b) (hx : Bytes w Q' vx x) (hbl : b.length ≤ 1000000) :
    Calls Try.prog 8 #[vb, vx] w fun e w' => ∃ v', e = .returned (.tuple #[v', .int .i64 ((fap b x).2 : Int)]) ∧ Bytes w' (fun _ => True) v' (fap b x).1 ∧ Below w.heap.size w w' := by
  obtain ⟨A, c, rfl, -⟩ := id hb
  obtain ⟨A', c', rfl, -⟩ := id hx
  by_cases h : x.length ≤ 1024
  · have HF := Lib.hid (show fap b x = (b ++ fld x, 0) by unfold fap; rw [if_pos h])
    have he := enc_pos x.length
    have he7 := enc_len7 (n := x.length) (by omega)
    go_enter Try.func8, Try.ntmps8
    go_wp2_with fail
    refine (lenOf_ok _ x Q' _ hx h).mono ?_
    rintro e w1 ⟨v1, rfl, hown, hb1⟩
    have hb' := hb.below hb1 (Nat.le_refl _)
    have hx' := hx.below hb1 (Nat.le_refl _)
    have he' := Bytes.of_own hown
    obtain ⟨A1, c1, rfl, -⟩ := id he'
    clear hb hx hown
    go_wp2_with fail
    have hW := Whole.here w1 22 #[.slice A b.length c, .slice A1 (enc x.length).length c1, .slice A' x.length c']
    refine (concat3 w1.heap.size _ _ _ b (enc x.length) x _ _ _ _ ((hW.cell 0).trans rfl) ((hW.cell 1).trans rfl) ((hW.cell 2).trans rfl) (hb'.alloc _) (he'.alloc _) (hx'.alloc _) he (by omega)).mono ?_
    rintro e w2 ⟨v2, rfl, ho2, hb2⟩
    go_wp2
    go_ret2
    rw [HF.out]
    have hs := hb1.size
    refine ⟨v2, rfl, ?_, (hb1.alloc hs _).trans (hb2.mono (by simp; omega))⟩
    have := (Bytes.of_own ho2).mono (Q' := fun _ => True) fun _ _ _ => trivial
    rw [show b ++ fld x = b ++ enc x.length ++ x by simp [fld]]
    exact this
  · have HF := Lib.hid (show fap b x = ([], 2) by unfold fap; rw [if_neg h])
    go_enter Try.func8, Try.ntmps8
    go_wp2_with fail
    refine (lenOf_bad _ x Q' _ hx (by omega)).mono ?_
    rintro e w1 ⟨rfl, rfl⟩
    clear hb hx
    go_wp2
    go_ret2
    rw [HF.out]
    exact ⟨_, rfl, Bytes.nil _ _, Below.refl _ _⟩

/-! ### The reference -/
theorem rfield (v : Value) (x : List B8) (Q : Nat → Prop) (w : World) (hr : Bytes w Q v x) (hl : x.length ≤ 1000000) :
    Calls Try.prog 12 #[v] w fun e w' => ∃ v', e = .returned v' ∧ Own w' w.heap.size v' (fld x) ∧ Below w.heap.size w w' := by
  obtain ⟨A, c, rfl, -⟩ := id hr
  have he7 := enc_len7 (n := x.length) (by omega)
  go_enter Try.func12, Try.ntmps12
  go_wp2_with fail
  refine (number x.length _ (by omega)).mono ?_
  rintro e w1 ⟨v1, rfl, hown, hb1⟩
  have hx' := hr.below hb1 (Nat.le_refl _)
  have hs := hb1.size
  clear hr
  go_wp2_with (at_builtin; refine wpList_append_bytes rfl _ _ rfl w.heap.size v1 (enc x.length) rfl hown Q _ x rfl hx' (by omega) hs ?_; intro v3 w3 ho3 hb3)
  go_ret
  exact ⟨v3, rfl, ho3, hb1.trans hb3⟩
set_option maxHeartbeats 1000000 in
theorem rappend (vb vx : Value) (b x : List B8) (Q Q' : Nat → Prop) (w : World) (hb : Bytes w Q vb b) (hx : Bytes w Q' vx x) (hbl : b.length ≤ 1000000) :
    Calls Try.prog 9 #[vb, vx] w fun e w' => ∃ v', e = .returned (.tuple #[v', .int .i64 ((fap b x).2 : Int)]) ∧ Bytes w' (fun _ => True) v' (fap b x).1 ∧ Below w.heap.size w w' := by
  obtain ⟨A, c, rfl, -⟩ := id hb
  obtain ⟨A', c', rfl, -⟩ := id hx
  by_cases h : x.length ≤ 1024
  · have HF := Lib.hid (show fap b x = (b ++ fld x, 0) by unfold fap; rw [if_pos h])
    have hfl := fld_len (x := x) (by omega)
    go_enter Try.func9, Try.ntmps9
    go_wp2_with (at_builtin; go_must (refine wpList_append_bytes rfl _ _ rfl w.heap.size (.slice (some ⟨w.heap.size, 0, none⟩) 0 0) [] rfl (own_lit w w.heap.size [] (Nat.le_refl _) (by simp)) Q _ b rfl (hb.alloc _) (by simp; omega) (by simp) ?_; intro v1 w1 hown hb1))
    rw [List.nil_append] at hown
    have hb1' := ((Below.refl w.heap.size w).alloc (Nat.le_refl _) (.cells #[] 5)).trans hb1
    have hx1 := hx.below hb1' (Nat.le_refl _)
    refine (rfield _ x Q' _ hx1 (by omega)).mono ?_
    rintro e w2 ⟨v2, rfl, hown2, hb2⟩
    have hown1 := own_below hown hb2 (Nat.le_refl _)
    have hs1 := hb1'.size
    have hs2 := hb2.size
    have hf2 := Bytes.of_own hown2
    clear hown hb hx hx1 hown2
    go_wp2_with (at_builtin; go_must (refine wpList_append_bytes rfl _ _ rfl w.heap.size _ b rfl hown1 _ v2 (fld x) rfl hf2 (by omega) (by omega) ?_; intro v3 w3 hown3 hb3))
    go_ret2
    rw [HF.out]
    exact ⟨v3, rfl, (Bytes.of_own hown3).mono fun _ _ _ => trivial, (hb1'.trans (hb2.mono hs1)).trans hb3⟩
  · have HF := Lib.hid (show fap b x = ([], 2) by unfold fap; rw [if_neg h])
    have h' : (1024 : Int) < (x.length : Int) := by omega
    clear hb hx
    go_enter Try.func9, Try.ntmps9
    go_wp2
    go_ret2
    rw [HF.out]
    exact ⟨_, rfl, Bytes.nil _ _, Below.refl _ _⟩
end Go.Proofs.Ytfokedbipicmoaa
