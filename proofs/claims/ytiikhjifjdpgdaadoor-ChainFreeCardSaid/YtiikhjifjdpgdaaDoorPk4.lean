/-
  KCat2
  ShaConcat
  FldApp
  FldJoin
-/
import Derived.LoopN
import Derived.Handy
import Derived.Test.YtiikhjifjdpgdaaDoorPk3
import Derived.Test.YtiikhjifjdpgdaaDoorPk0
namespace Go.Proofs.YtiikhjifjdpgdaaDoor
open Go Go.RowKit Sh Leaf

set_option maxRecDepth 20000 in
set_option maxHeartbeats 2000000 in
theorem concat (g : Nat) (v1 v2 : Value) (l1 l2 : List B8) (Q1 Q2 : Nat → Prop) (w : World) (hc1 : w.cell? ⟨g, 0, none⟩ = some v1) (hc2 : w.cell? ⟨g, 1, none⟩ = some v2)
    (h1 : Bytes w Q1 v1 l1) (h2 : Bytes w Q2 v2 l2) (h0 : 0 < l1.length) (hl : l1.length + l2.length ≤ 1000000000) :
    Calls Tryd.prog 86 #[.slice (some ⟨g, 0, none⟩) 2 2] w fun e w' => ∃ v', e = .returned v' ∧ Bytes w' (fun g => w.heap.size ≤ g) v' (l1 ++ l2) ∧ Below w.heap.size w w' := by
  have hg : g < w.heap.size := block_lt_of_cell hc1
  obtain ⟨A1, c1, rfl, -⟩ := id h1
  obtain ⟨A2, c2, rfl, -⟩ := id h2
  have hgr := grow (l1.length + l2.length) (by omega) hl w
  rw [show ((l1.length + l2.length : Nat) : Int) = (l1.length : Int) + (l2.length : Int) by omega] at hgr
  have HG := Lib.hid hgr
  clear hgr
  go_enter Tryd.func86, Tryd.ntmps86
  go_wp2
  refine wp_loop_rounds 3 ?_
  iterate 3 (rw [rounds_succ]; go_wp2_with fail)
  refine HG.out.mono ?_
  rintro e w1 ⟨v', rfl, ho, hb⟩
  have hc1' : w1.cell? ⟨g, 0, none⟩ = some (.slice A1 l1.length c1) := (hb.cell (p := ⟨g, 0, none⟩) hg).trans hc1
  have hc2' : w1.cell? ⟨g, 1, none⟩ = some (.slice A2 l2.length c2) := (hb.cell (p := ⟨g, 1, none⟩) hg).trans hc2
  have h1' := h1.below hb (Nat.le_refl _)
  have H2 := Lib.hid h2
  have hbs := hb.size
  clear HG hc1 hc2 h1 h2
  go_wp2
  refine wp_loop_rounds 3 ?_
  rw [rounds_succ]
  go_wp2_with (at_builtin; refine wpList_append_bytes rfl _ _ rfl w.heap.size v' [] rfl ho Q1 _ l1 rfl h1' (by simp; omega) hbs ?_; intro v3 w3 ho3 hb3)
  rw [List.nil_append] at ho3
  have hc2'' : w3.cell? ⟨g, 1, none⟩ = some (.slice A2 l2.length c2) := (hb3.cell (p := ⟨g, 1, none⟩) hg).trans hc2'
  have h2'' : Bytes w3 Q2 (.slice A2 l2.length c2) l2 := H2.out.below (hb.trans hb3) (Nat.le_refl _)
  have hbs3 : w.heap.size ≤ w3.heap.size := Nat.le_trans hbs hb3.size
  rw [rounds_succ]
  go_wp2_with (at_builtin; refine wpList_append_bytes rfl _ _ rfl w.heap.size v3 l1 rfl ho3 Q2 _ l2 rfl h2'' (by omega) hbs3 ?_; intro v4 w4 ho4 hb4)
  rw [rounds_succ]
  go_wp2
  go_ret
  exact ⟨v4, rfl, Bytes.of_own ho4, hb.trans (hb3.trans hb4)⟩
end Go.Proofs.YtiikhjifjdpgdaaDoor
namespace Go.Proofs.YtiikhjifjdpgdaaDoor
open Go Go.RowKit Sh Leaf

end Go.Proofs.YtiikhjifjdpgdaaDoor
namespace Go.Proofs.YtiikhjifjdpgdaaDoor
open Go Go.RowKit Sh Leaf

set_option maxHeartbeats 2000000 in
theorem concat3 (g : Nat) (v1 v2 v3 : Value) (l1 l2 l3 : List B8) (Q1 Q2 Q3 : Nat → Prop) (w : World) (hc1 : w.cell? ⟨g, 0, none⟩ = some v1) (hc2 : w.cell? ⟨g, 1, none⟩ = some v2) (hc3 : w.cell? ⟨g, 2, none⟩ = some v3)
    (h1 : Bytes w Q1 v1 l1) (h2 : Bytes w Q2 v2 l2) (h3 : Bytes w Q3 v3 l3) (h0 : 0 < l2.length) (hl : l1.length + l2.length + l3.length ≤ 1000000000) :
    Calls Tryd.prog 86 #[.slice (some ⟨g, 0, none⟩) 3 3] w fun e w' => ∃ v', e = .returned v' ∧ Own w' w.heap.size v' (l1 ++ l2 ++ l3) ∧ Below w.heap.size w w' := by
  have hg : g < w.heap.size := block_lt_of_cell hc1
  obtain ⟨A1, c1, rfl, -⟩ := id h1
  obtain ⟨A2, c2, rfl, -⟩ := id h2
  obtain ⟨A3, c3, rfl, -⟩ := id h3
  have hgr := grow (l1.length + l2.length + l3.length) (by omega) hl w
  rw [show ((l1.length + l2.length + l3.length : Nat) : Int) = (l1.length : Int) + (l2.length : Int) + (l3.length : Int) by omega] at hgr
  have HG := Lib.hid hgr
  clear hgr
  go_enter Tryd.func86, Tryd.ntmps86
  go_wp2
  refine wp_loop_rounds 4 ?_
  iterate 4 (rw [rounds_succ]; go_wp2_with fail)
  refine HG.out.mono ?_
  rintro e w1 ⟨v', rfl, ho, hb⟩
  have hc1' : w1.cell? ⟨g, 0, none⟩ = some (.slice A1 l1.length c1) := (hb.cell (p := ⟨g, 0, none⟩) hg).trans hc1
  have hc2' : w1.cell? ⟨g, 1, none⟩ = some (.slice A2 l2.length c2) := (hb.cell (p := ⟨g, 1, none⟩) hg).trans hc2
  have hc3' : w1.cell? ⟨g, 2, none⟩ = some (.slice A3 l3.length c3) := (hb.cell (p := ⟨g, 2, none⟩) hg).trans hc3
  have h1' := h1.below hb (Nat.le_refl _)
  have H2 := Lib.hid h2
  have H3 := Lib.hid h3
  have hbs := hb.size
  clear HG hc1 hc2 hc3 h1 h2 h3
  go_wp2
  refine wp_loop_rounds 4 ?_
  rw [rounds_succ]
  go_wp2_with (at_builtin; refine wpList_append_bytes rfl _ _ rfl w.heap.size v' [] rfl ho Q1 _ l1 rfl h1' (by simp; omega) hbs ?_; intro v3 w3 ho3 hb3)
  rw [List.nil_append] at ho3
  have hc2'' : w3.cell? ⟨g, 1, none⟩ = some (.slice A2 l2.length c2) := (hb3.cell (p := ⟨g, 1, none⟩) hg).trans hc2'
  have hc3'' : w3.cell? ⟨g, 2, none⟩ = some (.slice A3 l3.length c3) := (hb3.cell (p := ⟨g, 2, none⟩) hg).trans hc3'
  have h2'' : Bytes w3 Q2 (.slice A2 l2.length c2) l2 := H2.out.below (hb.trans hb3) (Nat.le_refl _)
  have hbs3 : w.heap.size ≤ w3.heap.size := Nat.le_trans hbs hb3.size
  clear hc1' hc2' hc3' h1'
  rw [rounds_succ]
  go_wp2_with (at_builtin; refine wpList_append_bytes rfl _ _ rfl w.heap.size v3 l1 rfl ho3 Q2 _ l2 rfl h2'' (by omega) hbs3 ?_; intro v4 w4 ho4 hb4)
  have hc3''' : w4.cell? ⟨g, 2, none⟩ = some (.slice A3 l3.length c3) := (hb4.cell (p := ⟨g, 2, none⟩) hg).trans hc3''
  have h3'' : Bytes w4 Q3 (.slice A3 l3.length c3) l3 := H3.out.below ((hb.trans hb3).trans hb4) (Nat.le_refl _)
  have hbs4 : w.heap.size ≤ w4.heap.size := Nat.le_trans hbs3 hb4.size
  clear hc2'' hc3'' h2''
  rw [rounds_succ]
  go_wp2_with (at_builtin; refine wpList_append_bytes rfl _ _ rfl w.heap.size v4 (l1 ++ l2) rfl ho4 Q3 _ l3 rfl h3'' (by simp; omega) hbs4 ?_; intro v5 w5 ho5 hb5)
  rw [rounds_succ]
  go_wp2
  go_ret
  exact ⟨v5, rfl, ho5, hb.trans (hb3.trans (hb4.trans hb5))⟩

theorem lenOf_ok (v : Value) (l : List B8) (Q : Nat → Prop) (w : World) (hr : Bytes w Q v l) (hl : l.length ≤ 1024) :
    Calls Tryd.prog 133 #[v] w fun e w' => ∃ v', e = .returned (.tuple #[v', .int .i64 0]) ∧ Own w' w.heap.size v' (enc l.length) ∧ Below w.heap.size w w' := by
  obtain ⟨A, c, rfl, -⟩ := id hr
  clear hr
  go_enter Tryd.func133, Tryd.ntmps133
  go_wp2_with fail
  refine (append_ok _ [] (fun _ => True) l.length _ (Bytes.nil _ _) (by simp) (by omega)).mono ?_
  rintro e w1 ⟨v1, rfl, hown, hb⟩
  rw [List.nil_append] at hown
  go_wp2
  go_ret2
  exact ⟨v1, rfl, hown, hb⟩
theorem lenOf_bad (v : Value) (l : List B8) (Q : Nat → Prop) (w : World) (hr : Bytes w Q v l) (hl : 1024 < l.length) :
    Calls Tryd.prog 133 #[v] w fun e w' => e = .returned (.tuple #[.slice none 0 0, .int .i64 2]) ∧ w = w' := by
  obtain ⟨A, c, rfl, -⟩ := id hr
  clear hr
  have hl' : (1024 : Int) < (l.length : Int) := by omega
  go_enter Tryd.func133, Tryd.ntmps133
  go_wp2
  go_ret2
  exact ⟨rfl, rfl⟩

set_option maxHeartbeats 1000000 in
theorem fappend (vb vx : Value) (b x : List B8) (Q Q' : Nat → Prop) (w : World) (hb : Bytes w Q vb b) (hx : Bytes w Q' vx x) (hbl : b.length ≤ 1000000) :
    Calls Tryd.prog 132 #[vb, vx] w fun e w' => ∃ v', e = .returned (.tuple #[v', .int .i64 ((fap b x).2 : Int)]) ∧ Bytes w' (fun _ => True) v' (fap b x).1 ∧ Below w.heap.size w w' := by
  obtain ⟨A, c, rfl, -⟩ := id hb
  obtain ⟨A', c', rfl, -⟩ := id hx
  by_cases h : x.length ≤ 1024
  · have HF := Lib.hid (show fap b x = (b ++ fld x, 0) by unfold fap; rw [if_pos h])
    have he := enc_pos x.length
    have he7 := enc_len7 (n := x.length) (by omega)
    go_enter Tryd.func132, Tryd.ntmps132
    go_wp2_with fail
    refine (lenOf_ok _ x Q' _ hx h).mono ?_
    rintro e w1 ⟨v1, rfl, hown, hb1⟩
    have hb' := hb.below hb1 (Nat.le_refl _)
    have hx' := hx.below hb1 (Nat.le_refl _)
    have he' := Bytes.of_own hown
    obtain ⟨A1, c1, rfl, -⟩ := id he'
    clear hb hx hown
    go_wp2_with fail
    have hW := Whole.here w1 23 #[.slice A b.length c, .slice A1 (enc x.length).length c1, .slice A' x.length c']
    refine (concat3 w1.heap.size _ _ _ b (enc x.length) x _ _ _ _ ((hW.cell 0).trans rfl) ((hW.cell 1).trans rfl) ((hW.cell 2).trans rfl) (hb'.alloc _) (he'.alloc _) (hx'.alloc _) he (by omega)).mono ?_
    rintro e w2 ⟨v2, rfl, ho2, hb2⟩
    go_wp2
    go_ret2
    rw [HF.out]
    have hs := hb1.size
    refine ⟨v2, rfl, ?_, (hb1.alloc hs _).trans (hb2.mono (by simp; omega))⟩
    have := (Bytes.of_own ho2).mono (Q' := fun _ => True) fun _ _ _ => trivial
    rw [show b ++ fld x = b ++ enc x.length ++ x by simp [fld]]
    exact this
  · have HF := Lib.hid (show fap b x = ([], 2) by unfold fap; rw [if_neg h])
    go_enter Tryd.func132, Tryd.ntmps132
    go_wp2_with fail
    refine (lenOf_bad _ x Q' _ hx (by omega)).mono ?_
    rintro e w1 ⟨rfl, rfl⟩
    clear hb hx
    go_wp2
    go_ret2
    rw [HF.out]
    exact ⟨_, rfl, Bytes.nil _ _, Below.refl _ _⟩
end Go.Proofs.YtiikhjifjdpgdaaDoor
namespace Go.Proofs.YtiikhjifjdpgdaaDoor
open Go Go.RowKit Sh Leaf

theorem okl_take_succ {ll : List (List B8)} {k : Nat} (h : okl (ll.take k)) (hk : k < ll.length) (hx : ll[k].length ≤ 1024) : okl (ll.take (k + 1)) := by
  rw [List.take_succ_eq_append_getElem hk]; exact okl_snoc h hx
theorem cat_take_succ {ll : List (List B8)} {k : Nat} (hk : k < ll.length) : cat (ll.take (k + 1)) = cat (ll.take k) ++ enc ll[k].length ++ ll[k] := by
  rw [List.take_succ_eq_append_getElem hk, cat_snoc, fld, List.append_assoc]
set_option maxHeartbeats 1000000 in
theorem fjoin (v : Value) (ll : List (List B8)) (w : World) (h : Lists w v ll) (hl : ll.length ≤ 1000000) :
    Calls Tryd.prog 111 #[v] w fun e w' => ∃ v', e = .returned (.tuple #[v', .int .i64 ((jn ll).2 : Int)]) ∧ Bytes w' (fun _ => True) v' (jn ll).1 ∧ Below w.heap.size w w' := by
  obtain ⟨A, c, us, rfl, -⟩ := id h
  go_enter Tryd.func111, Tryd.ntmps111
  go_wp2_with fail
  go_loopw [4, 11] (fun vb vi wr => ∃ (k : Nat), k ≤ ll.length ∧ vi = .int .i64 k ∧ Own wr w.heap.size vb (cat (ll.take k)) ∧ okl (ll.take k) ∧ Below w.heap.size w wr) (fun _ vi _ => ll.length - (intOf vi).toNat)
  case atStart => exact ⟨0, by omega, rfl, own_nil _ _, (by intro x hx; cases hx), Below.refl _ _⟩
  case round =>
    obtain ⟨k, hk, rfl, hown, hok, hb⟩ := hrel
    by_cases hlt : k < ll.length
    · obtain ⟨-, -, -, hget⟩ := h.get
      obtain ⟨g, o, A', c', rfl, hc0, hx, hg⟩ := hget k hlt
      have hc : wr.cell? ⟨g, o + k, none⟩ = some (.slice A' ll[k].length c') := (hb.cell (p := ⟨g, o + k, none⟩) hg).trans hc0
      have hxr := hx.below hb (Nat.le_refl _)
      have HX := Lib.hid hx
      have HOK := Lib.hid hok
      have HCL := Lib.hid (cat_len hok)
      have HT := Lib.hid (cat_take_succ hlt)
      have hs := hb.size
      clear hok hget h hc0 hx
      by_cases hx1 : ll[k].length ≤ 1024
      · have HK := Lib.hid (okl_take_succ HOK.out hlt hx1)
        have he7 := enc_len7 (n := ll[k].length) (by omega)
        go_wp2_with fail
        refine (lenOf_ok _ ll[k] _ _ hxr hx1).mono ?_
        rintro e w1 ⟨v1, rfl, ho1, hb1⟩
        have hown1 := own_below hown hb1 (Nat.le_refl _)
        have he1 := Bytes.of_own ho1
        have hs1 := hb1.size
        have hb01 := hb.trans (hb1.mono hs)
        clear hxr hown ho1 hc
        have hlk : (cat (ll.take k)).length ≤ 1031000000 := by have := HCL.out; simp at this; omega
        go_wp2_with (at_builtin; go_must (first
          | ((refine wpList_append_bytes rfl (.tmp 26) (.tmp 27) rfl w.heap.size _ _ rfl hown2 _ _ ll[k] rfl (HX.out.below hb2' (Nat.le_refl _)) (by simp only [List.length_append]; omega) hs2 ?_); intro v3 w3 hown3 hb3)
          | ((refine wpList_append_bytes rfl (.tmp 23) (.tmp 24) rfl w.heap.size _ (cat (ll.take k)) rfl hown1 _ v1 (enc ll[k].length) rfl he1 (by omega) (by omega) ?_); intro v2 w2 hown2 hb2; have hb2' := hb01.trans hb2; have hs2 := hb2'.size)))
        rw [← HT.out] at hown3
        go_roundw
        case rel => exact ⟨k + 1, by omega, by go_num, hown3, HK.out, hb2'.trans hb3⟩
        case measure => simp [intOf]; omega
      · have HB := Lib.hid (jn_bad k hlt (by omega))
        go_wp2_with fail
        refine (lenOf_bad _ ll[k] _ _ hxr (by omega)).mono ?_
        rintro e w1 ⟨rfl, rfl⟩
        clear hxr hown hc
        go_wp2
        go_ret2
        exact ⟨_, by rw [HB.out]; rfl, by rw [HB.out]; exact Bytes.nil _ _, hb⟩
    · have e : ll.take k = ll := List.take_of_length_le (by omega)
      have HB := Lib.hid (jn_ok (e ▸ hok))
      have hbo := (Bytes.of_own hown).mono (Q' := fun _ => True) fun _ _ _ => trivial
      rw [e] at hbo
      clear hown h e hok
      go_wp2
      go_ret2
      exact ⟨_, by rw [HB.out]; rfl, by rw [HB.out]; exact hbo, hb⟩

end Go.Proofs.YtiikhjifjdpgdaaDoor
