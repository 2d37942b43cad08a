/-
  AlgCat
-/
import Derived.LoopN
import Derived.Handy
import Derived.Test.YtiikhjifjdpgdaaDoorPk14
import Derived.Test.YtiikhjifjdpgdaaDoorPk3
namespace Go.Proofs.YtiikhjifjdpgdaaDoor
open Go Go.RowKit Sh Leaf

abbrev zmac : Value := .agg #[.int .u8 0, .int .u8 0, .int .u8 0, .int .u8 0, .int .u8 0, .int .u8 0, .int .u8 0, .int .u8 0, .int .u8 0, .int .u8 0, .int .u8 0, .int .u8 0, .int .u8 0, .int .u8 0, .int .u8 0, .int .u8 0, .int .u8 0, .int .u8 0, .int .u8 0, .int .u8 0, .int .u8 0, .int .u8 0, .int .u8 0, .int .u8 0, .int .u8 0, .int .u8 0, .int .u8 0, .int .u8 0, .int .u8 0, .int .u8 0, .int .u8 0, .int .u8 0, .slice none 0 0, .int .u8 0, .int .u8 0, .int .u8 0, .int .u8 0, .int .u8 0, .int .u8 0, .int .u8 0, .int .u8 0, .int .u8 0, .int .u8 0, .int .u8 0, .int .u8 0, .int .u8 0, .int .u8 0, .int .u8 0, .int .u8 0, .int .u8 0, .int .u8 0, .int .u8 0, .int .u8 0, .int .u8 0, .int .u8 0, .int .u8 0, .int .u8 0, .int .u8 0, .int .u8 0, .int .u8 0, .int .u8 0, .int .u8 0, .int .u8 0, .int .u8 0, .int .u8 0]
theorem macInfo : (Tryd.prog.info? 90).map (fun i => (i.zero, i.size, i.bytes)) = some (some zmac, 65, 88) := by kernel_rfl
theorem zmac_size : zmac.cells.size = 65 := rfl
abbrev OwnMc (w : World) (base : Nat) (v : Value) (L : List MeM) : Prop := OwnS mcl 65 90 w base v L
set_option maxRecDepth 20000 in
set_option maxHeartbeats 1000000 in
theorem growm (n : Nat) (h0 : 0 < n) (hn : n ≤ 1000000) (w : World) :
    Calls Tryd.prog 75 #[.slice none 0 0, .int .i64 (n : Int)] w fun e w' => ∃ v', e = .returned v' ∧ OwnMc w' w.heap.size v' [] ∧ Below w.heap.size w w' := by
  obtain ⟨i0, hi, hz0, hz1, hz2⟩ := info_parts macInfo
  have hr := fun ty => Lib.run_append_nil_zeros (P := Tryd.prog) w 29 3 ty 90 i0 zmac .i64 .i64 Tryd.underlying29 Tryd.underlying3 hi hz0 n h0 (by omega) (by omega) (by rw [hz2]; omega)
  have hge := grownCap_ge w n 0 90
  have hle := grownCap_le_maxLen w n 0 90 (by unfold maxLen; omega)
  generalize grownCap w n 0 90 = C at *
  have hzc : ∀ k, (Builtin.zeroCells zmac.cells k).size = k * 65 := fun k => by rw [size_zeroCells]; rfl
  have ho : OwnMc (w.drew.alloc (.cells (Builtin.zeroCells zmac.cells n ++ Builtin.zeroCells zmac.cells (C - n)) 90)) w.heap.size (.slice (some ⟨w.heap.size, 0, none⟩) 0 C) [] :=
    ⟨rfl, .inr ⟨_, C, _, rfl, Nat.le_refl _, heap_alloc_new _ _, by simp, hle, by rw [Array.size_append, hzc, hzc, ← Nat.add_mul]; congr 1; omega, by simp [fl]⟩⟩
  have hb : Below w.heap.size w (w.drew.alloc (.cells (Builtin.zeroCells zmac.cells n ++ Builtin.zeroCells zmac.cells (C - n)) 90)) := (Below.refl _ _).drew.alloc (by simp) _
  generalize (w.drew.alloc (.cells (Builtin.zeroCells zmac.cells n ++ Builtin.zeroCells zmac.cells (C - n)) 90)) = w1 at *
  have HR := Lib.hid hr
  clear hr hi hz0 hz1 hz2 hzc
  go_enter Tryd.func75, Tryd.ntmps75
  go_wp2_with (at_builtin; refine Lib.wpList_append_run _ rfl _ _ _ _ rfl _ _ rfl rfl _ _ (HR.out 29) ?_)
  go_ret
  exact ⟨_, rfl, ho, hb⟩
set_option maxRecDepth 20000 in
set_option maxHeartbeats 2000000 in
theorem concatm (g : Nat) (A1 A2 : Option Addr) (c1 c2 : Nat) (L1 L2 : List MeM) (Q1 Q2 : Nat → Prop) (w : World) (hc1 : w.cell? ⟨g, 0, none⟩ = some (.slice A1 L1.length c1)) (hc2 : w.cell? ⟨g, 1, none⟩ = some (.slice A2 L2.length c2))
    (h1 : Seq mcl mok w Q1 A1 c1 L1) (h2 : Seq mcl mok w Q2 A2 c2 L2) (h0 : 0 < L2.length) (hl : L1.length + L2.length ≤ 100000) :
    Calls Tryd.prog 41 #[.slice (some ⟨g, 0, none⟩) 2 2] w fun e w' => ∃ v', e = .returned v' ∧ OwnMc w' w.heap.size v' (L1 ++ L2) ∧ Below w.heap.size w w' := by
  have hg : g < w.heap.size := block_lt_of_cell hc1
  have hgr := growm (L1.length + L2.length) (by omega) (by omega) w
  rw [show ((L1.length + L2.length : Nat) : Int) = (L1.length : Int) + (L2.length : Int) by omega] at hgr
  have HG := Lib.hid hgr
  obtain ⟨n1, hn1⟩ : ∃ n, n = L1.length := ⟨_, rfl⟩
  obtain ⟨n2, hn2⟩ : ∃ n, n = L2.length := ⟨_, rfl⟩
  rw [← hn1] at hc1 hl HG
  rw [← hn2] at hc2 hl h0 HG
  have HN1 := Lib.hid hn1
  have HN2 := Lib.hid hn2
  have H1 := Lib.hid h1
  have H2 := Lib.hid h2
  clear hgr hn1 hn2 h1 h2
  go_enter Tryd.func41, Tryd.ntmps41
  go_wp2
  refine wp_loop_rounds 3 ?_
  iterate 3 (rw [rounds_succ]; go_wp2_with fail)
  refine HG.out.mono ?_
  rintro e w1 ⟨v', rfl, ho, hb⟩
  have hc1' : w1.cell? ⟨g, 0, none⟩ = some (.slice A1 n1 c1) := (hb.cell (p := ⟨g, 0, none⟩) hg).trans hc1
  have hc2' : w1.cell? ⟨g, 1, none⟩ = some (.slice A2 n2 c2) := (hb.cell (p := ⟨g, 1, none⟩) hg).trans hc2
  have HO := Lib.hid ho
  have H1' := Lib.hid (H1.out.below hb (Nat.le_refl _))
  have hbs := hb.size
  clear HG hc1 hc2 ho
  go_wp2
  refine wp_loop_rounds 3 ?_
  rw [rounds_succ]
  go_wp2_with (at_builtin; refine wpList_append_seq rfl _ _ 29 90 zmac 88 rfl Tryd.underlying29 macInfo zmac_size (by omega) (by omega) mcl_len mcl_one w.heap.size v' [] rfl HO.out Q1 A1 n1 c1 L1 HN1.out.symm rfl H1'.out (by have := HN1.out; simp only [List.length_nil]; omega) hbs ?_; intro v3 w3 ho3 hb3 hg3)
  rw [List.nil_append] at ho3
  have hc2'' : w3.cell? ⟨g, 1, none⟩ = some (.slice A2 n2 c2) := (hb3.cell (p := ⟨g, 1, none⟩) hg).trans hc2'
  have H2'' := Lib.hid (H2.out.below (hb.trans hb3) (Nat.le_refl _))
  have HO3 := Lib.hid ho3
  have hbs3 : w.heap.size ≤ w3.heap.size := Nat.le_trans hbs hb3.size
  clear ho3 hg3 hc1' hc2'
  rw [rounds_succ]
  go_wp2_with (at_builtin; refine wpList_append_seq rfl _ _ 29 90 zmac 88 rfl Tryd.underlying29 macInfo zmac_size (by omega) (by omega) mcl_len mcl_one w.heap.size v3 L1 rfl HO3.out Q2 A2 n2 c2 L2 HN2.out.symm rfl H2''.out (by have := HN1.out; have := HN2.out; omega) hbs3 ?_; intro v4 w4 ho4 hb4 hg4)
  have HO4 := Lib.hid ho4
  clear ho4 hg4
  rw [rounds_succ]
  go_wp2
  go_ret
  exact ⟨v4, rfl, HO4.out, hb.trans (hb3.trans hb4)⟩
end Go.Proofs.YtiikhjifjdpgdaaDoor
