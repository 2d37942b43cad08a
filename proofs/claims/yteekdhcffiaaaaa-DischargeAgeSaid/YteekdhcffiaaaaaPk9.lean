/-
  KPsn
  DAge
-/
import Derived.Deep.RegionHeld3
import Derived.Great.Walk
import Derived.Test.YteekdhcffiaaaaaPk0
import Derived.Test.YteekdhcffiaaaaaPk1
import Derived.Test.YteekdhcffiaaaaaPk5
import Derived.Test.YteekdhcffiaaaaaPk8
namespace Go.Proofs.Yteekdhcffiaaaaa
open Go Go.RowKit Sh Leaf

def pnl (x : Psn) : List Value := [.string (sof x.name), .int .i64 x.born]
theorem pnl_len (x : Psn) : (pnl x).length = 2 := rfl
theorem pnl_one (x : Psn) : ∀ v ∈ pnl x, v.oneCell' = true := by
  intro v hv
  simp only [pnl, List.mem_cons] at hv
  rcases hv with rfl | rfl | hv
  · rfl
  · rfl
  · cases hv
def pnok (x : Psn) : Prop := nmok x.name ∧ -67108864 ≤ x.born ∧ x.born ≤ 0
abbrev Psns (w : World) (Q : Nat → Prop) (A : Option Addr) (c : Nat) (l : List Psn) : Prop := Seq pnl pnok w Q A c l
def zpsn : Value := .agg #[.string ⟨#[]⟩, .int .i64 0]
theorem zpsn_size : zpsn.cells.size = 2 := rfl
theorem psnInfo : (Try.prog.info? 23).map (fun i => (i.zero, i.size, i.bytes)) = some (some zpsn, 2, 24) := by kernel_rfl
theorem built_psn (s : ByteArray) (z : Int) : Try.prog.built 23 [(0, .string s), (1, .int .i64 z)] = some #[.string s, .int .i64 z] := by kernel_rfl
theorem bs_psn (x : Psn) : Try.prog.builtSlice 23 1 [(0, .agg (pnl x).toArray)] = some (pnl x).toArray := by
  obtain ⟨s, z⟩ := x
  unfold pnl
  dsimp only
  generalize sof s = s
  kernel_rfl
theorem yieldsIf_build_psn {ops : Array Oper} {S : World → Prop} {op : Oper} {a : Act} (hw : Region.wanted op (yielded ops a.tmps) = true) (x y : Operand) (ho : op.op = .build 23 #[(0, x), (1, y)])
    {s : List B8} {z : Int} (hx : a.eval x = .string (sof s)) (hy : a.eval y = .int .i64 z) : YieldsIf Try.prog ops S op (.agg (pnl ⟨s, z⟩).toArray) a := by
  refine yieldsIf_build_as hw 23 _ ho _ ?_
  have e1 : (#[(0, x), (1, y)].map fun (i, x) => (i, a.eval x)).toList = [(0, .string (sof s)), (1, .int .i64 z)] := by simp [hx, hy]
  rw [e1, built_psn]
  rfl
theorem step_buildSlice_psn {w : World} {ops : Array Oper} {o : Oper} {a : Act} {K : Act → World → Prop} {R : Exit → Act → World → Prop} {E : Prop} (hw : Region.wanted o (yielded ops a.tmps) = true) (x : Operand) (ho : o.op = .buildSlice 29 1 #[(0, x)])
    {X : Psn} (hx : a.eval x = .agg (pnl X).toArray) (h : K (a.put o.dst (.slice (some ⟨w.heap.size, 0, none⟩) 1 1)) (w.alloc (.cells (pnl X).toArray 23))) :
    if Region.wanted o (yielded ops a.tmps) = true then Oper.wp Try.prog o a w K R else E := by
  rw [if_pos hw]
  have hf := bs_psn X
  unfold Program.builtSlice at hf
  cases hie : Try.prog.info? 23 with
  | none => simp [hie] at hf
  | some ie =>
    simp only [hie] at hf
    cases hz : ie.zero with
    | none => simp [hz] at hf
    | some z =>
      simp only [hz] at hf
      by_cases hc : 1 * ie.size > 2 ^ 24 ∨ 1 * ie.size = 0
      · rw [if_pos hc] at hf; cases hf
      · rw [if_neg hc] at hf
        have e1 : (#[(0, x)].map fun (i, x) => (i, a.eval x)).toList = [(0, .agg (pnl X).toArray)] := by simp [hx]
        refine wp_buildSlice 29 23 1 _ ho (pnl X).toArray ie z Try.underlying29 hie hz (fun h' => hc (Or.inl h')) (fun h' => hc (Or.inr h')) ?_ h
        rw [e1]
        exact hf

theorem run_eql_psn (s s' : List B8) (z z' : Int) (w : World) :
    (binOp .eql 23 (.agg #[.string (sof s), .int .i64 z]) (.agg #[.string (sof s'), .int .i64 z'])).run Try.prog w = .ok (.bool (decide (s = s' ∧ z = z'))) w := by
  rw [run_eql_struct]
  have hi : (sof s).toList = (sof s').toList ↔ s = s' := by
    have h := sof_beq s s'
    rw [Bool.eq_iff_iff] at h
    simpa using h
  by_cases h1 : s = s'
  · by_cases h2 : z = z'
    · simp [go_sem, h1, h2]
    · simp [go_sem, h1, h2]
  · simp [go_sem, h1, hi]
end Go.Proofs.Yteekdhcffiaaaaa
namespace Go.Proofs.Yteekdhcffiaaaaa
open Go Go.RowKit Sh Leaf

@[irreducible] def inm (n : Int) : Bool := decide (0 ≤ n ∧ n ≤ 67108864)
theorem inm_true {n : Int} (h : 0 ≤ n ∧ n ≤ 67108864) : inm n = true := by unfold inm; exact decide_eq_true h
theorem inm_false {n : Int} (h : ¬ (0 ≤ n ∧ n ≤ 67108864)) : inm n = false := by unfold inm; exact decide_eq_false h
theorem ismin (n : Int) (w : World) : Calls Try.prog 17 #[.int .i64 n] w fun e w' => e = .returned (.bool (inm n)) ∧ w = w' := by
  by_cases h0 : 0 ≤ n
  · by_cases h1 : n ≤ 67108864
    · have HD := Lib.hid (inm_true ⟨h0, h1⟩)
      go_enter Try.func17, Try.ntmps17
      go_wp2
      go_ret
      exact ⟨by rw [HD.out]; rfl, rfl⟩
    · have HD := Lib.hid (inm_false (fun h => h1 h.2))
      go_enter Try.func17, Try.ntmps17
      go_wp2
      go_ret
      exact ⟨by rw [HD.out]; rfl, rfl⟩
  · have HD := Lib.hid (inm_false (n := n) (fun h => h0 h.1))
    go_enter Try.func17, Try.ntmps17
    go_wp2
    go_ret
    exact ⟨by rw [HD.out]; simp, rfl⟩
set_option maxRecDepth 100000 in
theorem page (s : List B8) (z m : Int) (w : World) : Calls Try.prog 12 #[.agg #[.string (sof s), .int .i64 z], .int .i64 m] w fun e w' => e = .returned (.int .i64 (age z m)) ∧ Below w.heap.size w w' := by
  obtain ⟨p, hp⟩ : ∃ p, p = w.alloc (.cells #[.string (sof s), .int .i64 z] 23) := ⟨_, rfl⟩
  have hr : Whole p w.heap.size 23 #[.string (sof s), .int .i64 z] := by rw [hp]; exact Whole.here _ _ _
  have hb : Below w.heap.size w p := by rw [hp]; exact (Below.refl _ _).alloc (Nat.le_refl _) _
  have hc1 := hr.cell 1
  have HB := Lib.hid hb
  clear hr hb
  by_cases h0 : 0 ≤ m ∧ m ≤ 67108864
  case neg =>
    have HZ := Lib.hid (age_zero (z := z) (m := m) fun h => h0 ⟨h.1, h.2.1⟩)
    have HI := Lib.hid (inm_false h0)
    go_enter Try.func12, Try.ntmps12
    go_upto_region 1 with fail
    rw [← hp]
    clear hp
    have hcl := ismin m p
    rw [HI.out] at hcl
    go_wp2_with fail
    refine hcl.mono ?_
    rintro e w1 ⟨rfl, hww⟩
    clear hcl
    subst hww
    go_wp2_with fail
    go_ret
    exact ⟨by rw [HZ.out]; rfl, HB.out⟩
  obtain ⟨h1, h2⟩ := h0
  by_cases h3 : -67108864 ≤ z
  case neg =>
    have HZ := Lib.hid (age_zero (z := z) (m := m) fun h => h3 h.2.2.1)
    have HI := Lib.hid (inm_true ⟨h1, h2⟩)
    go_enter Try.func12, Try.ntmps12
    go_upto_region 1 with fail
    rw [← hp]
    clear hp
    have hcl := ismin m p
    rw [HI.out] at hcl
    go_wp2_with fail
    refine hcl.mono ?_
    rintro e w1 ⟨rfl, hww⟩
    clear hcl
    subst hww
    go_wp2_with fail
    go_ret
    exact ⟨by rw [HZ.out]; rfl, HB.out⟩
  by_cases h4 : z ≤ 67108864
  case neg =>
    have HZ := Lib.hid (age_zero (z := z) (m := m) fun h => h4 (by omega))
    have HI := Lib.hid (inm_true ⟨h1, h2⟩)
    go_enter Try.func12, Try.ntmps12
    go_upto_region 1 with fail
    rw [← hp]
    clear hp
    have hcl := ismin m p
    rw [HI.out] at hcl
    go_wp2_with fail
    refine hcl.mono ?_
    rintro e w1 ⟨rfl, hww⟩
    clear hcl
    subst hww
    go_wp2_with fail
    go_ret
    exact ⟨by rw [HZ.out]; rfl, HB.out⟩
  by_cases h5 : z ≤ m
  case neg =>
    have HZ := Lib.hid (age_zero (z := z) (m := m) fun h => h5 h.2.2.2)
    have HI := Lib.hid (inm_true ⟨h1, h2⟩)
    have hsb : IntKind.i64.wrap (m - z) = m - z := by rw [IntKind.wrap_i64]; omega
    have hqe : (m - z).tdiv 525600 = -((z - m) / 525600) := by rw [show m - z = -(z - m) by omega, Int.neg_tdiv, Int.tdiv_eq_ediv_of_nonneg (by omega)]
    have hqt : (m - z).tdiv 525600 ≤ 0 := by rw [hqe]; omega
    have hq2 : -67108864 ≤ (m - z).tdiv 525600 := by rw [hqe]; omega
    clear hqe
    go_enter Try.func12, Try.ntmps12
    go_upto_region 1 with fail
    rw [← hp]
    clear hp
    have hcl := ismin m p
    rw [HI.out] at hcl
    go_wp2_with fail
    refine hcl.mono ?_
    rintro e w1 ⟨rfl, hww⟩
    clear hcl
    subst hww
    go_wp2_with fail
    go_ret
    exact ⟨by rw [HZ.out]; simp <;> omega, HB.out⟩
  · have HZ := Lib.hid (age_some (z := z) (m := m) ⟨h1, h2, h3, h5⟩)
    have HI := Lib.hid (inm_true ⟨h1, h2⟩)
    have hsb : IntKind.i64.wrap (m - z) = m - z := by rw [IntKind.wrap_i64]; omega
    have hq0 : 0 ≤ (m - z) / 525600 := Int.ediv_nonneg (by omega) (by omega)
    have hq3 : (m - z) / 525600 ≤ 1000 := by omega
    go_enter Try.func12, Try.ntmps12
    go_upto_region 1 with fail
    rw [← hp]
    clear hp
    have hcl := ismin m p
    rw [HI.out] at hcl
    go_wp2_with fail
    refine hcl.mono ?_
    rintro e w1 ⟨rfl, hww⟩
    clear hcl
    subst hww
    go_wp2_with fail
    go_ret
    exact ⟨by rw [HZ.out]; simp <;> omega, HB.out⟩
set_option maxRecDepth 100000 in
theorem rage (s : List B8) (z m : Int) (w : World) : Calls Try.prog 13 #[.agg #[.string (sof s), .int .i64 z], .int .i64 m] w fun e w' => e = .returned (.int .i64 (age z m)) ∧ Below w.heap.size w w' := by
  obtain ⟨p, hp⟩ : ∃ p, p = w.alloc (.cells #[.string (sof s), .int .i64 z] 23) := ⟨_, rfl⟩
  have hr : Whole p w.heap.size 23 #[.string (sof s), .int .i64 z] := by rw [hp]; exact Whole.here _ _ _
  have hb : Below w.heap.size w p := by rw [hp]; exact (Below.refl _ _).alloc (Nat.le_refl _) _
  have hc1 := hr.cell 1
  have HB := Lib.hid hb
  clear hr hb
  by_cases h0 : 0 ≤ m ∧ m ≤ 67108864
  case neg =>
    have HZ := Lib.hid (age_zero (z := z) (m := m) fun h => h0 ⟨h.1, h.2.1⟩)
    by_cases h6 : 0 ≤ m
    · have h7 : ¬ m ≤ 67108864 := fun h => h0 ⟨h6, h⟩
      go_enter Try.func13, Try.ntmps13
      go_upto_region 1 with fail
      rw [← hp]
      clear hp
      go_wp2_with fail
      go_ret
      exact ⟨by rw [HZ.out]; rfl, HB.out⟩
    · skip
      go_enter Try.func13, Try.ntmps13
      go_upto_region 1 with fail
      rw [← hp]
      clear hp
      go_wp2_with fail
      go_ret
      exact ⟨by rw [HZ.out]; rfl, HB.out⟩
  obtain ⟨h1, h2⟩ := h0
  by_cases h3 : -67108864 ≤ z
  case neg =>
    have HZ := Lib.hid (age_zero (z := z) (m := m) fun h => h3 h.2.2.1)
    go_enter Try.func13, Try.ntmps13
    go_upto_region 1 with fail
    rw [← hp]
    clear hp
    go_wp2_with fail
    go_ret
    exact ⟨by rw [HZ.out]; rfl, HB.out⟩
  by_cases h4 : z ≤ 67108864
  case neg =>
    have HZ := Lib.hid (age_zero (z := z) (m := m) fun h => h4 (by omega))
    go_enter Try.func13, Try.ntmps13
    go_upto_region 1 with fail
    rw [← hp]
    clear hp
    go_wp2_with fail
    go_ret
    exact ⟨by rw [HZ.out]; rfl, HB.out⟩
  by_cases h5 : z ≤ m
  case neg =>
    have HZ := Lib.hid (age_zero (z := z) (m := m) fun h => h5 h.2.2.2)
    go_enter Try.func13, Try.ntmps13
    go_upto_region 1 with fail
    rw [← hp]
    clear hp
    go_wp2_with fail
    go_ret
    exact ⟨by rw [HZ.out]; rfl, HB.out⟩
  · have HZ := Lib.hid (age_some (z := z) (m := m) ⟨h1, h2, h3, h5⟩)
    have hsb : IntKind.i64.wrap (m - z) = m - z := by rw [IntKind.wrap_i64]; omega
    have hq0 : 0 ≤ (m - z) / 525600 := Int.ediv_nonneg (by omega) (by omega)
    have hq3 : (m - z) / 525600 ≤ 1000 := by omega
    go_enter Try.func13, Try.ntmps13
    go_upto_region 1 with fail
    rw [← hp]
    clear hp
    go_wp2_with fail
    go_ret
    exact ⟨by rw [HZ.out]; simp <;> omega, HB.out⟩
end Go.Proofs.Yteekdhcffiaaaaa
