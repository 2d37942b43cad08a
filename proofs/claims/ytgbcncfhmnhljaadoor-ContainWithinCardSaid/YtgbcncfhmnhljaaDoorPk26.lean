/-
  Package holds: upTo, isName, Valid.
  Package holds: Holds.
  Package holds: All.
-/
import Derived.Test.YtgbcncfhmnhljaaDoorPk10
import Derived.Test.YtgbcncfhmnhljaaDoorPk23
import Derived.Deep.RegionHeld3
namespace Go.Proofs.YtgbcncfhmnhljaaDoor
open Go Go.RowKit Sh Leaf

theorem h_up_to (most n : Int) (w : World) : Calls Tryd.prog 86 #[.int .i64 most, .int .i64 n] w fun e w' => e = .returned (.bool (inr n most)) ∧ w = w' := by
  by_cases h0 : 0 ≤ n
  · by_cases h1 : n ≤ most
    · have HD := Lib.hid (inr_true ⟨h0, h1⟩)
      go_enter Tryd.func86, Tryd.ntmps86
      go_wp2
      go_ret
      exact ⟨by rw [HD.out]; rfl, rfl⟩
    · have HD := Lib.hid (inr_false (fun h => h1 h.2))
      go_enter Tryd.func86, Tryd.ntmps86
      go_wp2
      go_ret
      exact ⟨by rw [HD.out]; rfl, rfl⟩
  · have HD := Lib.hid (inr_false (n := n) (most := most) (fun h => h0 h.1))
    go_enter Tryd.func86, Tryd.ntmps86
    go_wp2
    go_ret
    exact ⟨by rw [HD.out]; simp, rfl⟩
theorem pok_name (s : List B8) : pok ⟨6, 0, 0, 0, s, 0⟩ ↔ nmok s := by unfold pok; simp
theorem h_name (s : List B8) (hs : s.length ≤ 9223372036854775807) (w : World) : Calls Tryd.prog 87 #[.string (sof s)] w fun e w' => e = .returned (.bool (decide (nmok s))) ∧ Below w.heap.size w w' := by
  have hv := fun W => pvalid ⟨6, 0, 0, 0, s, 0⟩ (by simp) hs W
  rw [decide_eq_decide.2 (pok_name s)] at hv
  unfold pv at hv
  simp only at hv
  generalize decide (nmok s) = D at *
  clear hs
  go_enter Tryd.func87, Tryd.ntmps87
  go_wp2_with fail
  refine (hv _).mono ?_
  rintro e w' ⟨rfl, hb⟩
  have HB := Lib.hid hb
  clear hb
  go_wp2
  go_ret
  exact ⟨rfl, HB.out⟩
theorem one_below {w w' : World} {o : Obj} (h : Below (w.alloc o).heap.size (w.alloc o) w') : Below w.heap.size w w' := ((Below.refl w.heap.size w).alloc (Nat.le_refl _) o).trans (h.mono (by simp))
set_option maxHeartbeats 1000000 in
theorem h_valid (c : Ctx) (hn : c.holder.length ≤ 9223372036854775807) (w : World) : Calls Tryd.prog 75 #[cv c] w fun e w' => e = .returned (.bool (decide (cok c))) ∧ Below w.heap.size w w' := by
  obtain ⟨z, l, m, nm⟩ := c
  unfold cv
  simp only at hn ⊢
  obtain ⟨D, hD⟩ : ∃ D, D = decide (cok ⟨z, l, m, nm⟩) := ⟨_, rfl⟩
  rw [← hD]
  unfold cok at hD
  simp only at hD
  have hnm := fun W => h_name nm hn W
  have hb1 : ∀ o, Below w.heap.size w (w.alloc o) := fun o => (Below.refl w.heap.size w).alloc (Nat.le_refl _) o
  clear hn
  by_cases h0 : 0 ≤ z ∧ z ≤ 63
  case neg =>
    obtain rfl := hD.trans (decide_eq_false fun h => h0 h.1)
    have i0 := inr_false h0
    clear hD hnm h0
    go_enter Tryd.func75, Tryd.ntmps75
    go_wp2_with (first | (go_at_call 86; refine (h_up_to _ _ _).mono ?_; rintro e w' ⟨rfl, rfl⟩))
    go_ret
    exact ⟨rfl, hb1 _⟩
  by_cases h1 : 0 ≤ l ∧ l ≤ 31
  case neg =>
    obtain rfl := hD.trans (decide_eq_false fun h => h1 h.2.1)
    have i0 := inr_true h0
    have i1 := inr_false h1
    clear hD hnm h0 h1
    go_enter Tryd.func75, Tryd.ntmps75
    go_wp2_with (first | (go_at_call 86; refine (h_up_to _ _ _).mono ?_; rintro e w' ⟨rfl, rfl⟩))
    go_ret
    exact ⟨rfl, hb1 _⟩
  by_cases h2 : 0 ≤ m ∧ m ≤ 67108864
  case neg =>
    obtain rfl := hD.trans (decide_eq_false fun h => h2 h.2.2.1)
    have i0 := inr_true h0
    have i1 := inr_true h1
    have i2 := inr_false h2
    clear hD hnm h0 h1 h2
    go_enter Tryd.func75, Tryd.ntmps75
    go_wp2_with (first | (go_at_call 86; refine (h_up_to _ _ _).mono ?_; rintro e w' ⟨rfl, rfl⟩))
    go_ret
    exact ⟨rfl, hb1 _⟩
  have hd : D = decide (nmok nm) := hD.trans (decide_eq_decide.2 ⟨fun h => h.2.2.2, fun h => ⟨h0, h1, h2, h⟩⟩)
  rw [← hd] at hnm
  have i0 := inr_true h0
  have i1 := inr_true h1
  have i2 := inr_true h2
  clear hD hd h0 h1 h2 hb1
  cases D
  · skip
    go_enter Tryd.func75, Tryd.ntmps75
    go_wp2_with (first | (go_at_call 86; refine (h_up_to _ _ _).mono ?_; rintro e w' ⟨rfl, rfl⟩) | (go_at_call 87; refine (hnm _).mono ?_; rintro e w2 ⟨rfl, hb2⟩; have HB := Lib.hid (one_below hb2); clear hb2))
    go_ret
    exact ⟨rfl, HB.out⟩
  · skip
    go_enter Tryd.func75, Tryd.ntmps75
    go_wp2_with (first | (go_at_call 86; refine (h_up_to _ _ _).mono ?_; rintro e w' ⟨rfl, rfl⟩) | (go_at_call 87; refine (hnm _).mono ?_; rintro e w2 ⟨rfl, hb2⟩; have HB := Lib.hid (one_below hb2); clear hb2))
    go_ret
    exact ⟨rfl, HB.out⟩
end Go.Proofs.YtgbcncfhmnhljaaDoor
namespace Go.Proofs.YtgbcncfhmnhljaaDoor
open Go Go.RowKit Sh Leaf

theorem enter_one {f : FuncId} {fn : Func} (hf : Tryd.prog.funcs[f]? = some fn) (h1 : (fn.name == "runtime.NumGoroutine") = false) (h2 : fn.body.isNone = false) (args : Array Value) (W : World) : (callFunc f args).run Tryd.prog W = .ok (.enter f args) W := by
  have h1' : ¬ fn.name = "runtime.NumGoroutine" := by simpa using h1
  have h2' : ¬ fn.body = none := fun h => by rw [h] at h2; cases h2
  simp [callFunc, hf, h1', h2', go_sem]
theorem enter_kf (k : Nat) (h1 : 1 ≤ k) (h7 : k ≤ 7) (args : Array Value) (W : World) : (callFunc (kf k) args).run Tryd.prog W = .ok (.enter (kf k) args) W := by
  rcases (by omega : k = 1 ∨ k = 2 ∨ k = 3 ∨ k = 4 ∨ k = 5 ∨ k = 6 ∨ k = 7) with rfl | rfl | rfl | rfl | rfl | rfl | rfl
  · exact enter_one Tryd.func88 (by kernel_rfl) (by kernel_rfl) args W
  · exact enter_one Tryd.func89 (by kernel_rfl) (by kernel_rfl) args W
  · exact enter_one Tryd.func90 (by kernel_rfl) (by kernel_rfl) args W
  · exact enter_one Tryd.func91 (by kernel_rfl) (by kernel_rfl) args W
  · exact enter_one Tryd.func92 (by kernel_rfl) (by kernel_rfl) args W
  · exact enter_one Tryd.func93 (by kernel_rfl) (by kernel_rfl) args W
  · exact enter_one Tryd.func94 (by kernel_rfl) (by kernel_rfl) args W
set_option maxRecDepth 100000 in
set_option maxHeartbeats 4000000 in
theorem hholds_in (k : Nat) (h1 : 1 ≤ k) (h7 : k ≤ 7) (pm : Nat) (pl ph pu : Int) (pn : List B8) (cz cl cm : Int) (cn : List B8) (D : Bool) (w : World)
    (hv : ∀ W, Calls Tryd.prog 29 #[.agg (prow k pm pl ph pn pu)] W fun e w' => e = .returned (.bool true) ∧ Below W.heap.size W w')
    (hcv : ∀ W, Calls Tryd.prog 75 #[.agg (crow cz cl cm cn)] W fun e w' => e = .returned (.bool true) ∧ Below W.heap.size W w')
    (hme : ∀ W, Calls Tryd.prog (kf k) #[.agg (crow cz cl cm cn), .agg (prow k pm pl ph pn pu)] W fun e w' => e = .returned (.bool D) ∧ Below W.heap.size W w') :
    Calls Tryd.prog 70 #[.agg (prow k pm pl ph pn pu), .agg (crow cz cl cm cn)] w fun e w' => e = .returned (.bool D) ∧ Below w.heap.size w w' := by
  have hbx : Below w.heap.size w ((w.alloc (.cells (prow (k : Int) pm pl ph pn pu) 41)).alloc (.cells (crow cz cl cm cn) 34)) := two_below _ _ _
  have hP : PRow ((w.alloc (.cells (prow (k : Int) pm pl ph pn pu) 41)).alloc (.cells (crow cz cl cm cn) 34)) w.heap.size k pm pl ph pn pu := (Whole.here w _ _).alloc _
  have hC : CRow ((w.alloc (.cells (prow (k : Int) pm pl ph pn pu) 41)).alloc (.cells (crow cz cl cm cn) 34)) (w.heap.size + 1) cz cl cm cn := Whole.at_ _ _ _ _ (by simp)
  go_enter Tryd.func70, Tryd.ntmps70
  go_wp2_with fail
  obtain ⟨w4, hw4⟩ : ∃ w4, w4 = (w.alloc (.cells (prow (k : Int) pm pl ph pn pu) 41)).alloc (.cells (crow cz cl cm cn) 34) := ⟨_, rfl⟩
  rw [← hw4] at hbx hP hC
  show Code.wp _ _ _ _ ((w.alloc (.cells (prow (k : Int) pm pl ph pn pu) 41)).alloc (.cells (crow cz cl cm cn) 34))
  rw [← hw4]
  clear hw4
  have hlp : w.heap.size < w4.heap.size := Whole.lt hP
  have hlc : w.heap.size + 1 < w4.heap.size := Whole.lt hC
  have hcc : Hid (∀ W, Below w4.heap.size w4 W → (W.cell? ⟨w.heap.size, 0, none⟩ = some (.int .i64 (k : Int)) ∧ W.cell? ⟨w.heap.size, 1, none⟩ = some (.int .u64 (pm : Int)) ∧ W.cell? ⟨w.heap.size, 2, none⟩ = some (.int .i64 pl) ∧ W.cell? ⟨w.heap.size, 3, none⟩ = some (.int .i64 ph) ∧ W.cell? ⟨w.heap.size, 4, none⟩ = some (.string (sof pn)) ∧ W.cell? ⟨w.heap.size, 5, none⟩ = some (.int .i64 pu) ∧ W.cell? ⟨w.heap.size + 1, 0, none⟩ = some (.int .i64 cz) ∧ W.cell? ⟨w.heap.size + 1, 1, none⟩ = some (.int .i64 cl) ∧ W.cell? ⟨w.heap.size + 1, 2, none⟩ = some (.int .i64 cm) ∧ W.cell? ⟨w.heap.size + 1, 3, none⟩ = some (.string (sof cn)))) := Lib.hid fun W hb => by
    obtain ⟨a0, a1, a2, a3, a4, a5⟩ := PRow.cells (Whole.below hP hb hlp)
    obtain ⟨b0, b1, b2, b3⟩ := CRow.cells (Whole.below hC hb hlc)
    exact ⟨a0, a1, a2, a3, a4, a5, b0, b1, b2, b3⟩
  have HB4 := Lib.hid hbx
  clear hP hC hbx
  have av := Lib.hid fun W (hb : Below w4.heap.size w4 W) => (hv W).mono fun _ _ h => And.intro h.1 (hb.trans (h.2.mono hb.size))
  have bv := Lib.hid fun W (hb : Below w4.heap.size w4 W) => (hcv W).mono fun _ _ h => And.intro h.1 (hb.trans (h.2.mono hb.size))
  have ev := Lib.hid fun W (hb : Below w4.heap.size w4 W) => (evals cz cl cm cn W).mono fun _ _ h => And.intro h.1 (And.intro (h.2.1 k h1 h7) (hb.trans (h.2.2.mono hb.size)))
  have me := Lib.hid fun W (hb : Below w4.heap.size w4 W) => (hme W).mono fun _ _ h => And.intro h.1 (hb.trans (h.2.mono hb.size))
  clear hv hcv hme
  have k0 : (0 : Int) ≤ (k : Int) := by omega
  have k8 : (k : Int) < 8 := by omega
  have hcf := enter_kf k h1 h7
  generalize kf k = F at *
  refine wp_region_held_drew (S := fun W => W.cell? ⟨w.heap.size, 0, none⟩ = some (.int .i64 (k : Int)) ∧ W.cell? ⟨w.heap.size, 1, none⟩ = some (.int .u64 (pm : Int)) ∧ W.cell? ⟨w.heap.size, 2, none⟩ = some (.int .i64 pl) ∧ W.cell? ⟨w.heap.size, 3, none⟩ = some (.int .i64 ph) ∧ W.cell? ⟨w.heap.size, 4, none⟩ = some (.string (sof pn)) ∧ W.cell? ⟨w.heap.size, 5, none⟩ = some (.int .i64 pu) ∧ W.cell? ⟨w.heap.size + 1, 0, none⟩ = some (.int .i64 cz) ∧ W.cell? ⟨w.heap.size + 1, 1, none⟩ = some (.int .i64 cl) ∧ W.cell? ⟨w.heap.size + 1, 2, none⟩ = some (.int .i64 cm) ∧ W.cell? ⟨w.heap.size + 1, 3, none⟩ = some (.string (sof cn))) (by kernel_rfl) (hcc.out _ (Below.refl _ _).drew) (fun hHeld => ?_)
  apply wpAnyH_take (i := 0) rfl (by kernel_rfl) (by kernel_rfl) (by kernel_rfl)
  case hQ => exact fun _ _ _ h => h
  case hS => exact hHeld
  case hy => (refine Or.inl ⟨by rfl, ?_⟩; intro w hSw; go_split_ands; go_simp; (try with_reducible rfl))
  simp only [List.getElem_toArray, List.getElem_cons_zero, Act.put, List.setIfInBounds_toArray, List.set_cons_zero, List.set_cons_succ]
  refine wpAnyH_ready (rs := [1]) (by kernel_rfl) (by simp) ?_
  refine AllReadyH.cons rfl (fun K hK => ?_) AllReadyH.nil
  simp only [List.getElem_toArray, List.getElem_cons_succ, List.getElem_cons_zero]
  go_simp
  go_at_call 29
  refine (av.out _ (Below.refl _ _).drew).mono ?_
  rintro e w5 ⟨rfl, hb5⟩
  refine hK.out _ _ (hcc.out _ hb5) (fun hHeld => ?_)
  clear hK K
  (try simp only [List.getElem_toArray, List.getElem_cons_succ, List.getElem_cons_zero, Act.put, List.setIfInBounds_toArray, List.set_cons_zero, List.set_cons_succ])
  apply wpAnyH_take (i := 2) rfl (by kernel_rfl) (by kernel_rfl) (by kernel_rfl)
  case hQ => exact fun _ _ _ h => h
  case hS => exact hHeld
  case hy => (refine Or.inl ⟨by rfl, ?_⟩; intro w hSw; go_split_ands; go_simp; (try with_reducible rfl))
  simp only [List.getElem_toArray, List.getElem_cons_succ, List.getElem_cons_zero, Act.put, List.setIfInBounds_toArray, List.set_cons_zero, List.set_cons_succ]
  apply wpAnyH_take (i := 3) rfl (by kernel_rfl) (by kernel_rfl) (by kernel_rfl)
  case hQ => exact fun _ _ _ h => h
  case hS => exact hHeld
  case hy => (refine Or.inl ⟨by rfl, ?_⟩; intro w hSw; go_split_ands; go_simp; (try with_reducible rfl))
  simp only [List.getElem_toArray, List.getElem_cons_succ, List.getElem_cons_zero, Act.put, List.setIfInBounds_toArray, List.set_cons_zero, List.set_cons_succ]
  refine wpAnyH_ready (rs := [4]) (by kernel_rfl) (by simp) ?_
  refine AllReadyH.cons rfl (fun K hK => ?_) AllReadyH.nil
  simp only [List.getElem_toArray, List.getElem_cons_succ, List.getElem_cons_zero]
  go_simp
  go_at_call 75
  refine (bv.out _ hb5).mono ?_
  rintro e w6 ⟨rfl, hb6⟩
  refine hK.out _ _ (hcc.out _ hb6) (fun hHeld => ?_)
  clear hK K
  (try simp only [List.getElem_toArray, List.getElem_cons_succ, List.getElem_cons_zero, Act.put, List.setIfInBounds_toArray, List.set_cons_zero, List.set_cons_succ])
  apply wpAnyH_take (i := 5) rfl (by kernel_rfl) (by kernel_rfl) (by kernel_rfl)
  case hQ => exact fun _ _ _ h => h
  case hS => exact hHeld
  case hy => (refine Or.inl ⟨by rfl, ?_⟩; intro w hSw; go_split_ands; go_simp; (try with_reducible rfl))
  simp only [List.getElem_toArray, List.getElem_cons_succ, List.getElem_cons_zero, Act.put, List.setIfInBounds_toArray, List.set_cons_zero, List.set_cons_succ]
  apply wpAnyH_take (i := 6) rfl (by kernel_rfl) (by kernel_rfl) (by kernel_rfl)
  case hQ => exact fun _ _ _ h => h
  case hS => exact hHeld
  case hy => (refine Or.inl ⟨by rfl, ?_⟩; intro w hSw; go_split_ands; go_simp; (try with_reducible rfl))
  simp only [List.getElem_toArray, List.getElem_cons_succ, List.getElem_cons_zero, Act.put, List.setIfInBounds_toArray, List.set_cons_zero, List.set_cons_succ]
  apply wpAnyH_take (i := 7) rfl (by kernel_rfl) (by kernel_rfl) (by kernel_rfl)
  case hQ => exact fun _ _ _ h => h
  case hS => exact hHeld
  case hy => (refine Or.inl ⟨by rfl, ?_⟩; intro w hSw; go_split_ands; go_simp; (try with_reducible rfl))
  simp only [List.getElem_toArray, List.getElem_cons_succ, List.getElem_cons_zero, Act.put, List.setIfInBounds_toArray, List.set_cons_zero, List.set_cons_succ]
  apply wpAnyH_take (i := 9) rfl (by kernel_rfl) (by kernel_rfl) (by kernel_rfl)
  case hQ => exact fun _ _ _ h => h
  case hS => exact hHeld
  case hy => (refine Or.inl ⟨by rfl, ?_⟩; intro w hSw; go_split_ands; go_simp; (try with_reducible rfl))
  simp only [List.getElem_toArray, List.getElem_cons_succ, List.getElem_cons_zero, Act.put, List.setIfInBounds_toArray, List.set_cons_zero, List.set_cons_succ]
  apply wpAnyH_take (i := 10) rfl (by kernel_rfl) (by kernel_rfl) (by kernel_rfl)
  case hQ => exact fun _ _ _ h => h
  case hS => exact hHeld
  case hy => (refine Or.inl ⟨by rfl, ?_⟩; intro w hSw; go_split_ands; go_simp; (try with_reducible rfl))
  simp only [List.getElem_toArray, List.getElem_cons_succ, List.getElem_cons_zero, Act.put, List.setIfInBounds_toArray, List.set_cons_zero, List.set_cons_succ]
  apply wpAnyH_take (i := 13) rfl (by kernel_rfl) (by kernel_rfl) (by kernel_rfl)
  case hQ => exact fun _ _ _ h => h
  case hS => exact hHeld
  case hy => (refine Or.inl ⟨by rfl, ?_⟩; intro w hSw; go_split_ands; go_simp; (try with_reducible rfl))
  simp only [List.getElem_toArray, List.getElem_cons_succ, List.getElem_cons_zero, Act.put, List.setIfInBounds_toArray, List.set_cons_zero, List.set_cons_succ]
  refine wpAnyH_ready (rs := [8]) (by kernel_rfl) (by simp) ?_
  refine AllReadyH.cons rfl (fun K hK => ?_) AllReadyH.nil
  simp only [List.getElem_toArray, List.getElem_cons_succ, List.getElem_cons_zero]
  go_simp
  go_at_call 76
  refine (ev.out _ hb6).mono ?_
  rintro e w7 ⟨rfl, ht, hb7⟩
  refine hK.out _ _ (hcc.out _ hb7) (fun hHeld => ?_)
  clear hK K
  (try simp only [List.getElem_toArray, List.getElem_cons_succ, List.getElem_cons_zero, Act.put, List.setIfInBounds_toArray, List.set_cons_zero, List.set_cons_succ])
  apply wpAnyH_take (i := 11) rfl (by kernel_rfl) (by kernel_rfl) (by kernel_rfl)
  case hQ => exact fun _ _ _ h => h
  case hS => exact hHeld
  case hy => (refine Or.inl ⟨by rfl, ?_⟩; intro w hSw; go_split_ands; go_simp; (try with_reducible rfl))
  simp only [List.getElem_toArray, List.getElem_cons_succ, List.getElem_cons_zero, Act.put, List.setIfInBounds_toArray, List.set_cons_zero, List.set_cons_succ]
  refine wpAnyH_ready (rs := [12]) (by kernel_rfl) (by simp) ?_
  refine AllReadyH.cons rfl (fun K hK => ?_) AllReadyH.nil
  simp only [List.getElem_toArray, List.getElem_cons_succ, List.getElem_cons_zero]
  go_simp
  refine hK.out _ _ (hcc.out _ hb7) (fun hHeld => ?_)
  clear hK K
  (try simp only [List.getElem_toArray, List.getElem_cons_succ, List.getElem_cons_zero, Act.put, List.setIfInBounds_toArray, List.set_cons_zero, List.set_cons_succ])
  refine wpAnyH_ready (rs := [14]) (by kernel_rfl) (by simp) ?_
  refine AllReadyH.cons rfl (fun K hK => ?_) AllReadyH.nil
  simp only [List.getElem_toArray, List.getElem_cons_succ, List.getElem_cons_zero]
  go_simp
  refine (me.out _ hb7).mono ?_
  rintro e w8 ⟨rfl, hb8⟩
  refine hK.out _ _ (hcc.out _ hb8) (fun hHeld => ?_)
  clear hK K
  (try simp only [List.getElem_toArray, List.getElem_cons_succ, List.getElem_cons_zero, Act.put, List.setIfInBounds_toArray, List.set_cons_zero, List.set_cons_succ])
  apply wpAnyH_take (i := 15) rfl (by kernel_rfl) (by kernel_rfl) (by kernel_rfl)
  case hQ => exact fun _ _ _ h => h
  case hS => exact hHeld
  case hy => (refine Or.inl ⟨by rfl, ?_⟩; intro w hSw; go_split_ands; go_simp; (try with_reducible rfl))
  simp only [List.getElem_toArray, List.getElem_cons_succ, List.getElem_cons_zero, Act.put, List.setIfInBounds_toArray, List.set_cons_zero, List.set_cons_succ]
  apply wpAnyH_take (i := 16) rfl (by kernel_rfl) (by kernel_rfl) (by kernel_rfl)
  case hQ => exact fun _ _ _ h => h
  case hS => exact hHeld
  case hy => (refine Or.inl ⟨by rfl, ?_⟩; intro w hSw; go_split_ands; go_simp; (try with_reducible rfl))
  simp only [List.getElem_toArray, List.getElem_cons_succ, List.getElem_cons_zero, Act.put, List.setIfInBounds_toArray, List.set_cons_zero, List.set_cons_succ]
  refine wpAnyH_done (by kernel_rfl) ?_ _
  have HF := Lib.hid (HB4.out.trans (hb8.mono HB4.out.size))
  clear hb5 hb6 hb7 hb8 hHeld
  go_wp2
  go_ret
  exact ⟨rfl, HF.out⟩
set_option maxRecDepth 100000 in
set_option maxHeartbeats 4000000 in
theorem hholds_bad (k : Int) (pm : Nat) (pl ph pu : Int) (pn : List B8) (cz cl cm : Int) (cn : List B8) (w : World)
    (hv : ∀ W, Calls Tryd.prog 29 #[.agg (prow k pm pl ph pn pu)] W fun e w' => e = .returned (.bool false) ∧ Below W.heap.size W w') :
    Calls Tryd.prog 70 #[.agg (prow k pm pl ph pn pu), .agg (crow cz cl cm cn)] w fun e w' => e = .returned (.bool false) ∧ Below w.heap.size w w' := by
  have hbx : Below w.heap.size w ((w.alloc (.cells (prow k pm pl ph pn pu) 41)).alloc (.cells (crow cz cl cm cn) 34)) := two_below _ _ _
  have hP : PRow ((w.alloc (.cells (prow k pm pl ph pn pu) 41)).alloc (.cells (crow cz cl cm cn) 34)) w.heap.size k pm pl ph pn pu := (Whole.here w _ _).alloc _
  have hC : CRow ((w.alloc (.cells (prow k pm pl ph pn pu) 41)).alloc (.cells (crow cz cl cm cn) 34)) (w.heap.size + 1) cz cl cm cn := Whole.at_ _ _ _ _ (by simp)
  go_enter Tryd.func70, Tryd.ntmps70
  go_wp2_with fail
  obtain ⟨w4, hw4⟩ : ∃ w4, w4 = (w.alloc (.cells (prow k pm pl ph pn pu) 41)).alloc (.cells (crow cz cl cm cn) 34) := ⟨_, rfl⟩
  rw [← hw4] at hbx hP hC
  show Code.wp _ _ _ _ ((w.alloc (.cells (prow k pm pl ph pn pu) 41)).alloc (.cells (crow cz cl cm cn) 34))
  rw [← hw4]
  clear hw4
  have hlp : w.heap.size < w4.heap.size := Whole.lt hP
  have hlc : w.heap.size + 1 < w4.heap.size := Whole.lt hC
  have hcc : Hid (∀ W, Below w4.heap.size w4 W → (W.cell? ⟨w.heap.size, 0, none⟩ = some (.int .i64 k) ∧ W.cell? ⟨w.heap.size, 1, none⟩ = some (.int .u64 (pm : Int)) ∧ W.cell? ⟨w.heap.size, 2, none⟩ = some (.int .i64 pl) ∧ W.cell? ⟨w.heap.size, 3, none⟩ = some (.int .i64 ph) ∧ W.cell? ⟨w.heap.size, 4, none⟩ = some (.string (sof pn)) ∧ W.cell? ⟨w.heap.size, 5, none⟩ = some (.int .i64 pu) ∧ W.cell? ⟨w.heap.size + 1, 0, none⟩ = some (.int .i64 cz) ∧ W.cell? ⟨w.heap.size + 1, 1, none⟩ = some (.int .i64 cl) ∧ W.cell? ⟨w.heap.size + 1, 2, none⟩ = some (.int .i64 cm) ∧ W.cell? ⟨w.heap.size + 1, 3, none⟩ = some (.string (sof cn)))) := Lib.hid fun W hb => by
    obtain ⟨a0, a1, a2, a3, a4, a5⟩ := PRow.cells (Whole.below hP hb hlp)
    obtain ⟨b0, b1, b2, b3⟩ := CRow.cells (Whole.below hC hb hlc)
    exact ⟨a0, a1, a2, a3, a4, a5, b0, b1, b2, b3⟩
  have HB4 := Lib.hid hbx
  clear hP hC hbx
  have av := fun W (hb : Below w4.heap.size w4 W) => (hv W).mono fun _ _ h => And.intro h.1 (hb.trans (h.2.mono hb.size))
  clear hv
  refine wp_region_held_drew (S := fun W => W.cell? ⟨w.heap.size, 0, none⟩ = some (.int .i64 k) ∧ W.cell? ⟨w.heap.size, 1, none⟩ = some (.int .u64 (pm : Int)) ∧ W.cell? ⟨w.heap.size, 2, none⟩ = some (.int .i64 pl) ∧ W.cell? ⟨w.heap.size, 3, none⟩ = some (.int .i64 ph) ∧ W.cell? ⟨w.heap.size, 4, none⟩ = some (.string (sof pn)) ∧ W.cell? ⟨w.heap.size, 5, none⟩ = some (.int .i64 pu) ∧ W.cell? ⟨w.heap.size + 1, 0, none⟩ = some (.int .i64 cz) ∧ W.cell? ⟨w.heap.size + 1, 1, none⟩ = some (.int .i64 cl) ∧ W.cell? ⟨w.heap.size + 1, 2, none⟩ = some (.int .i64 cm) ∧ W.cell? ⟨w.heap.size + 1, 3, none⟩ = some (.string (sof cn))) (by kernel_rfl) (hcc.out _ (Below.refl _ _).drew) (fun hHeld => ?_)
  apply wpAnyH_take (i := 0) rfl (by kernel_rfl) (by kernel_rfl) (by kernel_rfl)
  case hQ => exact fun _ _ _ h => h
  case hS => exact hHeld
  case hy => (refine Or.inl ⟨by rfl, ?_⟩; intro w hSw; go_split_ands; go_simp; (try with_reducible rfl))
  simp only [List.getElem_toArray, List.getElem_cons_zero, Act.put, List.setIfInBounds_toArray, List.set_cons_zero, List.set_cons_succ]
  refine wpAnyH_ready (rs := [1]) (by kernel_rfl) (by simp) ?_
  refine AllReadyH.cons rfl (fun K hK => ?_) AllReadyH.nil
  simp only [List.getElem_toArray, List.getElem_cons_succ, List.getElem_cons_zero]
  go_simp
  go_at_call 29
  refine (av _ (Below.refl _ _).drew).mono ?_
  rintro e w5 ⟨rfl, hb5⟩
  refine hK.out _ _ (hcc.out _ hb5) (fun hHeld => ?_)
  clear hK K
  (try simp only [List.getElem_toArray, List.getElem_cons_succ, List.getElem_cons_zero, Act.put, List.setIfInBounds_toArray, List.set_cons_zero, List.set_cons_succ])
  apply wpAnyH_take (i := 2) rfl (by kernel_rfl) (by kernel_rfl) (by kernel_rfl)
  case hQ => exact fun _ _ _ h => h
  case hS => exact hHeld
  case hy => (refine Or.inl ⟨by rfl, ?_⟩; intro w hSw; go_split_ands; go_simp; (try with_reducible rfl))
  simp only [List.getElem_toArray, List.getElem_cons_succ, List.getElem_cons_zero, Act.put, List.setIfInBounds_toArray, List.set_cons_zero, List.set_cons_succ]
  apply wpAnyH_take (i := 3) rfl (by kernel_rfl) (by kernel_rfl) (by kernel_rfl)
  case hQ => exact fun _ _ _ h => h
  case hS => exact hHeld
  case hy => exact Or.inr ⟨by rfl, rfl⟩
  simp only [List.getElem_toArray, List.getElem_cons_succ, List.getElem_cons_zero, Act.put, List.setIfInBounds_toArray, List.set_cons_zero, List.set_cons_succ]
  apply wpAnyH_take (i := 4) rfl (by kernel_rfl) (by kernel_rfl) (by kernel_rfl)
  case hQ => exact fun _ _ _ h => h
  case hS => exact hHeld
  case hy => exact Or.inr ⟨by rfl, rfl⟩
  simp only [List.getElem_toArray, List.getElem_cons_succ, List.getElem_cons_zero, Act.put, List.setIfInBounds_toArray, List.set_cons_zero, List.set_cons_succ]
  apply wpAnyH_take (i := 5) rfl (by kernel_rfl) (by kernel_rfl) (by kernel_rfl)
  case hQ => exact fun _ _ _ h => h
  case hS => exact hHeld
  case hy => (refine Or.inl ⟨by rfl, ?_⟩; intro w hSw; go_split_ands; go_simp; (try with_reducible rfl))
  simp only [List.getElem_toArray, List.getElem_cons_succ, List.getElem_cons_zero, Act.put, List.setIfInBounds_toArray, List.set_cons_zero, List.set_cons_succ]
  apply wpAnyH_take (i := 6) rfl (by kernel_rfl) (by kernel_rfl) (by kernel_rfl)
  case hQ => exact fun _ _ _ h => h
  case hS => exact hHeld
  case hy => (refine Or.inl ⟨by rfl, ?_⟩; intro w hSw; go_split_ands; go_simp; (try with_reducible rfl))
  simp only [List.getElem_toArray, List.getElem_cons_succ, List.getElem_cons_zero, Act.put, List.setIfInBounds_toArray, List.set_cons_zero, List.set_cons_succ]
  apply wpAnyH_take (i := 7) rfl (by kernel_rfl) (by kernel_rfl) (by kernel_rfl)
  case hQ => exact fun _ _ _ h => h
  case hS => exact hHeld
  case hy => exact Or.inr ⟨by rfl, rfl⟩
  simp only [List.getElem_toArray, List.getElem_cons_succ, List.getElem_cons_zero, Act.put, List.setIfInBounds_toArray, List.set_cons_zero, List.set_cons_succ]
  apply wpAnyH_take (i := 8) rfl (by kernel_rfl) (by kernel_rfl) (by kernel_rfl)
  case hQ => exact fun _ _ _ h => h
  case hS => exact hHeld
  case hy => exact Or.inr ⟨by rfl, rfl⟩
  simp only [List.getElem_toArray, List.getElem_cons_succ, List.getElem_cons_zero, Act.put, List.setIfInBounds_toArray, List.set_cons_zero, List.set_cons_succ]
  apply wpAnyH_take (i := 9) rfl (by kernel_rfl) (by kernel_rfl) (by kernel_rfl)
  case hQ => exact fun _ _ _ h => h
  case hS => exact hHeld
  case hy => exact Or.inr ⟨by rfl, rfl⟩
  simp only [List.getElem_toArray, List.getElem_cons_succ, List.getElem_cons_zero, Act.put, List.setIfInBounds_toArray, List.set_cons_zero, List.set_cons_succ]
  apply wpAnyH_take (i := 10) rfl (by kernel_rfl) (by kernel_rfl) (by kernel_rfl)
  case hQ => exact fun _ _ _ h => h
  case hS => exact hHeld
  case hy => exact Or.inr ⟨by rfl, rfl⟩
  simp only [List.getElem_toArray, List.getElem_cons_succ, List.getElem_cons_zero, Act.put, List.setIfInBounds_toArray, List.set_cons_zero, List.set_cons_succ]
  apply wpAnyH_take (i := 11) rfl (by kernel_rfl) (by kernel_rfl) (by kernel_rfl)
  case hQ => exact fun _ _ _ h => h
  case hS => exact hHeld
  case hy => exact Or.inr ⟨by rfl, rfl⟩
  simp only [List.getElem_toArray, List.getElem_cons_succ, List.getElem_cons_zero, Act.put, List.setIfInBounds_toArray, List.set_cons_zero, List.set_cons_succ]
  apply wpAnyH_take (i := 12) rfl (by kernel_rfl) (by kernel_rfl) (by kernel_rfl)
  case hQ => exact fun _ _ _ h => h
  case hS => exact hHeld
  case hy => exact Or.inr ⟨by rfl, rfl⟩
  simp only [List.getElem_toArray, List.getElem_cons_succ, List.getElem_cons_zero, Act.put, List.setIfInBounds_toArray, List.set_cons_zero, List.set_cons_succ]
  apply wpAnyH_take (i := 13) rfl (by kernel_rfl) (by kernel_rfl) (by kernel_rfl)
  case hQ => exact fun _ _ _ h => h
  case hS => exact hHeld
  case hy => exact Or.inr ⟨by rfl, rfl⟩
  simp only [List.getElem_toArray, List.getElem_cons_succ, List.getElem_cons_zero, Act.put, List.setIfInBounds_toArray, List.set_cons_zero, List.set_cons_succ]
  apply wpAnyH_take (i := 14) rfl (by kernel_rfl) (by kernel_rfl) (by kernel_rfl)
  case hQ => exact fun _ _ _ h => h
  case hS => exact hHeld
  case hy => exact Or.inr ⟨by rfl, rfl⟩
  simp only [List.getElem_toArray, List.getElem_cons_succ, List.getElem_cons_zero, Act.put, List.setIfInBounds_toArray, List.set_cons_zero, List.set_cons_succ]
  apply wpAnyH_take (i := 15) rfl (by kernel_rfl) (by kernel_rfl) (by kernel_rfl)
  case hQ => exact fun _ _ _ h => h
  case hS => exact hHeld
  case hy => (refine Or.inl ⟨by rfl, ?_⟩; intro w hSw; go_split_ands; go_simp; (try with_reducible rfl))
  simp only [List.getElem_toArray, List.getElem_cons_succ, List.getElem_cons_zero, Act.put, List.setIfInBounds_toArray, List.set_cons_zero, List.set_cons_succ]
  apply wpAnyH_take (i := 16) rfl (by kernel_rfl) (by kernel_rfl) (by kernel_rfl)
  case hQ => exact fun _ _ _ h => h
  case hS => exact hHeld
  case hy => (refine Or.inl ⟨by rfl, ?_⟩; intro w hSw; go_split_ands; go_simp; (try with_reducible rfl))
  simp only [List.getElem_toArray, List.getElem_cons_succ, List.getElem_cons_zero, Act.put, List.setIfInBounds_toArray, List.set_cons_zero, List.set_cons_succ]
  refine wpAnyH_done (by kernel_rfl) ?_ _
  have HF := Lib.hid (HB4.out.trans (hb5.mono HB4.out.size))
  clear hb5
  go_wp2
  go_ret
  exact ⟨rfl, HF.out⟩
set_option maxRecDepth 100000 in
set_option maxHeartbeats 4000000 in
theorem hholds_off (k : Int) (pm : Nat) (pl ph pu : Int) (pn : List B8) (cz cl cm : Int) (cn : List B8) (w : World)
    (hv : ∀ W, Calls Tryd.prog 29 #[.agg (prow k pm pl ph pn pu)] W fun e w' => e = .returned (.bool true) ∧ Below W.heap.size W w')
    (hcv : ∀ W, Calls Tryd.prog 75 #[.agg (crow cz cl cm cn)] W fun e w' => e = .returned (.bool false) ∧ Below W.heap.size W w') :
    Calls Tryd.prog 70 #[.agg (prow k pm pl ph pn pu), .agg (crow cz cl cm cn)] w fun e w' => e = .returned (.bool false) ∧ Below w.heap.size w w' := by
  have hbx : Below w.heap.size w ((w.alloc (.cells (prow k pm pl ph pn pu) 41)).alloc (.cells (crow cz cl cm cn) 34)) := two_below _ _ _
  have hP : PRow ((w.alloc (.cells (prow k pm pl ph pn pu) 41)).alloc (.cells (crow cz cl cm cn) 34)) w.heap.size k pm pl ph pn pu := (Whole.here w _ _).alloc _
  have hC : CRow ((w.alloc (.cells (prow k pm pl ph pn pu) 41)).alloc (.cells (crow cz cl cm cn) 34)) (w.heap.size + 1) cz cl cm cn := Whole.at_ _ _ _ _ (by simp)
  go_enter Tryd.func70, Tryd.ntmps70
  go_wp2_with fail
  obtain ⟨w4, hw4⟩ : ∃ w4, w4 = (w.alloc (.cells (prow k pm pl ph pn pu) 41)).alloc (.cells (crow cz cl cm cn) 34) := ⟨_, rfl⟩
  rw [← hw4] at hbx hP hC
  show Code.wp _ _ _ _ ((w.alloc (.cells (prow k pm pl ph pn pu) 41)).alloc (.cells (crow cz cl cm cn) 34))
  rw [← hw4]
  clear hw4
  have hlp : w.heap.size < w4.heap.size := Whole.lt hP
  have hlc : w.heap.size + 1 < w4.heap.size := Whole.lt hC
  have hcc : Hid (∀ W, Below w4.heap.size w4 W → (W.cell? ⟨w.heap.size, 0, none⟩ = some (.int .i64 k) ∧ W.cell? ⟨w.heap.size, 1, none⟩ = some (.int .u64 (pm : Int)) ∧ W.cell? ⟨w.heap.size, 2, none⟩ = some (.int .i64 pl) ∧ W.cell? ⟨w.heap.size, 3, none⟩ = some (.int .i64 ph) ∧ W.cell? ⟨w.heap.size, 4, none⟩ = some (.string (sof pn)) ∧ W.cell? ⟨w.heap.size, 5, none⟩ = some (.int .i64 pu) ∧ W.cell? ⟨w.heap.size + 1, 0, none⟩ = some (.int .i64 cz) ∧ W.cell? ⟨w.heap.size + 1, 1, none⟩ = some (.int .i64 cl) ∧ W.cell? ⟨w.heap.size + 1, 2, none⟩ = some (.int .i64 cm) ∧ W.cell? ⟨w.heap.size + 1, 3, none⟩ = some (.string (sof cn)))) := Lib.hid fun W hb => by
    obtain ⟨a0, a1, a2, a3, a4, a5⟩ := PRow.cells (Whole.below hP hb hlp)
    obtain ⟨b0, b1, b2, b3⟩ := CRow.cells (Whole.below hC hb hlc)
    exact ⟨a0, a1, a2, a3, a4, a5, b0, b1, b2, b3⟩
  have HB4 := Lib.hid hbx
  clear hP hC hbx
  have av := fun W (hb : Below w4.heap.size w4 W) => (hv W).mono fun _ _ h => And.intro h.1 (hb.trans (h.2.mono hb.size))
  have bv := fun W (hb : Below w4.heap.size w4 W) => (hcv W).mono fun _ _ h => And.intro h.1 (hb.trans (h.2.mono hb.size))
  clear hv hcv
  refine wp_region_held_drew (S := fun W => W.cell? ⟨w.heap.size, 0, none⟩ = some (.int .i64 k) ∧ W.cell? ⟨w.heap.size, 1, none⟩ = some (.int .u64 (pm : Int)) ∧ W.cell? ⟨w.heap.size, 2, none⟩ = some (.int .i64 pl) ∧ W.cell? ⟨w.heap.size, 3, none⟩ = some (.int .i64 ph) ∧ W.cell? ⟨w.heap.size, 4, none⟩ = some (.string (sof pn)) ∧ W.cell? ⟨w.heap.size, 5, none⟩ = some (.int .i64 pu) ∧ W.cell? ⟨w.heap.size + 1, 0, none⟩ = some (.int .i64 cz) ∧ W.cell? ⟨w.heap.size + 1, 1, none⟩ = some (.int .i64 cl) ∧ W.cell? ⟨w.heap.size + 1, 2, none⟩ = some (.int .i64 cm) ∧ W.cell? ⟨w.heap.size + 1, 3, none⟩ = some (.string (sof cn))) (by kernel_rfl) (hcc.out _ (Below.refl _ _).drew) (fun hHeld => ?_)
  apply wpAnyH_take (i := 0) rfl (by kernel_rfl) (by kernel_rfl) (by kernel_rfl)
  case hQ => exact fun _ _ _ h => h
  case hS => exact hHeld
  case hy => (refine Or.inl ⟨by rfl, ?_⟩; intro w hSw; go_split_ands; go_simp; (try with_reducible rfl))
  simp only [List.getElem_toArray, List.getElem_cons_zero, Act.put, List.setIfInBounds_toArray, List.set_cons_zero, List.set_cons_succ]
  refine wpAnyH_ready (rs := [1]) (by kernel_rfl) (by simp) ?_
  refine AllReadyH.cons rfl (fun K hK => ?_) AllReadyH.nil
  simp only [List.getElem_toArray, List.getElem_cons_succ, List.getElem_cons_zero]
  go_simp
  go_at_call 29
  refine (av _ (Below.refl _ _).drew).mono ?_
  rintro e w5 ⟨rfl, hb5⟩
  refine hK.out _ _ (hcc.out _ hb5) (fun hHeld => ?_)
  clear hK K
  (try simp only [List.getElem_toArray, List.getElem_cons_succ, List.getElem_cons_zero, Act.put, List.setIfInBounds_toArray, List.set_cons_zero, List.set_cons_succ])
  apply wpAnyH_take (i := 2) rfl (by kernel_rfl) (by kernel_rfl) (by kernel_rfl)
  case hQ => exact fun _ _ _ h => h
  case hS => exact hHeld
  case hy => (refine Or.inl ⟨by rfl, ?_⟩; intro w hSw; go_split_ands; go_simp; (try with_reducible rfl))
  simp only [List.getElem_toArray, List.getElem_cons_succ, List.getElem_cons_zero, Act.put, List.setIfInBounds_toArray, List.set_cons_zero, List.set_cons_succ]
  apply wpAnyH_take (i := 3) rfl (by kernel_rfl) (by kernel_rfl) (by kernel_rfl)
  case hQ => exact fun _ _ _ h => h
  case hS => exact hHeld
  case hy => (refine Or.inl ⟨by rfl, ?_⟩; intro w hSw; go_split_ands; go_simp; (try with_reducible rfl))
  simp only [List.getElem_toArray, List.getElem_cons_succ, List.getElem_cons_zero, Act.put, List.setIfInBounds_toArray, List.set_cons_zero, List.set_cons_succ]
  refine wpAnyH_ready (rs := [4]) (by kernel_rfl) (by simp) ?_
  refine AllReadyH.cons rfl (fun K hK => ?_) AllReadyH.nil
  simp only [List.getElem_toArray, List.getElem_cons_succ, List.getElem_cons_zero]
  go_simp
  go_at_call 75
  refine (bv _ hb5).mono ?_
  rintro e w6 ⟨rfl, hb6⟩
  refine hK.out _ _ (hcc.out _ hb6) (fun hHeld => ?_)
  clear hK K
  (try simp only [List.getElem_toArray, List.getElem_cons_succ, List.getElem_cons_zero, Act.put, List.setIfInBounds_toArray, List.set_cons_zero, List.set_cons_succ])
  apply wpAnyH_take (i := 5) rfl (by kernel_rfl) (by kernel_rfl) (by kernel_rfl)
  case hQ => exact fun _ _ _ h => h
  case hS => exact hHeld
  case hy => (refine Or.inl ⟨by rfl, ?_⟩; intro w hSw; go_split_ands; go_simp; (try with_reducible rfl))
  simp only [List.getElem_toArray, List.getElem_cons_succ, List.getElem_cons_zero, Act.put, List.setIfInBounds_toArray, List.set_cons_zero, List.set_cons_succ]
  apply wpAnyH_take (i := 6) rfl (by kernel_rfl) (by kernel_rfl) (by kernel_rfl)
  case hQ => exact fun _ _ _ h => h
  case hS => exact hHeld
  case hy => (refine Or.inl ⟨by rfl, ?_⟩; intro w hSw; go_split_ands; go_simp; (try with_reducible rfl))
  simp only [List.getElem_toArray, List.getElem_cons_succ, List.getElem_cons_zero, Act.put, List.setIfInBounds_toArray, List.set_cons_zero, List.set_cons_succ]
  apply wpAnyH_take (i := 7) rfl (by kernel_rfl) (by kernel_rfl) (by kernel_rfl)
  case hQ => exact fun _ _ _ h => h
  case hS => exact hHeld
  case hy => exact Or.inr ⟨by rfl, rfl⟩
  simp only [List.getElem_toArray, List.getElem_cons_succ, List.getElem_cons_zero, Act.put, List.setIfInBounds_toArray, List.set_cons_zero, List.set_cons_succ]
  apply wpAnyH_take (i := 8) rfl (by kernel_rfl) (by kernel_rfl) (by kernel_rfl)
  case hQ => exact fun _ _ _ h => h
  case hS => exact hHeld
  case hy => exact Or.inr ⟨by rfl, rfl⟩
  simp only [List.getElem_toArray, List.getElem_cons_succ, List.getElem_cons_zero, Act.put, List.setIfInBounds_toArray, List.set_cons_zero, List.set_cons_succ]
  apply wpAnyH_take (i := 9) rfl (by kernel_rfl) (by kernel_rfl) (by kernel_rfl)
  case hQ => exact fun _ _ _ h => h
  case hS => exact hHeld
  case hy => exact Or.inr ⟨by rfl, rfl⟩
  simp only [List.getElem_toArray, List.getElem_cons_succ, List.getElem_cons_zero, Act.put, List.setIfInBounds_toArray, List.set_cons_zero, List.set_cons_succ]
  apply wpAnyH_take (i := 10) rfl (by kernel_rfl) (by kernel_rfl) (by kernel_rfl)
  case hQ => exact fun _ _ _ h => h
  case hS => exact hHeld
  case hy => exact Or.inr ⟨by rfl, rfl⟩
  simp only [List.getElem_toArray, List.getElem_cons_succ, List.getElem_cons_zero, Act.put, List.setIfInBounds_toArray, List.set_cons_zero, List.set_cons_succ]
  apply wpAnyH_take (i := 11) rfl (by kernel_rfl) (by kernel_rfl) (by kernel_rfl)
  case hQ => exact fun _ _ _ h => h
  case hS => exact hHeld
  case hy => exact Or.inr ⟨by rfl, rfl⟩
  simp only [List.getElem_toArray, List.getElem_cons_succ, List.getElem_cons_zero, Act.put, List.setIfInBounds_toArray, List.set_cons_zero, List.set_cons_succ]
  apply wpAnyH_take (i := 12) rfl (by kernel_rfl) (by kernel_rfl) (by kernel_rfl)
  case hQ => exact fun _ _ _ h => h
  case hS => exact hHeld
  case hy => exact Or.inr ⟨by rfl, rfl⟩
  simp only [List.getElem_toArray, List.getElem_cons_succ, List.getElem_cons_zero, Act.put, List.setIfInBounds_toArray, List.set_cons_zero, List.set_cons_succ]
  apply wpAnyH_take (i := 13) rfl (by kernel_rfl) (by kernel_rfl) (by kernel_rfl)
  case hQ => exact fun _ _ _ h => h
  case hS => exact hHeld
  case hy => exact Or.inr ⟨by rfl, rfl⟩
  simp only [List.getElem_toArray, List.getElem_cons_succ, List.getElem_cons_zero, Act.put, List.setIfInBounds_toArray, List.set_cons_zero, List.set_cons_succ]
  apply wpAnyH_take (i := 14) rfl (by kernel_rfl) (by kernel_rfl) (by kernel_rfl)
  case hQ => exact fun _ _ _ h => h
  case hS => exact hHeld
  case hy => exact Or.inr ⟨by rfl, rfl⟩
  simp only [List.getElem_toArray, List.getElem_cons_succ, List.getElem_cons_zero, Act.put, List.setIfInBounds_toArray, List.set_cons_zero, List.set_cons_succ]
  apply wpAnyH_take (i := 15) rfl (by kernel_rfl) (by kernel_rfl) (by kernel_rfl)
  case hQ => exact fun _ _ _ h => h
  case hS => exact hHeld
  case hy => (refine Or.inl ⟨by rfl, ?_⟩; intro w hSw; go_split_ands; go_simp; (try with_reducible rfl))
  simp only [List.getElem_toArray, List.getElem_cons_succ, List.getElem_cons_zero, Act.put, List.setIfInBounds_toArray, List.set_cons_zero, List.set_cons_succ]
  apply wpAnyH_take (i := 16) rfl (by kernel_rfl) (by kernel_rfl) (by kernel_rfl)
  case hQ => exact fun _ _ _ h => h
  case hS => exact hHeld
  case hy => (refine Or.inl ⟨by rfl, ?_⟩; intro w hSw; go_split_ands; go_simp; (try with_reducible rfl))
  simp only [List.getElem_toArray, List.getElem_cons_succ, List.getElem_cons_zero, Act.put, List.setIfInBounds_toArray, List.set_cons_zero, List.set_cons_succ]
  refine wpAnyH_done (by kernel_rfl) ?_ _
  have HF := Lib.hid (HB4.out.trans (hb6.mono HB4.out.size))
  clear hb6
  go_wp2
  go_ret
  exact ⟨rfl, HF.out⟩
/-- Holds. -/
theorem hholds (p : Prd) (c : Ctx) (hm : p.mask < 18446744073709551616) (hn : p.name.length ≤ 9223372036854775807) (hc : c.holder.length ≤ 9223372036854775807) (w : World) :
    Calls Tryd.prog 70 #[pv p, cv c] w fun e w' => e = .returned (.bool (decide (hd p c))) ∧ Below w.heap.size w w' := by
  have hv := fun W => pvalid p hm hn W
  have hcv := fun W => h_valid c hc W
  obtain ⟨k, m, lo, hi, nm, nu⟩ := p
  obtain ⟨z, l, mi, h⟩ := c
  unfold pv at hv ⊢
  unfold cv at hcv ⊢
  simp only at hv hcv hm hn hc ⊢
  by_cases hp : pok ⟨k, m, lo, hi, nm, nu⟩
  case neg =>
    rw [decide_eq_false hp] at hv
    rw [decide_eq_false (fun q : hd _ _ => hp q.1)]
    exact hholds_bad k m lo hi nu nm z l mi h w hv
  rw [decide_eq_true hp] at hv
  by_cases hk : cok ⟨z, l, mi, h⟩
  case neg =>
    rw [decide_eq_false hk] at hcv
    rw [decide_eq_false (fun q : hd _ _ => hk q.2.1)]
    exact hholds_off k m lo hi nu nm z l mi h w hv hcv
  rw [decide_eq_true hk] at hcv
  obtain ⟨⟨z0, z1⟩, ⟨l0, l1⟩, ⟨m0, m1⟩, hnm⟩ := id hk
  simp only at z0 z1 l0 l1 m0 m1 hnm
  have hkk := pok_kind hp
  simp only at hkk
  obtain ⟨k, rfl⟩ := Int.eq_ofNat_of_zero_le (show 0 ≤ k by omega)
  have ha : decide (hd ⟨(k : Int), m, lo, hi, nm, nu⟩ ⟨z, l, mi, h⟩) = decide (asks ⟨(k : Int), m, lo, hi, nm, nu⟩ ⟨z, l, mi, h⟩) := decide_eq_decide.2 ⟨fun q => q.2.2, fun q => ⟨hp, hk, q⟩⟩
  rw [ha]
  refine hholds_in k (by omega) (by omega) m lo hi nu nm z l mi h _ w hv hcv fun W => ?_
  clear ha hv hcv
  rcases (by omega : k = 1 ∨ k = 2 ∨ k = 3 ∨ k = 4 ∨ k = 5 ∨ k = 6 ∨ k = 7) with rfl | rfl | rfl | rfl | rfl | rfl | rfl
  · exact in_zone z l mi h _ lo hi nu m nm hm z0 (by omega) W
  · exact on_line z l mi h _ lo hi nu m nm hm l0 (by omega) W
  · exact on_days z l mi h _ lo hi nu m nm hm m0 m1 _ rfl W
  · exact in_time z l mi h _ lo hi nu m nm _ rfl W
  · exact in_daily z l mi h _ lo hi nu m nm m0 _ rfl W
  · exact by_holder z l mi h _ lo hi nu m nm _ rfl W
  · exact always_ z l mi h _ lo hi nu m nm W
end Go.Proofs.YtgbcncfhmnhljaaDoor
namespace Go.Proofs.YtgbcncfhmnhljaaDoor
open Go Go.RowKit Sh Leaf

theorem hdA_at (c : Ctx) (l : List Prd) (j : Nat) (p : Prd) (hj : l[j]? = some p) (hall : ∀ i q, i < j → l[i]? = some q → hd q c) (h : ¬ hd p c) : hdAll l c = (j, false) := by
  obtain ⟨hl, rfl⟩ := List.getElem?_eq_some_iff.1 hj
  have := hdA_ok c l 0 j hl (fun i hi hij => hall i _ hij (List.getElem?_eq_getElem hi)) h
  rw [Nat.zero_add] at this
  exact this
theorem hdA_end (c : Ctx) (l : List Prd) (hall : ∀ i q, i < l.length → l[i]? = some q → hd q c) : hdAll l c = (0, true) :=
  hdA_true c l 0 fun p hp => by
    obtain ⟨j, hj, rfl⟩ := List.getElem_of_mem hp
    exact hall j _ hj (List.getElem?_eq_getElem hj)
set_option maxHeartbeats 1000000 in
theorem hall_ (l : List Prd) (c : Ctx) (hc : c.holder.length ≤ 9223372036854775807) (A : Option Addr) (k : Nat) (Q : Nat → Prop) (w : World) (hI : Prds w Q A k l) :
    Calls Tryd.prog 61 #[.slice A l.length k, cv c] w fun e w' => e = .returned (.tuple #[.int .i64 ((hdAll l c).1 : Int), .bool (hdAll l c).2]) ∧ Below w.heap.size w w' := by
  have hh := fun p hp W => hholds p c (And.left hp) (And.right hp) hc W
  obtain ⟨z, cl, mi, nm⟩ := c
  unfold cv at hh ⊢
  simp only at hh hc ⊢
  have hlen : l.length ≤ 9223372036854775807 := by
    have := hI.1
    have := hI.2.1
    unfold maxLen at this
    omega
  have hb0 : Below w.heap.size w (w.alloc (.cells (crow z cl mi nm) 34)) := (Below.refl w.heap.size w).alloc (Nat.le_refl _) _
  have hC0 : CRow (w.alloc (.cells (crow z cl mi nm) 34)) w.heap.size z cl mi nm := Whole.here w _ _
  go_enter Tryd.func61, Tryd.ntmps61
  go_wp2
  go_loopw [6, 7, 10] (fun _ _ i wr => ∃ j : Nat, j ≤ l.length ∧ i = .int .i64 j ∧ (∀ i q, i < j → l[i]? = some q → hd q ⟨z, cl, mi, nm⟩) ∧ Below w.heap.size w wr ∧ CRow wr w.heap.size z cl mi nm ∧ Prds wr Q A k l) (fun _ _ i _ => l.length - (intOf i).toNat)
  case atStart => exact ⟨0, by omega, rfl, fun i q h => by omega, hb0, hC0, hI.alloc _⟩
  case round =>
    obtain ⟨j, hj, rfl, hall, hb, hC, hP⟩ := hrel
    have HA := Lib.hid hall
    clear hall
    have hwj : w.heap.size < wr.heap.size := hC.lt
    by_cases hlt : j < l.length
    · obtain ⟨p, hp⟩ : ∃ p, l[j]? = some p := ⟨_, List.getElem?_eq_getElem hlt⟩
      have hpb := hP.2.2.2.1 p (List.mem_of_getElem? hp)
      have hh1 := fun W => hh p hpb W
      rw [pv_row] at hh1
      obtain ⟨g, o, rfl, hQ, hg, c0, c1, c2, c3, c4, c5⟩ := hP.get j p hp
      obtain ⟨d0, d1, d2, d3⟩ := CRow.cells hC
      obtain ⟨pk, pm, pl, ph, pn, pu⟩ := p
      simp only at hh1 c0 c1 c2 c3 c4 c5
      have HP := Lib.hid hP
      have HC := Lib.hid hC
      have HB := Lib.hid hb
      have HI := Lib.hid hp
      obtain ⟨D, hD⟩ : ∃ D, D = decide (hd ⟨pk, pm, pl, ph, pn, pu⟩ ⟨z, cl, mi, nm⟩) := ⟨_, rfl⟩
      rw [← hD] at hh1
      have HD := Lib.hid hD
      clear hh hP hC hb hI hC0 hb0 hD hp hpb
      have hwr : ∀ w2, Below (wr.alloc (.cells (prow pk pm pl ph pn pu) 41)).heap.size (wr.alloc (.cells (prow pk pm pl ph pn pu) 41)) w2 → Below wr.heap.size wr w2 := fun _ h => one_below h
      have HW := Lib.hid hwr
      clear hwr
      cases D
      · go_wp2_with (go_at_call 70; refine (hh1 _).mono ?_; rintro e w2 ⟨rfl, hb2⟩; have HB2 := Lib.hid (HB.out.trans ((HW.out _ hb2).mono HB.out.size)); clear hb2)
        go_ret2
        have e := hdA_at ⟨z, cl, mi, nm⟩ l j _ HI.out HA.out (of_decide_eq_false HD.out.symm)
        exact ⟨by rw [e]; rfl, HB2.out⟩
      · go_wp2_with (go_at_call 70; refine (hh1 _).mono ?_; rintro e w2 ⟨rfl, hb2⟩; have HB2 := Lib.hid (HW.out _ hb2); clear hb2)
        go_roundw
        case rel =>
          refine ⟨j + 1, by omega, by go_num, fun i q hi hq => ?_, HB.out.trans (HB2.out.mono HB.out.size), HC.out.below HB2.out hwj, HP.out.below HB2.out (Nat.le_refl _)⟩
          by_cases e : i = j
          · subst e
            have h1 := HI.out
            rw [hq] at h1
            injection h1 with h1
            rw [h1]
            exact of_decide_eq_true HD.out.symm
          · exact HA.out i q (by omega) hq
        case measure => simp [intOf]; omega
    · have e := hdA_end ⟨z, cl, mi, nm⟩ l (fun i q hi hq => HA.out i q (by omega) hq)
      have HE := Lib.hid e
      clear hh e hI hP
      go_wp2
      go_ret2
      exact ⟨by rw [HE.out]; rfl, hb⟩
end Go.Proofs.YtgbcncfhmnhljaaDoor
