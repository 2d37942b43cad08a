/-
  Package holds: upTo, isName, Valid.
  Package holds: Holds.
  The law package's awake.
-/
import Derived.Test.YtbbkjdckogcbgaaPk6
import Derived.Test.YtbbkjdckogcbgaaPk8
import Derived.Deep.RegionHeld3
namespace Go.Proofs.Ytbbkjdckogcbgaa
open Go Go.RowKit Sh Leaf

theorem h_up_to (most n : Int) (w : World) : Calls Try.prog 24 #[.int .i64 most, .int .i64 n] w fun e w' => e = .returned (.bool (inr n most)) ∧ w = w' := by
  by_cases h0 : 0 ≤ n
  · by_cases h1 : n ≤ most
    · have HD := Lib.hid (inr_true ⟨h0, h1⟩)
      go_enter Try.func24, Try.ntmps24
      go_wp2
      go_ret
      exact ⟨by rw [HD.out]; rfl, rfl⟩
    · have HD := Lib.hid (inr_false (fun h => h1 h.2))
      go_enter Try.func24, Try.ntmps24
      go_wp2
      go_ret
      exact ⟨by rw [HD.out]; rfl, rfl⟩
  · have HD := Lib.hid (inr_false (n := n) (most := most) (fun h => h0 h.1))
    go_enter Try.func24, Try.ntmps24
    go_wp2
    go_ret
    exact ⟨by rw [HD.out]; simp, rfl⟩
theorem pok_name (s : List B8) : pok ⟨6, 0, 0, 0, s, 0⟩ ↔ nmok s := by unfold pok; simp
theorem h_name (s : List B8) (hs : s.length ≤ 9223372036854775807) (w : World) : Calls Try.prog 25 #[.string (sof s)] w fun e w' => e = .returned (.bool (decide (nmok s))) ∧ Below w.heap.size w w' := by
  have hv := fun W => pvalid ⟨6, 0, 0, 0, s, 0⟩ (by simp) hs W
  rw [decide_eq_decide.2 (pok_name s)] at hv
  unfold pv at hv
  simp only at hv
  generalize decide (nmok s) = D at *
  clear hs
  go_enter Try.func25, Try.ntmps25
  go_wp2_with fail
  refine (hv _).mono ?_
  rintro e w' ⟨rfl, hb⟩
  have HB := Lib.hid hb
  clear hb
  go_wp2
  go_ret
  exact ⟨rfl, HB.out⟩
theorem one_below {w w' : World} {o : Obj} (h : Below (w.alloc o).heap.size (w.alloc o) w') : Below w.heap.size w w' := ((Below.refl w.heap.size w).alloc (Nat.le_refl _) o).trans (h.mono (by simp))
set_option maxHeartbeats 1000000 in
theorem h_valid (c : Ctx) (hn : c.holder.length ≤ 9223372036854775807) (w : World) : Calls Try.prog 11 #[cv c] w fun e w' => e = .returned (.bool (decide (cok c))) ∧ Below w.heap.size w w' := by
  obtain ⟨z, l, m, nm⟩ := c
  unfold cv
  simp only at hn ⊢
  obtain ⟨D, hD⟩ : ∃ D, D = decide (cok ⟨z, l, m, nm⟩) := ⟨_, rfl⟩
  rw [← hD]
  unfold cok at hD
  simp only at hD
  have hnm := fun W => h_name nm hn W
  have hb1 : ∀ o, Below w.heap.size w (w.alloc o) := fun o => (Below.refl w.heap.size w).alloc (Nat.le_refl _) o
  clear hn
  by_cases h0 : 0 ≤ z ∧ z ≤ 63
  case neg =>
    obtain rfl := hD.trans (decide_eq_false fun h => h0 h.1)
    have i0 := inr_false h0
    clear hD hnm h0
    go_enter Try.func11, Try.ntmps11
    go_wp2_with (first | (go_at_call 24; refine (h_up_to _ _ _).mono ?_; rintro e w' ⟨rfl, rfl⟩))
    go_ret
    exact ⟨rfl, hb1 _⟩
  by_cases h1 : 0 ≤ l ∧ l ≤ 31
  case neg =>
    obtain rfl := hD.trans (decide_eq_false fun h => h1 h.2.1)
    have i0 := inr_true h0
    have i1 := inr_false h1
    clear hD hnm h0 h1
    go_enter Try.func11, Try.ntmps11
    go_wp2_with (first | (go_at_call 24; refine (h_up_to _ _ _).mono ?_; rintro e w' ⟨rfl, rfl⟩))
    go_ret
    exact ⟨rfl, hb1 _⟩
  by_cases h2 : 0 ≤ m ∧ m ≤ 67108864
  case neg =>
    obtain rfl := hD.trans (decide_eq_false fun h => h2 h.2.2.1)
    have i0 := inr_true h0
    have i1 := inr_true h1
    have i2 := inr_false h2
    clear hD hnm h0 h1 h2
    go_enter Try.func11, Try.ntmps11
    go_wp2_with (first | (go_at_call 24; refine (h_up_to _ _ _).mono ?_; rintro e w' ⟨rfl, rfl⟩))
    go_ret
    exact ⟨rfl, hb1 _⟩
  have hd : D = decide (nmok nm) := hD.trans (decide_eq_decide.2 ⟨fun h => h.2.2.2, fun h => ⟨h0, h1, h2, h⟩⟩)
  rw [← hd] at hnm
  have i0 := inr_true h0
  have i1 := inr_true h1
  have i2 := inr_true h2
  clear hD hd h0 h1 h2 hb1
  cases D
  · skip
    go_enter Try.func11, Try.ntmps11
    go_wp2_with (first | (go_at_call 24; refine (h_up_to _ _ _).mono ?_; rintro e w' ⟨rfl, rfl⟩) | (go_at_call 25; refine (hnm _).mono ?_; rintro e w2 ⟨rfl, hb2⟩; have HB := Lib.hid (one_below hb2); clear hb2))
    go_ret
    exact ⟨rfl, HB.out⟩
  · skip
    go_enter Try.func11, Try.ntmps11
    go_wp2_with (first | (go_at_call 24; refine (h_up_to _ _ _).mono ?_; rintro e w' ⟨rfl, rfl⟩) | (go_at_call 25; refine (hnm _).mono ?_; rintro e w2 ⟨rfl, hb2⟩; have HB := Lib.hid (one_below hb2); clear hb2))
    go_ret
    exact ⟨rfl, HB.out⟩
end Go.Proofs.Ytbbkjdckogcbgaa
namespace Go.Proofs.Ytbbkjdckogcbgaa
open Go Go.RowKit Sh Leaf

theorem enter_one {f : FuncId} {fn : Func} (hf : Try.prog.funcs[f]? = some fn) (h1 : (fn.name == "runtime.NumGoroutine") = false) (h2 : fn.body.isNone = false) (args : Array Value) (W : World) : (callFunc f args).run Try.prog W = .ok (.enter f args) W := by
  have h1' : ¬ fn.name = "runtime.NumGoroutine" := by simpa using h1
  have h2' : ¬ fn.body = none := fun h => by rw [h] at h2; cases h2
  simp [callFunc, hf, h1', h2', go_sem]
theorem enter_kf (k : Nat) (h1 : 1 ≤ k) (h7 : k ≤ 7) (args : Array Value) (W : World) : (callFunc (kf k) args).run Try.prog W = .ok (.enter (kf k) args) W := by
  rcases (by omega : k = 1 ∨ k = 2 ∨ k = 3 ∨ k = 4 ∨ k = 5 ∨ k = 6 ∨ k = 7) with rfl | rfl | rfl | rfl | rfl | rfl | rfl
  · exact enter_one Try.func36 (by kernel_rfl) (by kernel_rfl) args W
  · exact enter_one Try.func37 (by kernel_rfl) (by kernel_rfl) args W
  · exact enter_one Try.func38 (by kernel_rfl) (by kernel_rfl) args W
  · exact enter_one Try.func39 (by kernel_rfl) (by kernel_rfl) args W
  · exact enter_one Try.func40 (by kernel_rfl) (by kernel_rfl) args W
  · exact enter_one Try.func41 (by kernel_rfl) (by kernel_rfl) args W
  · exact enter_one Try.func42 (by kernel_rfl) (by kernel_rfl) args W
set_option maxRecDepth 100000 in
set_option maxHeartbeats 4000000 in
theorem hholds_in (k : Nat) (h1 : 1 ≤ k) (h7 : k ≤ 7) (pm : Nat) (pl ph pu : Int) (pn : List B8) (cz cl cm : Int) (cn : List B8) (D : Bool) (w : World)
    (hv : ∀ W, Calls Try.prog 29 #[.agg (prow k pm pl ph pn pu)] W fun e w' => e = .returned (.bool true) ∧ Below W.heap.size W w')
    (hcv : ∀ W, Calls Try.prog 11 #[.agg (crow cz cl cm cn)] W fun e w' => e = .returned (.bool true) ∧ Below W.heap.size W w')
    (hme : ∀ W, Calls Try.prog (kf k) #[.agg (crow cz cl cm cn), .agg (prow k pm pl ph pn pu)] W fun e w' => e = .returned (.bool D) ∧ Below W.heap.size W w') :
    Calls Try.prog 15 #[.agg (prow k pm pl ph pn pu), .agg (crow cz cl cm cn)] w fun e w' => e = .returned (.bool D) ∧ Below w.heap.size w w' := by
  have hbx : Below w.heap.size w ((w.alloc (.cells (prow (k : Int) pm pl ph pn pu) 35)).alloc (.cells (crow cz cl cm cn) 23)) := two_below _ _ _
  have hP : PRow ((w.alloc (.cells (prow (k : Int) pm pl ph pn pu) 35)).alloc (.cells (crow cz cl cm cn) 23)) w.heap.size k pm pl ph pn pu := (Whole.here w _ _).alloc _
  have hC : CRow ((w.alloc (.cells (prow (k : Int) pm pl ph pn pu) 35)).alloc (.cells (crow cz cl cm cn) 23)) (w.heap.size + 1) cz cl cm cn := Whole.at_ _ _ _ _ (by simp)
  go_enter Try.func15, Try.ntmps15
  go_wp2_with fail
  obtain ⟨w4, hw4⟩ : ∃ w4, w4 = (w.alloc (.cells (prow (k : Int) pm pl ph pn pu) 35)).alloc (.cells (crow cz cl cm cn) 23) := ⟨_, rfl⟩
  rw [← hw4] at hbx hP hC
  show Code.wp _ _ _ _ ((w.alloc (.cells (prow (k : Int) pm pl ph pn pu) 35)).alloc (.cells (crow cz cl cm cn) 23))
  rw [← hw4]
  clear hw4
  have hlp : w.heap.size < w4.heap.size := Whole.lt hP
  have hlc : w.heap.size + 1 < w4.heap.size := Whole.lt hC
  have hcc : Hid (∀ W, Below w4.heap.size w4 W → (W.cell? ⟨w.heap.size, 0, none⟩ = some (.int .i64 (k : Int)) ∧ W.cell? ⟨w.heap.size, 1, none⟩ = some (.int .u64 (pm : Int)) ∧ W.cell? ⟨w.heap.size, 2, none⟩ = some (.int .i64 pl) ∧ W.cell? ⟨w.heap.size, 3, none⟩ = some (.int .i64 ph) ∧ W.cell? ⟨w.heap.size, 4, none⟩ = some (.string (sof pn)) ∧ W.cell? ⟨w.heap.size, 5, none⟩ = some (.int .i64 pu) ∧ W.cell? ⟨w.heap.size + 1, 0, none⟩ = some (.int .i64 cz) ∧ W.cell? ⟨w.heap.size + 1, 1, none⟩ = some (.int .i64 cl) ∧ W.cell? ⟨w.heap.size + 1, 2, none⟩ = some (.int .i64 cm) ∧ W.cell? ⟨w.heap.size + 1, 3, none⟩ = some (.string (sof cn)))) := Lib.hid fun W hb => by
    obtain ⟨a0, a1, a2, a3, a4, a5⟩ := PRow.cells (Whole.below hP hb hlp)
    obtain ⟨b0, b1, b2, b3⟩ := CRow.cells (Whole.below hC hb hlc)
    exact ⟨a0, a1, a2, a3, a4, a5, b0, b1, b2, b3⟩
  have HB4 := Lib.hid hbx
  clear hP hC hbx
  have av := Lib.hid fun W (hb : Below w4.heap.size w4 W) => (hv W).mono fun _ _ h => And.intro h.1 (hb.trans (h.2.mono hb.size))
  have bv := Lib.hid fun W (hb : Below w4.heap.size w4 W) => (hcv W).mono fun _ _ h => And.intro h.1 (hb.trans (h.2.mono hb.size))
  have ev := Lib.hid fun W (hb : Below w4.heap.size w4 W) => (evals cz cl cm cn W).mono fun _ _ h => And.intro h.1 (And.intro (h.2.1 k h1 h7) (hb.trans (h.2.2.mono hb.size)))
  have me := Lib.hid fun W (hb : Below w4.heap.size w4 W) => (hme W).mono fun _ _ h => And.intro h.1 (hb.trans (h.2.mono hb.size))
  clear hv hcv hme
  have k0 : (0 : Int) ≤ (k : Int) := by omega
  have k8 : (k : Int) < 8 := by omega
  have hcf := enter_kf k h1 h7
  generalize kf k = F at *
  refine wp_region_held_drew (S := fun W => W.cell? ⟨w.heap.size, 0, none⟩ = some (.int .i64 (k : Int)) ∧ W.cell? ⟨w.heap.size, 1, none⟩ = some (.int .u64 (pm : Int)) ∧ W.cell? ⟨w.heap.size, 2, none⟩ = some (.int .i64 pl) ∧ W.cell? ⟨w.heap.size, 3, none⟩ = some (.int .i64 ph) ∧ W.cell? ⟨w.heap.size, 4, none⟩ = some (.string (sof pn)) ∧ W.cell? ⟨w.heap.size, 5, none⟩ = some (.int .i64 pu) ∧ W.cell? ⟨w.heap.size + 1, 0, none⟩ = some (.int .i64 cz) ∧ W.cell? ⟨w.heap.size + 1, 1, none⟩ = some (.int .i64 cl) ∧ W.cell? ⟨w.heap.size + 1, 2, none⟩ = some (.int .i64 cm) ∧ W.cell? ⟨w.heap.size + 1, 3, none⟩ = some (.string (sof cn))) (by kernel_rfl) (hcc.out _ (Below.refl _ _).drew) (fun hHeld => ?_)
  apply wpAnyH_take (i := 0) rfl (by kernel_rfl) (by kernel_rfl) (by kernel_rfl)
  case hQ => exact fun _ _ _ h => h
  case hS => exact hHeld
  case hy => (refine Or.inl ⟨by rfl, ?_⟩; intro w hSw; go_split_ands; go_simp; (try with_reducible rfl))
  simp only [List.getElem_toArray, List.getElem_cons_zero, Act.put, List.setIfInBounds_toArray, List.set_cons_zero, List.set_cons_succ]
  refine wpAnyH_ready (rs := [1]) (by kernel_rfl) (by simp) ?_
  refine AllReadyH.cons rfl (fun K hK => ?_) AllReadyH.nil
  simp only [List.getElem_toArray, List.getElem_cons_succ, List.getElem_cons_zero]
  go_simp
  go_at_call 29
  refine (av.out _ (Below.refl _ _).drew).mono ?_
  rintro e w5 ⟨rfl, hb5⟩
  refine hK.out _ _ (hcc.out _ hb5) (fun hHeld => ?_)
  clear hK K
  (try simp only [List.getElem_toArray, List.getElem_cons_succ, List.getElem_cons_zero, Act.put, List.setIfInBounds_toArray, List.set_cons_zero, List.set_cons_succ])
  apply wpAnyH_take (i := 2) rfl (by kernel_rfl) (by kernel_rfl) (by kernel_rfl)
  case hQ => exact fun _ _ _ h => h
  case hS => exact hHeld
  case hy => (refine Or.inl ⟨by rfl, ?_⟩; intro w hSw; go_split_ands; go_simp; (try with_reducible rfl))
  simp only [List.getElem_toArray, List.getElem_cons_succ, List.getElem_cons_zero, Act.put, List.setIfInBounds_toArray, List.set_cons_zero, List.set_cons_succ]
  apply wpAnyH_take (i := 3) rfl (by kernel_rfl) (by kernel_rfl) (by kernel_rfl)
  case hQ => exact fun _ _ _ h => h
  case hS => exact hHeld
  case hy => (refine Or.inl ⟨by rfl, ?_⟩; intro w hSw; go_split_ands; go_simp; (try with_reducible rfl))
  simp only [List.getElem_toArray, List.getElem_cons_succ, List.getElem_cons_zero, Act.put, List.setIfInBounds_toArray, List.set_cons_zero, List.set_cons_succ]
  refine wpAnyH_ready (rs := [4]) (by kernel_rfl) (by simp) ?_
  refine AllReadyH.cons rfl (fun K hK => ?_) AllReadyH.nil
  simp only [List.getElem_toArray, List.getElem_cons_succ, List.getElem_cons_zero]
  go_simp
  go_at_call 11
  refine (bv.out _ hb5).mono ?_
  rintro e w6 ⟨rfl, hb6⟩
  refine hK.out _ _ (hcc.out _ hb6) (fun hHeld => ?_)
  clear hK K
  (try simp only [List.getElem_toArray, List.getElem_cons_succ, List.getElem_cons_zero, Act.put, List.setIfInBounds_toArray, List.set_cons_zero, List.set_cons_succ])
  apply wpAnyH_take (i := 5) rfl (by kernel_rfl) (by kernel_rfl) (by kernel_rfl)
  case hQ => exact fun _ _ _ h => h
  case hS => exact hHeld
  case hy => (refine Or.inl ⟨by rfl, ?_⟩; intro w hSw; go_split_ands; go_simp; (try with_reducible rfl))
  simp only [List.getElem_toArray, List.getElem_cons_succ, List.getElem_cons_zero, Act.put, List.setIfInBounds_toArray, List.set_cons_zero, List.set_cons_succ]
  apply wpAnyH_take (i := 6) rfl (by kernel_rfl) (by kernel_rfl) (by kernel_rfl)
  case hQ => exact fun _ _ _ h => h
  case hS => exact hHeld
  case hy => (refine Or.inl ⟨by rfl, ?_⟩; intro w hSw; go_split_ands; go_simp; (try with_reducible rfl))
  simp only [List.getElem_toArray, List.getElem_cons_succ, List.getElem_cons_zero, Act.put, List.setIfInBounds_toArray, List.set_cons_zero, List.set_cons_succ]
  apply wpAnyH_take (i := 7) rfl (by kernel_rfl) (by kernel_rfl) (by kernel_rfl)
  case hQ => exact fun _ _ _ h => h
  case hS => exact hHeld
  case hy => (refine Or.inl ⟨by rfl, ?_⟩; intro w hSw; go_split_ands; go_simp; (try with_reducible rfl))
  simp only [List.getElem_toArray, List.getElem_cons_succ, List.getElem_cons_zero, Act.put, List.setIfInBounds_toArray, List.set_cons_zero, List.set_cons_succ]
  apply wpAnyH_take (i := 9) rfl (by kernel_rfl) (by kernel_rfl) (by kernel_rfl)
  case hQ => exact fun _ _ _ h => h
  case hS => exact hHeld
  case hy => (refine Or.inl ⟨by rfl, ?_⟩; intro w hSw; go_split_ands; go_simp; (try with_reducible rfl))
  simp only [List.getElem_toArray, List.getElem_cons_succ, List.getElem_cons_zero, Act.put, List.setIfInBounds_toArray, List.set_cons_zero, List.set_cons_succ]
  apply wpAnyH_take (i := 10) rfl (by kernel_rfl) (by kernel_rfl) (by kernel_rfl)
  case hQ => exact fun _ _ _ h => h
  case hS => exact hHeld
  case hy => (refine Or.inl ⟨by rfl, ?_⟩; intro w hSw; go_split_ands; go_simp; (try with_reducible rfl))
  simp only [List.getElem_toArray, List.getElem_cons_succ, List.getElem_cons_zero, Act.put, List.setIfInBounds_toArray, List.set_cons_zero, List.set_cons_succ]
  apply wpAnyH_take (i := 13) rfl (by kernel_rfl) (by kernel_rfl) (by kernel_rfl)
  case hQ => exact fun _ _ _ h => h
  case hS => exact hHeld
  case hy => (refine Or.inl ⟨by rfl, ?_⟩; intro w hSw; go_split_ands; go_simp; (try with_reducible rfl))
  simp only [List.getElem_toArray, List.getElem_cons_succ, List.getElem_cons_zero, Act.put, List.setIfInBounds_toArray, List.set_cons_zero, List.set_cons_succ]
  refine wpAnyH_ready (rs := [8]) (by kernel_rfl) (by simp) ?_
  refine AllReadyH.cons rfl (fun K hK => ?_) AllReadyH.nil
  simp only [List.getElem_toArray, List.getElem_cons_succ, List.getElem_cons_zero]
  go_simp
  go_at_call 30
  refine (ev.out _ hb6).mono ?_
  rintro e w7 ⟨rfl, ht, hb7⟩
  refine hK.out _ _ (hcc.out _ hb7) (fun hHeld => ?_)
  clear hK K
  (try simp only [List.getElem_toArray, List.getElem_cons_succ, List.getElem_cons_zero, Act.put, List.setIfInBounds_toArray, List.set_cons_zero, List.set_cons_succ])
  apply wpAnyH_take (i := 11) rfl (by kernel_rfl) (by kernel_rfl) (by kernel_rfl)
  case hQ => exact fun _ _ _ h => h
  case hS => exact hHeld
  case hy => (refine Or.inl ⟨by rfl, ?_⟩; intro w hSw; go_split_ands; go_simp; (try with_reducible rfl))
  simp only [List.getElem_toArray, List.getElem_cons_succ, List.getElem_cons_zero, Act.put, List.setIfInBounds_toArray, List.set_cons_zero, List.set_cons_succ]
  refine wpAnyH_ready (rs := [12]) (by kernel_rfl) (by simp) ?_
  refine AllReadyH.cons rfl (fun K hK => ?_) AllReadyH.nil
  simp only [List.getElem_toArray, List.getElem_cons_succ, List.getElem_cons_zero]
  go_simp
  refine hK.out _ _ (hcc.out _ hb7) (fun hHeld => ?_)
  clear hK K
  (try simp only [List.getElem_toArray, List.getElem_cons_succ, List.getElem_cons_zero, Act.put, List.setIfInBounds_toArray, List.set_cons_zero, List.set_cons_succ])
  refine wpAnyH_ready (rs := [14]) (by kernel_rfl) (by simp) ?_
  refine AllReadyH.cons rfl (fun K hK => ?_) AllReadyH.nil
  simp only [List.getElem_toArray, List.getElem_cons_succ, List.getElem_cons_zero]
  go_simp
  refine (me.out _ hb7).mono ?_
  rintro e w8 ⟨rfl, hb8⟩
  refine hK.out _ _ (hcc.out _ hb8) (fun hHeld => ?_)
  clear hK K
  (try simp only [List.getElem_toArray, List.getElem_cons_succ, List.getElem_cons_zero, Act.put, List.setIfInBounds_toArray, List.set_cons_zero, List.set_cons_succ])
  apply wpAnyH_take (i := 15) rfl (by kernel_rfl) (by kernel_rfl) (by kernel_rfl)
  case hQ => exact fun _ _ _ h => h
  case hS => exact hHeld
  case hy => (refine Or.inl ⟨by rfl, ?_⟩; intro w hSw; go_split_ands; go_simp; (try with_reducible rfl))
  simp only [List.getElem_toArray, List.getElem_cons_succ, List.getElem_cons_zero, Act.put, List.setIfInBounds_toArray, List.set_cons_zero, List.set_cons_succ]
  apply wpAnyH_take (i := 16) rfl (by kernel_rfl) (by kernel_rfl) (by kernel_rfl)
  case hQ => exact fun _ _ _ h => h
  case hS => exact hHeld
  case hy => (refine Or.inl ⟨by rfl, ?_⟩; intro w hSw; go_split_ands; go_simp; (try with_reducible rfl))
  simp only [List.getElem_toArray, List.getElem_cons_succ, List.getElem_cons_zero, Act.put, List.setIfInBounds_toArray, List.set_cons_zero, List.set_cons_succ]
  refine wpAnyH_done (by kernel_rfl) ?_ _
  have HF := Lib.hid (HB4.out.trans (hb8.mono HB4.out.size))
  clear hb5 hb6 hb7 hb8 hHeld
  go_wp2
  go_ret
  exact ⟨rfl, HF.out⟩
set_option maxRecDepth 100000 in
set_option maxHeartbeats 4000000 in
theorem hholds_bad (k : Int) (pm : Nat) (pl ph pu : Int) (pn : List B8) (cz cl cm : Int) (cn : List B8) (w : World)
    (hv : ∀ W, Calls Try.prog 29 #[.agg (prow k pm pl ph pn pu)] W fun e w' => e = .returned (.bool false) ∧ Below W.heap.size W w') :
    Calls Try.prog 15 #[.agg (prow k pm pl ph pn pu), .agg (crow cz cl cm cn)] w fun e w' => e = .returned (.bool false) ∧ Below w.heap.size w w' := by
  have hbx : Below w.heap.size w ((w.alloc (.cells (prow k pm pl ph pn pu) 35)).alloc (.cells (crow cz cl cm cn) 23)) := two_below _ _ _
  have hP : PRow ((w.alloc (.cells (prow k pm pl ph pn pu) 35)).alloc (.cells (crow cz cl cm cn) 23)) w.heap.size k pm pl ph pn pu := (Whole.here w _ _).alloc _
  have hC : CRow ((w.alloc (.cells (prow k pm pl ph pn pu) 35)).alloc (.cells (crow cz cl cm cn) 23)) (w.heap.size + 1) cz cl cm cn := Whole.at_ _ _ _ _ (by simp)
  go_enter Try.func15, Try.ntmps15
  go_wp2_with fail
  obtain ⟨w4, hw4⟩ : ∃ w4, w4 = (w.alloc (.cells (prow k pm pl ph pn pu) 35)).alloc (.cells (crow cz cl cm cn) 23) := ⟨_, rfl⟩
  rw [← hw4] at hbx hP hC
  show Code.wp _ _ _ _ ((w.alloc (.cells (prow k pm pl ph pn pu) 35)).alloc (.cells (crow cz cl cm cn) 23))
  rw [← hw4]
  clear hw4
  have hlp : w.heap.size < w4.heap.size := Whole.lt hP
  have hlc : w.heap.size + 1 < w4.heap.size := Whole.lt hC
  have hcc : Hid (∀ W, Below w4.heap.size w4 W → (W.cell? ⟨w.heap.size, 0, none⟩ = some (.int .i64 k) ∧ W.cell? ⟨w.heap.size, 1, none⟩ = some (.int .u64 (pm : Int)) ∧ W.cell? ⟨w.heap.size, 2, none⟩ = some (.int .i64 pl) ∧ W.cell? ⟨w.heap.size, 3, none⟩ = some (.int .i64 ph) ∧ W.cell? ⟨w.heap.size, 4, none⟩ = some (.string (sof pn)) ∧ W.cell? ⟨w.heap.size, 5, none⟩ = some (.int .i64 pu) ∧ W.cell? ⟨w.heap.size + 1, 0, none⟩ = some (.int .i64 cz) ∧ W.cell? ⟨w.heap.size + 1, 1, none⟩ = some (.int .i64 cl) ∧ W.cell? ⟨w.heap.size + 1, 2, none⟩ = some (.int .i64 cm) ∧ W.cell? ⟨w.heap.size + 1, 3, none⟩ = some (.string (sof cn)))) := Lib.hid fun W hb => by
    obtain ⟨a0, a1, a2, a3, a4, a5⟩ := PRow.cells (Whole.below hP hb hlp)
    obtain ⟨b0, b1, b2, b3⟩ := CRow.cells (Whole.below hC hb hlc)
    exact ⟨a0, a1, a2, a3, a4, a5, b0, b1, b2, b3⟩
  have HB4 := Lib.hid hbx
  clear hP hC hbx
  have av := fun W (hb : Below w4.heap.size w4 W) => (hv W).mono fun _ _ h => And.intro h.1 (hb.trans (h.2.mono hb.size))
  clear hv
  refine wp_region_held_drew (S := fun W => W.cell? ⟨w.heap.size, 0, none⟩ = some (.int .i64 k) ∧ W.cell? ⟨w.heap.size, 1, none⟩ = some (.int .u64 (pm : Int)) ∧ W.cell? ⟨w.heap.size, 2, none⟩ = some (.int .i64 pl) ∧ W.cell? ⟨w.heap.size, 3, none⟩ = some (.int .i64 ph) ∧ W.cell? ⟨w.heap.size, 4, none⟩ = some (.string (sof pn)) ∧ W.cell? ⟨w.heap.size, 5, none⟩ = some (.int .i64 pu) ∧ W.cell? ⟨w.heap.size + 1, 0, none⟩ = some (.int .i64 cz) ∧ W.cell? ⟨w.heap.size + 1, 1, none⟩ = some (.int .i64 cl) ∧ W.cell? ⟨w.heap.size + 1, 2, none⟩ = some (.int .i64 cm) ∧ W.cell? ⟨w.heap.size + 1, 3, none⟩ = some (.string (sof cn))) (by kernel_rfl) (hcc.out _ (Below.refl _ _).drew) (fun hHeld => ?_)
  apply wpAnyH_take (i := 0) rfl (by kernel_rfl) (by kernel_rfl) (by kernel_rfl)
  case hQ => exact fun _ _ _ h => h
  case hS => exact hHeld
  case hy => (refine Or.inl ⟨by rfl, ?_⟩; intro w hSw; go_split_ands; go_simp; (try with_reducible rfl))
  simp only [List.getElem_toArray, List.getElem_cons_zero, Act.put, List.setIfInBounds_toArray, List.set_cons_zero, List.set_cons_succ]
  refine wpAnyH_ready (rs := [1]) (by kernel_rfl) (by simp) ?_
  refine AllReadyH.cons rfl (fun K hK => ?_) AllReadyH.nil
  simp only [List.getElem_toArray, List.getElem_cons_succ, List.getElem_cons_zero]
  go_simp
  go_at_call 29
  refine (av _ (Below.refl _ _).drew).mono ?_
  rintro e w5 ⟨rfl, hb5⟩
  refine hK.out _ _ (hcc.out _ hb5) (fun hHeld => ?_)
  clear hK K
  (try simp only [List.getElem_toArray, List.getElem_cons_succ, List.getElem_cons_zero, Act.put, List.setIfInBounds_toArray, List.set_cons_zero, List.set_cons_succ])
  apply wpAnyH_take (i := 2) rfl (by kernel_rfl) (by kernel_rfl) (by kernel_rfl)
  case hQ => exact fun _ _ _ h => h
  case hS => exact hHeld
  case hy => (refine Or.inl ⟨by rfl, ?_⟩; intro w hSw; go_split_ands; go_simp; (try with_reducible rfl))
  simp only [List.getElem_toArray, List.getElem_cons_succ, List.getElem_cons_zero, Act.put, List.setIfInBounds_toArray, List.set_cons_zero, List.set_cons_succ]
  apply wpAnyH_take (i := 3) rfl (by kernel_rfl) (by kernel_rfl) (by kernel_rfl)
  case hQ => exact fun _ _ _ h => h
  case hS => exact hHeld
  case hy => exact Or.inr ⟨by rfl, rfl⟩
  simp only [List.getElem_toArray, List.getElem_cons_succ, List.getElem_cons_zero, Act.put, List.setIfInBounds_toArray, List.set_cons_zero, List.set_cons_succ]
  apply wpAnyH_take (i := 4) rfl (by kernel_rfl) (by kernel_rfl) (by kernel_rfl)
  case hQ => exact fun _ _ _ h => h
  case hS => exact hHeld
  case hy => exact Or.inr ⟨by rfl, rfl⟩
  simp only [List.getElem_toArray, List.getElem_cons_succ, List.getElem_cons_zero, Act.put, List.setIfInBounds_toArray, List.set_cons_zero, List.set_cons_succ]
  apply wpAnyH_take (i := 5) rfl (by kernel_rfl) (by kernel_rfl) (by kernel_rfl)
  case hQ => exact fun _ _ _ h => h
  case hS => exact hHeld
  case hy => (refine Or.inl ⟨by rfl, ?_⟩; intro w hSw; go_split_ands; go_simp; (try with_reducible rfl))
  simp only [List.getElem_toArray, List.getElem_cons_succ, List.getElem_cons_zero, Act.put, List.setIfInBounds_toArray, List.set_cons_zero, List.set_cons_succ]
  apply wpAnyH_take (i := 6) rfl (by kernel_rfl) (by kernel_rfl) (by kernel_rfl)
  case hQ => exact fun _ _ _ h => h
  case hS => exact hHeld
  case hy => (refine Or.inl ⟨by rfl, ?_⟩; intro w hSw; go_split_ands; go_simp; (try with_reducible rfl))
  simp only [List.getElem_toArray, List.getElem_cons_succ, List.getElem_cons_zero, Act.put, List.setIfInBounds_toArray, List.set_cons_zero, List.set_cons_succ]
  apply wpAnyH_take (i := 7) rfl (by kernel_rfl) (by kernel_rfl) (by kernel_rfl)
  case hQ => exact fun _ _ _ h => h
  case hS => exact hHeld
  case hy => exact Or.inr ⟨by rfl, rfl⟩
  simp only [List.getElem_toArray, List.getElem_cons_succ, List.getElem_cons_zero, Act.put, List.setIfInBounds_toArray, List.set_cons_zero, List.set_cons_succ]
  apply wpAnyH_take (i := 8) rfl (by kernel_rfl) (by kernel_rfl) (by kernel_rfl)
  case hQ => exact fun _ _ _ h => h
  case hS => exact hHeld
  case hy => exact Or.inr ⟨by rfl, rfl⟩
  simp only [List.getElem_toArray, List.getElem_cons_succ, List.getElem_cons_zero, Act.put, List.setIfInBounds_toArray, List.set_cons_zero, List.set_cons_succ]
  apply wpAnyH_take (i := 9) rfl (by kernel_rfl) (by kernel_rfl) (by kernel_rfl)
  case hQ => exact fun _ _ _ h => h
  case hS => exact hHeld
  case hy => exact Or.inr ⟨by rfl, rfl⟩
  simp only [List.getElem_toArray, List.getElem_cons_succ, List.getElem_cons_zero, Act.put, List.setIfInBounds_toArray, List.set_cons_zero, List.set_cons_succ]
  apply wpAnyH_take (i := 10) rfl (by kernel_rfl) (by kernel_rfl) (by kernel_rfl)
  case hQ => exact fun _ _ _ h => h
  case hS => exact hHeld
  case hy => exact Or.inr ⟨by rfl, rfl⟩
  simp only [List.getElem_toArray, List.getElem_cons_succ, List.getElem_cons_zero, Act.put, List.setIfInBounds_toArray, List.set_cons_zero, List.set_cons_succ]
  apply wpAnyH_take (i := 11) rfl (by kernel_rfl) (by kernel_rfl) (by kernel_rfl)
  case hQ => exact fun _ _ _ h => h
  case hS => exact hHeld
  case hy => exact Or.inr ⟨by rfl, rfl⟩
  simp only [List.getElem_toArray, List.getElem_cons_succ, List.getElem_cons_zero, Act.put, List.setIfInBounds_toArray, List.set_cons_zero, List.set_cons_succ]
  apply wpAnyH_take (i := 12) rfl (by kernel_rfl) (by kernel_rfl) (by kernel_rfl)
  case hQ => exact fun _ _ _ h => h
  case hS => exact hHeld
  case hy => exact Or.inr ⟨by rfl, rfl⟩
  simp only [List.getElem_toArray, List.getElem_cons_succ, List.getElem_cons_zero, Act.put, List.setIfInBounds_toArray, List.set_cons_zero, List.set_cons_succ]
  apply wpAnyH_take (i := 13) rfl (by kernel_rfl) (by kernel_rfl) (by kernel_rfl)
  case hQ => exact fun _ _ _ h => h
  case hS => exact hHeld
  case hy => exact Or.inr ⟨by rfl, rfl⟩
  simp only [List.getElem_toArray, List.getElem_cons_succ, List.getElem_cons_zero, Act.put, List.setIfInBounds_toArray, List.set_cons_zero, List.set_cons_succ]
  apply wpAnyH_take (i := 14) rfl (by kernel_rfl) (by kernel_rfl) (by kernel_rfl)
  case hQ => exact fun _ _ _ h => h
  case hS => exact hHeld
  case hy => exact Or.inr ⟨by rfl, rfl⟩
  simp only [List.getElem_toArray, List.getElem_cons_succ, List.getElem_cons_zero, Act.put, List.setIfInBounds_toArray, List.set_cons_zero, List.set_cons_succ]
  apply wpAnyH_take (i := 15) rfl (by kernel_rfl) (by kernel_rfl) (by kernel_rfl)
  case hQ => exact fun _ _ _ h => h
  case hS => exact hHeld
  case hy => (refine Or.inl ⟨by rfl, ?_⟩; intro w hSw; go_split_ands; go_simp; (try with_reducible rfl))
  simp only [List.getElem_toArray, List.getElem_cons_succ, List.getElem_cons_zero, Act.put, List.setIfInBounds_toArray, List.set_cons_zero, List.set_cons_succ]
  apply wpAnyH_take (i := 16) rfl (by kernel_rfl) (by kernel_rfl) (by kernel_rfl)
  case hQ => exact fun _ _ _ h => h
  case hS => exact hHeld
  case hy => (refine Or.inl ⟨by rfl, ?_⟩; intro w hSw; go_split_ands; go_simp; (try with_reducible rfl))
  simp only [List.getElem_toArray, List.getElem_cons_succ, List.getElem_cons_zero, Act.put, List.setIfInBounds_toArray, List.set_cons_zero, List.set_cons_succ]
  refine wpAnyH_done (by kernel_rfl) ?_ _
  have HF := Lib.hid (HB4.out.trans (hb5.mono HB4.out.size))
  clear hb5
  go_wp2
  go_ret
  exact ⟨rfl, HF.out⟩
set_option maxRecDepth 100000 in
set_option maxHeartbeats 4000000 in
theorem hholds_off (k : Int) (pm : Nat) (pl ph pu : Int) (pn : List B8) (cz cl cm : Int) (cn : List B8) (w : World)
    (hv : ∀ W, Calls Try.prog 29 #[.agg (prow k pm pl ph pn pu)] W fun e w' => e = .returned (.bool true) ∧ Below W.heap.size W w')
    (hcv : ∀ W, Calls Try.prog 11 #[.agg (crow cz cl cm cn)] W fun e w' => e = .returned (.bool false) ∧ Below W.heap.size W w') :
    Calls Try.prog 15 #[.agg (prow k pm pl ph pn pu), .agg (crow cz cl cm cn)] w fun e w' => e = .returned (.bool false) ∧ Below w.heap.size w w' := by
  have hbx : Below w.heap.size w ((w.alloc (.cells (prow k pm pl ph pn pu) 35)).alloc (.cells (crow cz cl cm cn) 23)) := two_below _ _ _
  have hP : PRow ((w.alloc (.cells (prow k pm pl ph pn pu) 35)).alloc (.cells (crow cz cl cm cn) 23)) w.heap.size k pm pl ph pn pu := (Whole.here w _ _).alloc _
  have hC : CRow ((w.alloc (.cells (prow k pm pl ph pn pu) 35)).alloc (.cells (crow cz cl cm cn) 23)) (w.heap.size + 1) cz cl cm cn := Whole.at_ _ _ _ _ (by simp)
  go_enter Try.func15, Try.ntmps15
  go_wp2_with fail
  obtain ⟨w4, hw4⟩ : ∃ w4, w4 = (w.alloc (.cells (prow k pm pl ph pn pu) 35)).alloc (.cells (crow cz cl cm cn) 23) := ⟨_, rfl⟩
  rw [← hw4] at hbx hP hC
  show Code.wp _ _ _ _ ((w.alloc (.cells (prow k pm pl ph pn pu) 35)).alloc (.cells (crow cz cl cm cn) 23))
  rw [← hw4]
  clear hw4
  have hlp : w.heap.size < w4.heap.size := Whole.lt hP
  have hlc : w.heap.size + 1 < w4.heap.size := Whole.lt hC
  have hcc : Hid (∀ W, Below w4.heap.size w4 W → (W.cell? ⟨w.heap.size, 0, none⟩ = some (.int .i64 k) ∧ W.cell? ⟨w.heap.size, 1, none⟩ = some (.int .u64 (pm : Int)) ∧ W.cell? ⟨w.heap.size, 2, none⟩ = some (.int .i64 pl) ∧ W.cell? ⟨w.heap.size, 3, none⟩ = some (.int .i64 ph) ∧ W.cell? ⟨w.heap.size, 4, none⟩ = some (.string (sof pn)) ∧ W.cell? ⟨w.heap.size, 5, none⟩ = some (.int .i64 pu) ∧ W.cell? ⟨w.heap.size + 1, 0, none⟩ = some (.int .i64 cz) ∧ W.cell? ⟨w.heap.size + 1, 1, none⟩ = some (.int .i64 cl) ∧ W.cell? ⟨w.heap.size + 1, 2, none⟩ = some (.int .i64 cm) ∧ W.cell? ⟨w.heap.size + 1, 3, none⟩ = some (.string (sof cn)))) := Lib.hid fun W hb => by
    obtain ⟨a0, a1, a2, a3, a4, a5⟩ := PRow.cells (Whole.below hP hb hlp)
    obtain ⟨b0, b1, b2, b3⟩ := CRow.cells (Whole.below hC hb hlc)
    exact ⟨a0, a1, a2, a3, a4, a5, b0, b1, b2, b3⟩
  have HB4 := Lib.hid hbx
  clear hP hC hbx
  have av := fun W (hb : Below w4.heap.size w4 W) => (hv W).mono fun _ _ h => And.intro h.1 (hb.trans (h.2.mono hb.size))
  have bv := fun W (hb : Below w4.heap.size w4 W) => (hcv W).mono fun _ _ h => And.intro h.1 (hb.trans (h.2.mono hb.size))
  clear hv hcv
  refine wp_region_held_drew (S := fun W => W.cell? ⟨w.heap.size, 0, none⟩ = some (.int .i64 k) ∧ W.cell? ⟨w.heap.size, 1, none⟩ = some (.int .u64 (pm : Int)) ∧ W.cell? ⟨w.heap.size, 2, none⟩ = some (.int .i64 pl) ∧ W.cell? ⟨w.heap.size, 3, none⟩ = some (.int .i64 ph) ∧ W.cell? ⟨w.heap.size, 4, none⟩ = some (.string (sof pn)) ∧ W.cell? ⟨w.heap.size, 5, none⟩ = some (.int .i64 pu) ∧ W.cell? ⟨w.heap.size + 1, 0, none⟩ = some (.int .i64 cz) ∧ W.cell? ⟨w.heap.size + 1, 1, none⟩ = some (.int .i64 cl) ∧ W.cell? ⟨w.heap.size + 1, 2, none⟩ = some (.int .i64 cm) ∧ W.cell? ⟨w.heap.size + 1, 3, none⟩ = some (.string (sof cn))) (by kernel_rfl) (hcc.out _ (Below.refl _ _).drew) (fun hHeld => ?_)
  apply wpAnyH_take (i := 0) rfl (by kernel_rfl) (by kernel_rfl) (by kernel_rfl)
  case hQ => exact fun _ _ _ h => h
  case hS => exact hHeld
  case hy => (refine Or.inl ⟨by rfl, ?_⟩; intro w hSw; go_split_ands; go_simp; (try with_reducible rfl))
  simp only [List.getElem_toArray, List.getElem_cons_zero, Act.put, List.setIfInBounds_toArray, List.set_cons_zero, List.set_cons_succ]
  refine wpAnyH_ready (rs := [1]) (by kernel_rfl) (by simp) ?_
  refine AllReadyH.cons rfl (fun K hK => ?_) AllReadyH.nil
  simp only [List.getElem_toArray, List.getElem_cons_succ, List.getElem_cons_zero]
  go_simp
  go_at_call 29
  refine (av _ (Below.refl _ _).drew).mono ?_
  rintro e w5 ⟨rfl, hb5⟩
  refine hK.out _ _ (hcc.out _ hb5) (fun hHeld => ?_)
  clear hK K
  (try simp only [List.getElem_toArray, List.getElem_cons_succ, List.getElem_cons_zero, Act.put, List.setIfInBounds_toArray, List.set_cons_zero, List.set_cons_succ])
  apply wpAnyH_take (i := 2) rfl (by kernel_rfl) (by kernel_rfl) (by kernel_rfl)
  case hQ => exact fun _ _ _ h => h
  case hS => exact hHeld
  case hy => (refine Or.inl ⟨by rfl, ?_⟩; intro w hSw; go_split_ands; go_simp; (try with_reducible rfl))
  simp only [List.getElem_toArray, List.getElem_cons_succ, List.getElem_cons_zero, Act.put, List.setIfInBounds_toArray, List.set_cons_zero, List.set_cons_succ]
  apply wpAnyH_take (i := 3) rfl (by kernel_rfl) (by kernel_rfl) (by kernel_rfl)
  case hQ => exact fun _ _ _ h => h
  case hS => exact hHeld
  case hy => (refine Or.inl ⟨by rfl, ?_⟩; intro w hSw; go_split_ands; go_simp; (try with_reducible rfl))
  simp only [List.getElem_toArray, List.getElem_cons_succ, List.getElem_cons_zero, Act.put, List.setIfInBounds_toArray, List.set_cons_zero, List.set_cons_succ]
  refine wpAnyH_ready (rs := [4]) (by kernel_rfl) (by simp) ?_
  refine AllReadyH.cons rfl (fun K hK => ?_) AllReadyH.nil
  simp only [List.getElem_toArray, List.getElem_cons_succ, List.getElem_cons_zero]
  go_simp
  go_at_call 11
  refine (bv _ hb5).mono ?_
  rintro e w6 ⟨rfl, hb6⟩
  refine hK.out _ _ (hcc.out _ hb6) (fun hHeld => ?_)
  clear hK K
  (try simp only [List.getElem_toArray, List.getElem_cons_succ, List.getElem_cons_zero, Act.put, List.setIfInBounds_toArray, List.set_cons_zero, List.set_cons_succ])
  apply wpAnyH_take (i := 5) rfl (by kernel_rfl) (by kernel_rfl) (by kernel_rfl)
  case hQ => exact fun _ _ _ h => h
  case hS => exact hHeld
  case hy => (refine Or.inl ⟨by rfl, ?_⟩; intro w hSw; go_split_ands; go_simp; (try with_reducible rfl))
  simp only [List.getElem_toArray, List.getElem_cons_succ, List.getElem_cons_zero, Act.put, List.setIfInBounds_toArray, List.set_cons_zero, List.set_cons_succ]
  apply wpAnyH_take (i := 6) rfl (by kernel_rfl) (by kernel_rfl) (by kernel_rfl)
  case hQ => exact fun _ _ _ h => h
  case hS => exact hHeld
  case hy => (refine Or.inl ⟨by rfl, ?_⟩; intro w hSw; go_split_ands; go_simp; (try with_reducible rfl))
  simp only [List.getElem_toArray, List.getElem_cons_succ, List.getElem_cons_zero, Act.put, List.setIfInBounds_toArray, List.set_cons_zero, List.set_cons_succ]
  apply wpAnyH_take (i := 7) rfl (by kernel_rfl) (by kernel_rfl) (by kernel_rfl)
  case hQ => exact fun _ _ _ h => h
  case hS => exact hHeld
  case hy => exact Or.inr ⟨by rfl, rfl⟩
  simp only [List.getElem_toArray, List.getElem_cons_succ, List.getElem_cons_zero, Act.put, List.setIfInBounds_toArray, List.set_cons_zero, List.set_cons_succ]
  apply wpAnyH_take (i := 8) rfl (by kernel_rfl) (by kernel_rfl) (by kernel_rfl)
  case hQ => exact fun _ _ _ h => h
  case hS => exact hHeld
  case hy => exact Or.inr ⟨by rfl, rfl⟩
  simp only [List.getElem_toArray, List.getElem_cons_succ, List.getElem_cons_zero, Act.put, List.setIfInBounds_toArray, List.set_cons_zero, List.set_cons_succ]
  apply wpAnyH_take (i := 9) rfl (by kernel_rfl) (by kernel_rfl) (by kernel_rfl)
  case hQ => exact fun _ _ _ h => h
  case hS => exact hHeld
  case hy => exact Or.inr ⟨by rfl, rfl⟩
  simp only [List.getElem_toArray, List.getElem_cons_succ, List.getElem_cons_zero, Act.put, List.setIfInBounds_toArray, List.set_cons_zero, List.set_cons_succ]
  apply wpAnyH_take (i := 10) rfl (by kernel_rfl) (by kernel_rfl) (by kernel_rfl)
  case hQ => exact fun _ _ _ h => h
  case hS => exact hHeld
  case hy => exact Or.inr ⟨by rfl, rfl⟩
  simp only [List.getElem_toArray, List.getElem_cons_succ, List.getElem_cons_zero, Act.put, List.setIfInBounds_toArray, List.set_cons_zero, List.set_cons_succ]
  apply wpAnyH_take (i := 11) rfl (by kernel_rfl) (by kernel_rfl) (by kernel_rfl)
  case hQ => exact fun _ _ _ h => h
  case hS => exact hHeld
  case hy => exact Or.inr ⟨by rfl, rfl⟩
  simp only [List.getElem_toArray, List.getElem_cons_succ, List.getElem_cons_zero, Act.put, List.setIfInBounds_toArray, List.set_cons_zero, List.set_cons_succ]
  apply wpAnyH_take (i := 12) rfl (by kernel_rfl) (by kernel_rfl) (by kernel_rfl)
  case hQ => exact fun _ _ _ h => h
  case hS => exact hHeld
  case hy => exact Or.inr ⟨by rfl, rfl⟩
  simp only [List.getElem_toArray, List.getElem_cons_succ, List.getElem_cons_zero, Act.put, List.setIfInBounds_toArray, List.set_cons_zero, List.set_cons_succ]
  apply wpAnyH_take (i := 13) rfl (by kernel_rfl) (by kernel_rfl) (by kernel_rfl)
  case hQ => exact fun _ _ _ h => h
  case hS => exact hHeld
  case hy => exact Or.inr ⟨by rfl, rfl⟩
  simp only [List.getElem_toArray, List.getElem_cons_succ, List.getElem_cons_zero, Act.put, List.setIfInBounds_toArray, List.set_cons_zero, List.set_cons_succ]
  apply wpAnyH_take (i := 14) rfl (by kernel_rfl) (by kernel_rfl) (by kernel_rfl)
  case hQ => exact fun _ _ _ h => h
  case hS => exact hHeld
  case hy => exact Or.inr ⟨by rfl, rfl⟩
  simp only [List.getElem_toArray, List.getElem_cons_succ, List.getElem_cons_zero, Act.put, List.setIfInBounds_toArray, List.set_cons_zero, List.set_cons_succ]
  apply wpAnyH_take (i := 15) rfl (by kernel_rfl) (by kernel_rfl) (by kernel_rfl)
  case hQ => exact fun _ _ _ h => h
  case hS => exact hHeld
  case hy => (refine Or.inl ⟨by rfl, ?_⟩; intro w hSw; go_split_ands; go_simp; (try with_reducible rfl))
  simp only [List.getElem_toArray, List.getElem_cons_succ, List.getElem_cons_zero, Act.put, List.setIfInBounds_toArray, List.set_cons_zero, List.set_cons_succ]
  apply wpAnyH_take (i := 16) rfl (by kernel_rfl) (by kernel_rfl) (by kernel_rfl)
  case hQ => exact fun _ _ _ h => h
  case hS => exact hHeld
  case hy => (refine Or.inl ⟨by rfl, ?_⟩; intro w hSw; go_split_ands; go_simp; (try with_reducible rfl))
  simp only [List.getElem_toArray, List.getElem_cons_succ, List.getElem_cons_zero, Act.put, List.setIfInBounds_toArray, List.set_cons_zero, List.set_cons_succ]
  refine wpAnyH_done (by kernel_rfl) ?_ _
  have HF := Lib.hid (HB4.out.trans (hb6.mono HB4.out.size))
  clear hb6
  go_wp2
  go_ret
  exact ⟨rfl, HF.out⟩
/-- Holds. -/
theorem hholds (p : Prd) (c : Ctx) (hm : p.mask < 18446744073709551616) (hn : p.name.length ≤ 9223372036854775807) (hc : c.holder.length ≤ 9223372036854775807) (w : World) :
    Calls Try.prog 15 #[pv p, cv c] w fun e w' => e = .returned (.bool (decide (hd p c))) ∧ Below w.heap.size w w' := by
  have hv := fun W => pvalid p hm hn W
  have hcv := fun W => h_valid c hc W
  obtain ⟨k, m, lo, hi, nm, nu⟩ := p
  obtain ⟨z, l, mi, h⟩ := c
  unfold pv at hv ⊢
  unfold cv at hcv ⊢
  simp only at hv hcv hm hn hc ⊢
  by_cases hp : pok ⟨k, m, lo, hi, nm, nu⟩
  case neg =>
    rw [decide_eq_false hp] at hv
    rw [decide_eq_false (fun q : hd _ _ => hp q.1)]
    exact hholds_bad k m lo hi nu nm z l mi h w hv
  rw [decide_eq_true hp] at hv
  by_cases hk : cok ⟨z, l, mi, h⟩
  case neg =>
    rw [decide_eq_false hk] at hcv
    rw [decide_eq_false (fun q : hd _ _ => hk q.2.1)]
    exact hholds_off k m lo hi nu nm z l mi h w hv hcv
  rw [decide_eq_true hk] at hcv
  obtain ⟨⟨z0, z1⟩, ⟨l0, l1⟩, ⟨m0, m1⟩, hnm⟩ := id hk
  simp only at z0 z1 l0 l1 m0 m1 hnm
  have hkk := pok_kind hp
  simp only at hkk
  obtain ⟨k, rfl⟩ := Int.eq_ofNat_of_zero_le (show 0 ≤ k by omega)
  have ha : decide (hd ⟨(k : Int), m, lo, hi, nm, nu⟩ ⟨z, l, mi, h⟩) = decide (asks ⟨(k : Int), m, lo, hi, nm, nu⟩ ⟨z, l, mi, h⟩) := decide_eq_decide.2 ⟨fun q => q.2.2, fun q => ⟨hp, hk, q⟩⟩
  rw [ha]
  refine hholds_in k (by omega) (by omega) m lo hi nu nm z l mi h _ w hv hcv fun W => ?_
  clear ha hv hcv
  rcases (by omega : k = 1 ∨ k = 2 ∨ k = 3 ∨ k = 4 ∨ k = 5 ∨ k = 6 ∨ k = 7) with rfl | rfl | rfl | rfl | rfl | rfl | rfl
  · exact in_zone z l mi h _ lo hi nu m nm hm z0 (by omega) W
  · exact on_line z l mi h _ lo hi nu m nm hm l0 (by omega) W
  · exact on_days z l mi h _ lo hi nu m nm hm m0 m1 _ rfl W
  · exact in_time z l mi h _ lo hi nu m nm _ rfl W
  · exact in_daily z l mi h _ lo hi nu m nm m0 _ rfl W
  · exact by_holder z l mi h _ lo hi nu m nm _ rfl W
  · exact always_ z l mi h _ lo hi nu m nm W
end Go.Proofs.Ytbbkjdckogcbgaa
namespace Go.Proofs.Ytbbkjdckogcbgaa
open Go Go.RowKit Sh Leaf

theorem sof_a : sof [97] = { data := #[97] } := by unfold sof; rfl
set_option maxRecDepth 100000 in
set_option maxHeartbeats 1000000 in
theorem hawake (w : World) : Calls Try.prog 13 #[] w fun e w' => e = .returned (.bool true) ∧ Below w.heap.size w w' := by
  have h1 := fun W => hholds ⟨5, 0, 1380, 300, [], 0⟩ ⟨0, 0, 10, [97]⟩ (by decide) (by simp) (by simp) W
  rw [show decide (hd ⟨5, 0, 1380, 300, [], 0⟩ ⟨0, 0, 10, [97]⟩) = true by decide +kernel] at h1
  have h2 := fun W => hholds ⟨5, 0, 1380, 300, [], 0⟩ ⟨0, 0, 600, [97]⟩ (by decide) (by simp) (by simp) W
  rw [show decide (hd ⟨5, 0, 1380, 300, [], 0⟩ ⟨0, 0, 600, [97]⟩) = false by decide +kernel] at h2
  unfold pv cv at h1 h2
  simp only [sof_a, sof_none] at h1 h2
  go_enter Try.func13, Try.ntmps13
  go_wp2_with fail
  refine (h1 _).mono ?_
  rintro e w1 ⟨rfl, hb1⟩
  have hP : Whole w1 w.heap.size 35 _ := (Whole.here w 35 _).below hb1 (by simp)
  obtain ⟨c0, c1, c2, c3, c4, c5⟩ := And.intro (hP.cell 0) (And.intro (hP.cell 1) (And.intro (hP.cell 2) (And.intro (hP.cell 3) (And.intro (hP.cell 4) (hP.cell 5)))))
  have HB := Lib.hid (one_below hb1)
  clear hP hb1 h1
  go_wp2_with fail
  refine (h2 _).mono ?_
  rintro e w2 ⟨rfl, hb2⟩
  have HB2 := Lib.hid (HB.out.trans (hb2.mono HB.out.size))
  clear hb2 h2
  go_wp2
  go_ret
  exact ⟨rfl, HB2.out⟩
end Go.Proofs.Ytbbkjdckogcbgaa
