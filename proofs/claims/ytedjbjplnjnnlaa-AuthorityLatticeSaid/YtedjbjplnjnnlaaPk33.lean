/-
  Package holds: hasBit, and the methods of a ride, one for each kind.
  Package holds: the table of method values.
-/
import Derived.Test.YtedjbjplnjnnlaaPk7
namespace Go.Proofs.Ytedjbjplnjnnlaa
open Go Go.RowKit Sh Leaf

theorem has_bit (m : Nat) (z : Int) (hm : m < 18446744073709551616) (h0 : 0 ≤ z) (h1 : z < 64) (w : World) :
    Calls Try.prog 89 #[.int .u64 (m : Int), .int .i64 z] w fun e w' => e = .returned (.bool (decide (hbit m z))) ∧ w = w' := by
  obtain ⟨i, rfl⟩ := Int.eq_ofNat_of_zero_le h0
  have hb := bit_and m i hm
  have HD : Hid (decide (m / 2 ^ i % 2 = 1) = decide (hbit m (i : Int))) := Lib.hid (decide_eq_decide.2 (by unfold hbit; rw [Int.toNat_natCast]))
  generalize decide (m / 2 ^ i % 2 = 1) = D at *
  clear hm
  go_enter Try.func89, Try.ntmps89
  go_wp2
  go_ret
  exact ⟨by rw [← HD.out]; rfl, rfl⟩
theorem two_below (w : World) (o1 o2 : Obj) : Below w.heap.size w ((w.alloc o1).alloc o2) := ((Below.refl w.heap.size w).alloc (Nat.le_refl _) o1).alloc (by simp) o2
theorem in_zone (z l mi : Int) (nm : List B8) (k lo hi nu : Int) (m : Nat) (pn : List B8) (hm : m < 18446744073709551616) (h0 : 0 ≤ z) (h1 : z < 64) (w : World) :
    Calls Try.prog 73 #[.agg (crow z l mi nm), .agg (prow k m lo hi pn nu)] w fun e w' => e = .returned (.bool (decide (hbit m z))) ∧ Below w.heap.size w w' := by
  have hb := fun W => has_bit m z hm h0 h1 W
  clear hm h0 h1
  go_enter Try.func73, Try.ntmps73
  go_wp2_with fail
  refine (hb _).mono ?_
  rintro e w' ⟨rfl, rfl⟩
  go_wp2
  go_ret
  exact ⟨rfl, two_below _ _ _⟩
theorem on_line (z l mi : Int) (nm : List B8) (k lo hi nu : Int) (m : Nat) (pn : List B8) (hm : m < 18446744073709551616) (h0 : 0 ≤ l) (h1 : l < 64) (w : World) :
    Calls Try.prog 74 #[.agg (crow z l mi nm), .agg (prow k m lo hi pn nu)] w fun e w' => e = .returned (.bool (decide (hbit m l))) ∧ Below w.heap.size w w' := by
  have hb := fun W => has_bit m l hm h0 h1 W
  clear hm h0 h1
  go_enter Try.func74, Try.ntmps74
  go_wp2_with fail
  refine (hb _).mono ?_
  rintro e w' ⟨rfl, rfl⟩
  go_wp2
  go_ret
  exact ⟨rfl, two_below _ _ _⟩
theorem on_days (z l mi : Int) (nm : List B8) (k lo hi nu : Int) (m : Nat) (pn : List B8) (hm : m < 18446744073709551616) (h0 : 0 ≤ mi) (h1 : mi ≤ 67108864) (D : Bool) (hD : D = decide (hbit m (mi / 1440 % 7))) (w : World) :
    Calls Try.prog 75 #[.agg (crow z l mi nm), .agg (prow k m lo hi pn nu)] w fun e w' => e = .returned (.bool D) ∧ Below w.heap.size w w' := by
  have e1 : mi.tdiv 1440 = mi / 1440 := Int.tdiv_eq_ediv_of_nonneg h0
  have e2 : (mi / 1440).tmod 7 = mi / 1440 % 7 := Int.tmod_eq_emod_of_nonneg (by omega)
  have hw : IntKind.i64.wrap (mi / 1440) = mi / 1440 := by rw [IntKind.wrap_i64]; omega
  have hd0 : 0 ≤ mi / 1440 % 7 := by omega
  have hd1 : mi / 1440 % 7 < 64 := by omega
  generalize mi / 1440 % 7 = d at *
  have hb := fun W => has_bit m d hm hd0 hd1 W
  rw [← hD] at hb
  clear hD hd0 hd1
  clear hm
  generalize mi / 1440 = q at *
  clear h0 h1
  go_enter Try.func75, Try.ntmps75
  go_wp2_with fail
  refine (hb _).mono ?_
  rintro e w' ⟨rfl, rfl⟩
  go_wp2
  go_ret
  exact ⟨rfl, two_below _ _ _⟩
theorem in_time (z l mi : Int) (nm : List B8) (k lo hi nu : Int) (m : Nat) (pn : List B8) (D : Bool) (hD : D = decide (lo ≤ mi ∧ mi ≤ hi)) (w : World) :
    Calls Try.prog 76 #[.agg (crow z l mi nm), .agg (prow k m lo hi pn nu)] w fun e w' => e = .returned (.bool D) ∧ Below w.heap.size w w' := by
  by_cases h1 : lo ≤ mi
  · by_cases h2 : mi ≤ hi
    · skip
      have hd := hD.trans (decide_eq_true (And.intro h1 h2))
      subst hd
      clear hD
      go_enter Try.func76, Try.ntmps76
      go_wp2
      go_ret
      exact ⟨rfl, two_below _ _ _⟩
    · skip
      have hd := hD.trans (decide_eq_false (fun h : lo ≤ mi ∧ mi ≤ hi => h2 h.2))
      subst hd
      clear hD
      go_enter Try.func76, Try.ntmps76
      go_wp2
      go_ret
      exact ⟨rfl, two_below _ _ _⟩
  · skip
    have hd := hD.trans (decide_eq_false (fun h : lo ≤ mi ∧ mi ≤ hi => h1 h.1))
    subst hd
    clear hD
    go_enter Try.func76, Try.ntmps76
    go_wp2
    go_ret
    exact ⟨rfl, two_below _ _ _⟩
theorem by_holder (z l mi : Int) (nm : List B8) (k lo hi nu : Int) (m : Nat) (pn : List B8) (D : Bool) (hD : D = decide (nm = pn)) (w : World) :
    Calls Try.prog 78 #[.agg (crow z l mi nm), .agg (prow k m lo hi pn nu)] w fun e w' => e = .returned (.bool D) ∧ Below w.heap.size w w' := by
  have hs := sof_beq nm pn
  rw [← hD] at hs
  clear hD
  go_enter Try.func78, Try.ntmps78
  go_wp2
  go_ret
  exact ⟨rfl, two_below _ _ _⟩
theorem always_ (z l mi : Int) (nm : List B8) (k lo hi nu : Int) (m : Nat) (pn : List B8) (w : World) :
    Calls Try.prog 79 #[.agg (crow z l mi nm), .agg (prow k m lo hi pn nu)] w fun e w' => e = .returned (.bool true) ∧ Below w.heap.size w w' := by
  go_enter Try.func79, Try.ntmps79
  go_wp2
  go_ret
  exact ⟨rfl, two_below _ _ _⟩
theorem in_daily (z l mi : Int) (nm : List B8) (k lo hi nu : Int) (m : Nat) (pn : List B8) (h0 : 0 ≤ mi) (D : Bool) (hD : D = decide (if lo ≤ hi then lo ≤ mi % 1440 ∧ mi % 1440 ≤ hi else lo ≤ mi % 1440 ∨ mi % 1440 ≤ hi)) (w : World) :
    Calls Try.prog 77 #[.agg (crow z l mi nm), .agg (prow k m lo hi pn nu)] w fun e w' => e = .returned (.bool D) ∧ Below w.heap.size w w' := by
  have e1 : mi.tmod 1440 = mi % 1440 := Int.tmod_eq_emod_of_nonneg h0
  clear h0
  generalize mi % 1440 = r at *
  by_cases hle : lo ≤ hi
  · by_cases h1 : lo ≤ r
    · by_cases h2 : r ≤ hi
      · skip
        have hd := hD.trans (decide_eq_true ((if_pos hle).symm ▸ And.intro h1 h2))
        subst hd
        clear hD
        go_enter Try.func77, Try.ntmps77
        go_wp2
        go_ret
        exact ⟨rfl, two_below _ _ _⟩
      · skip
        have hd := hD.trans (decide_eq_false (fun h => h2 (((iff_of_eq (if_pos hle)).1 h : lo ≤ r ∧ r ≤ hi)).2))
        subst hd
        clear hD
        go_enter Try.func77, Try.ntmps77
        go_wp2
        go_ret
        exact ⟨rfl, two_below _ _ _⟩
    · skip
      have hd := hD.trans (decide_eq_false (fun h => h1 (((iff_of_eq (if_pos hle)).1 h : lo ≤ r ∧ r ≤ hi)).1))
      subst hd
      clear hD
      go_enter Try.func77, Try.ntmps77
      go_wp2
      go_ret
      exact ⟨rfl, two_below _ _ _⟩
  · by_cases h1 : lo ≤ r
    · skip
      have hd := hD.trans (decide_eq_true ((if_neg hle).symm ▸ Or.inl h1))
      subst hd
      clear hD
      go_enter Try.func77, Try.ntmps77
      go_wp2
      go_ret
      exact ⟨rfl, two_below _ _ _⟩
    · by_cases h2 : r ≤ hi
      · skip
        have hd := hD.trans (decide_eq_true ((if_neg hle).symm ▸ Or.inr h2))
        subst hd
        clear hD
        go_enter Try.func77, Try.ntmps77
        go_wp2
        go_ret
        exact ⟨rfl, two_below _ _ _⟩
      · skip
        have hd := hD.trans (decide_eq_false (fun h => (((iff_of_eq (if_neg hle)).1 h : lo ≤ r ∨ r ≤ hi)).elim h1 h2))
        subst hd
        clear hD
        go_enter Try.func77, Try.ntmps77
        go_wp2
        go_ret
        exact ⟨rfl, two_below _ _ _⟩
end Go.Proofs.Ytedjbjplnjnnlaa
namespace Go.Proofs.Ytedjbjplnjnnlaa
open Go Go.RowKit Sh Leaf

/-- A method value of a ride. -/
abbrev mv (z l m : Int) (nm : List B8) (k : Nat) : Value := .func (.func k) #[.agg (crow z l m nm)] #[]
/-- The function of a kind. -/
def kf (k : Nat) : Nat := if k = 1 then 73 else if k = 2 then 74 else if k = 3 then 75 else if k = 4 then 76 else if k = 5 then 77 else if k = 6 then 78 else 79
/-- The table's cells. -/
def Table (w : World) (g : Nat) (z l m : Int) (nm : List B8) : Prop := ∀ k, 1 ≤ k → k ≤ 7 → w.cell? ⟨g, k, none⟩ = some (mv z l m nm (kf k))
theorem Table.mk {w : World} {g : Nat} {z l m : Int} {nm : List B8} {v : Value} (h : Whole w g 65 #[v, mv z l m nm 73, mv z l m nm 74, mv z l m nm 75, mv z l m nm 76, mv z l m nm 77, mv z l m nm 78, mv z l m nm 79]) : Table w g z l m nm := by
  intro k h1 h2
  rcases (by omega : k = 1 ∨ k = 2 ∨ k = 3 ∨ k = 4 ∨ k = 5 ∨ k = 6 ∨ k = 7) with rfl | rfl | rfl | rfl | rfl | rfl | rfl
  · exact h.cell 1
  · exact h.cell 2
  · exact h.cell 3
  · exact h.cell 4
  · exact h.cell 5
  · exact h.cell 6
  · exact h.cell 7
theorem evals (z l m : Int) (nm : List B8) (w : World) :
    Calls Try.prog 67 #[.agg (crow z l m nm)] w fun e w' => e = .returned (.slice (some ⟨w.heap.size + 1, 0, none⟩) 8 8) ∧ Table w' (w.heap.size + 1) z l m nm ∧ Below w.heap.size w w' := by
  have hmf : ∀ (fn : Fn) (first cap : Array Value) (w : World), (Instr.makeFunc fn first cap).run Try.prog w = .ok (.func fn first cap) w := fun _ _ _ _ => rfl
  go_enter Try.func67, Try.ntmps67
  go_wp2
  go_ret
  exact ⟨rfl, Table.mk (Whole.at_ _ _ _ _ (by simp)), two_below _ _ _⟩
end Go.Proofs.Ytedjbjplnjnnlaa
