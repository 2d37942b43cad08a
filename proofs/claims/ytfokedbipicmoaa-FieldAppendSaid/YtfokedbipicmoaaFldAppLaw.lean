/-
  The law FieldAppend: true, for all arguments.
-/
import Derived.Test.YtfokedbipicmoaaFldAwake
import Derived.Test.YtfokedbipicmoaaKMake
namespace Go.Proofs.Ytfokedbipicmoaa
open Go Go.RowKit Sh Leaf

set_option maxHeartbeats 2000000 in
theorem append_law (A : Option Addr) (l : List B8) (c : Nat) (Q : Nat → Prop) (A' : Option Addr) (l' : List B8) (c' : Nat) (Q' : Nat → Prop) (n : Int) (hn : 0 ≤ n ∧ n ≤ 65535) (w : World) (hb : Bytes w Q (.slice A l.length c) l) (hb' : Bytes w Q' (.slice A' l'.length c') l') :
    Calls Try.prog 3 #[.slice A l.length c, .slice A' l'.length c', .int .u16 n] w fun e w' => e = .returned (.bool true) ∧ Below w.heap.size w w' := by
  obtain ⟨A0, c0, e0, h1, h2, h3, h4⟩ := id hb
  cases e0
  obtain ⟨A0, c0, e0, h1', h2', h3', h4'⟩ := id hb'
  cases e0
  have hp := hb.cut 50
  have hp' := hb'.cut 1500
  have E1 := Lib.hid (min_take l 50)
  have E2 := Lib.hid (min_take l' 1500)
  clear hb hb' h4 h4'
  obtain ⟨hn0, hn1⟩ := hn
  obtain ⟨m, hm⟩ : ∃ m : Nat, m = (1000 + n % 50).toNat := ⟨_, rfl⟩
  have hmk := make_bytes (1000 + n % 50) m (by omega) (by omega)
  have hmz : m ≤ 1050 := by omega
  clear hm
  go_enter Try.func3, Try.ntmps3
  go_wp2
  go_quiet (fail)
  rw [show (50 : Int) = ((50 : Nat) : Int) by rfl, show (1500 : Int) = ((1500 : Nat) : Int) by rfl, E1.out, E2.out]
  simp only [Int.toNat_natCast]
  have hpl : (l.take 50).length ≤ 50 := by simp; omega
  have hpl' : (l'.take 1500).length ≤ 1500 := by simp; omega
  clear E1 E2
  generalize l.take 50 = p at hp hpl ⊢
  generalize l'.take 1500 = p' at hp' hpl' ⊢
  have hp0 := hp.drewN nq
  have hp0' := hp'.drewN nq
  have hb0 : Below w.heap.size w (w.drewN nq) := below_drewN (Below.refl _ _) nq
  generalize w.drewN nq = W0 at hp0 hp0' hb0 ⊢
  clear hp hp'
  go_wp2_with fail
  have hml : Bytes (W0.alloc (.cells (brow m fun _ => 0#8) 5)) (fun b => b = W0.heap.size) (.slice (some ⟨W0.heap.size, 0, none⟩) m m) (List.replicate m (0 : B8)) := made_bytes W0 m (by omega)
  have hp1 := hp0.alloc (.cells (brow m fun _ => 0#8) 5)
  have hp1' := hp0'.alloc (.cells (brow m fun _ => 0#8) 5)
  have hb1 := hb0.alloc hb0.size (.cells (brow m fun _ => 0#8) 5)
  obtain ⟨Z, hZ⟩ : ∃ Z, Z = List.replicate m (0 : B8) := ⟨_, rfl⟩
  rw [← hZ] at hml
  clear hZ hmk hp0 hp0' hb0
  generalize W0.alloc (.cells (brow m fun _ => 0#8) 5) = W1 at hml hp1 hp1' hb1 ⊢
  generalize W0.heap.size = zb at hml ⊢
  obtain ⟨X, E, hXE⟩ : ∃ X E, fap p p' = (X, E) := ⟨_, _, rfl⟩
  have hXl := fap_len p p'
  rw [hXE] at hXl
  have HX := Lib.hid hXE
  obtain ⟨Y, F, hYF⟩ : ∃ Y F, fap p Z = (Y, F) := ⟨_, _, rfl⟩
  have hYl := fap_len p Z
  rw [hYF] at hYl
  have HY := Lib.hid hYF
  clear hXE hYF
  have hXl' : X.length ≤ 1000000 := by simp at hXl; omega
  have hYl' : Y.length ≤ 1000000 := by simp at hYl; omega
  clear hXl hYl
  refine (fappend _ _ p p' _ _ _ hp1 hp1' (by omega)).mono ?_
  rintro e w2 ⟨v2, rfl, hx2, hb2⟩
  rw [HX.out] at hx2 ⊢
  have hp2 := hp1.below hb2 (Nat.le_refl _)
  have hp2' := hp1'.below hb2 (Nat.le_refl _)
  have hm2 := hml.below hb2 (Nat.le_refl _)
  have hq2 := hb1.trans (hb2.mono hb1.size)
  clear hp1 hp1' hml hb1 hb2
  go_wp2_with fail
  refine (rappend _ _ p p' _ _ _ hp2 hp2' (by omega)).mono ?_
  rintro e w3 ⟨v3, rfl, hx3, hb3⟩
  rw [HX.out] at hx3 ⊢
  have hp3 := hp2.below hb3 (Nat.le_refl _)
  have hm3 := hm2.below hb3 (Nat.le_refl _)
  have hx23 := hx2.below hb3 (Nat.le_refl _)
  have hq3 := hq2.trans (hb3.mono hq2.size)
  clear hp2 hp2' hm2 hx2 hb3 hq2
  go_wp2_with fail
  refine (fappend _ _ p Z _ _ _ hp3 hm3 (by omega)).mono ?_
  rintro e w4 ⟨v4, rfl, hy4, hb4⟩
  rw [HY.out] at hy4 ⊢
  have hp4 := hp3.below hb4 (Nat.le_refl _)
  have hm4 := hm3.below hb4 (Nat.le_refl _)
  have hx24 := hx23.below hb4 (Nat.le_refl _)
  have hx34 := hx3.below hb4 (Nat.le_refl _)
  have hq4 := hq3.trans (hb4.mono hq3.size)
  clear hp3 hm3 hx23 hx3 hb4 hq3
  go_wp2_with fail
  refine (rappend _ _ p Z _ _ _ hp4 hm4 (by omega)).mono ?_
  rintro e w5 ⟨v5, rfl, hy5, hb5⟩
  rw [HY.out] at hy5 ⊢
  have hx25 := hx24.below hb5 (Nat.le_refl _)
  have hx35 := hx34.below hb5 (Nat.le_refl _)
  have hy45 := hy4.below hb5 (Nat.le_refl _)
  have hq5 := hq4.trans (hb5.mono hq4.size)
  clear hp4 hm4 hx24 hx34 hy4 hb5 hq4
  go_wp2_with fail
  refine (same_ _ _ X X _ _ _ hx25 hx35 (by omega) (by omega)).mono ?_
  rintro e w6 ⟨rfl, hb6⟩
  rw [show decide (X = X) = true by simp]
  have hy46 := hy45.below hb6 (Nat.le_refl _)
  have hy56 := hy5.below hb6 (Nat.le_refl _)
  have hq6 := hq5.trans (hb6.mono hq5.size)
  clear hx25 hx35 hy45 hy5 hb6 hq5
  go_wp2_with fail
  refine (same_ _ _ Y Y _ _ _ hy46 hy56 (by omega) (by omega)).mono ?_
  rintro e w7 ⟨rfl, hb7⟩
  rw [show decide (Y = Y) = true by simp]
  have hq7 := hq6.trans (hb7.mono hq6.size)
  clear hy46 hy56 hb7 hq6
  go_wp2_with (go_at_call 11; refine (fawake _).mono ?_; rintro e w9 ⟨rfl, hb9⟩)
  go_ret
  exact ⟨rfl, hq7.trans (hb9.mono hq7.size)⟩
end Go.Proofs.Ytfokedbipicmoaa
