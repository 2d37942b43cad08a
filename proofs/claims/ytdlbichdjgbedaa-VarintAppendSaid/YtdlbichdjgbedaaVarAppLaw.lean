/-
  The law VarintAppend: true, for all arguments.
-/
import Derived.Test.YtdlbichdjgbedaaVarBack
namespace Go.Proofs.Ytdlbichdjgbedaa
open Go Go.RowKit Sh Leaf

/-- The bytes and the error of Append, for any number. -/
def app (l : List B8) (z : Int) : List B8 × Int := if 0 ≤ z ∧ z ≤ 281474976710656 then (l ++ enc z.toNat, 0) else ([], 1)
theorem app_length (l : List B8) (z : Int) : (app l z).1.length ≤ l.length + 7 := by
  unfold app
  split
  · have := enc_len7 (n := z.toNat) (by omega)
    simp; omega
  · simp
theorem append_any (v : Value) (l : List B8) (Q : Nat → Prop) (z : Int) (w : World) (hr : Bytes w Q v l) (hl : l.length ≤ 1000000) :
    Calls Try.prog 8 #[v, .int .i64 z] w fun e w' => ∃ v', e = .returned (.tuple #[v', .int .i64 (app l z).2]) ∧ Bytes w' (fun _ => True) v' (app l z).1 ∧ Below w.heap.size w w' := by
  by_cases h : 0 ≤ z ∧ z ≤ 281474976710656
  · obtain ⟨n, rfl⟩ : ∃ n : Nat, z = (n : Int) := ⟨z.toNat, by omega⟩
    refine (append_ok v l Q n w hr hl (by omega)).mono fun e w' ⟨v', he, hown, hb⟩ => ⟨v', ?_, ?_, hb⟩
    · rw [he, app, if_pos h]
    · rw [app, if_pos h]; exact (Bytes.of_own hown).mono fun _ _ _ => trivial
  · refine (append_err v z w (by omega)).mono ?_
    rintro e w' ⟨rfl, rfl⟩
    refine ⟨.slice none 0 0, ?_, ?_, Below.refl _ _⟩
    · rw [app, if_neg h]
    · rw [app, if_neg h]; exact Bytes.nil _ _
theorem ref_append_any (v : Value) (l : List B8) (Q : Nat → Prop) (z : Int) (w : World) (hr : Bytes w Q v l) (hl : l.length ≤ 1000000) :
    Calls Try.prog 9 #[v, .int .i64 z] w fun e w' => ∃ v', e = .returned (.tuple #[v', .int .i64 (app l z).2]) ∧ Bytes w' (fun _ => True) v' (app l z).1 ∧ Below w.heap.size w w' := by
  by_cases h : 0 ≤ z ∧ z ≤ 281474976710656
  · obtain ⟨n, rfl⟩ : ∃ n : Nat, z = (n : Int) := ⟨z.toNat, by omega⟩
    refine (ref_append_ok v l Q n w hr hl (by omega)).mono fun e w' ⟨v', he, hown, hb⟩ => ⟨v', ?_, ?_, hb⟩
    · rw [he, app, if_pos h]
    · rw [app, if_pos h]; exact (Bytes.of_own hown).mono fun _ _ _ => trivial
  · refine (ref_append_err v z w (by omega)).mono ?_
    rintro e w' ⟨rfl, rfl⟩
    refine ⟨.slice none 0 0, ?_, ?_, Below.refl _ _⟩
    · rw [app, if_neg h]
    · rw [app, if_neg h]; exact Bytes.nil _ _

set_option maxRecDepth 100000 in
set_option maxHeartbeats 2000000 in
theorem append_law (A : Option Addr) (l : List B8) (c : Nat) (Q : Nat → Prop) (z : Int) (D : Option Addr) (d : Nat) (ds : List Int) (w : World) (hb : Bytes w Q (.slice A l.length c) l) (hI : Ints w (fun _ => True) D d ds) :
    Calls Try.prog 3 #[.slice A l.length c, .int .i64 z, .slice D ds.length d] w fun e w' => e = .returned (.bool true) ∧ Below w.heap.size w w' := by
  obtain ⟨A0, c0, e0, h1, h2, h3, h4⟩ := id hb
  cases e0
  obtain ⟨N, hN, hNc, hN20, p, hp, hpN⟩ := cut_cases hb 50
  unfold maxLen at h2
  clear hb h4 h3
  have HN := Lib.hid hpN
  have hpl : p.length ≤ 50 := by omega
  have hI0 := hI.within (Nat.le_refl _)
  clear hpN hI
  have hzl := app_length p z
  obtain ⟨X, E, hXE⟩ : ∃ X E, app p z = (X, E) := ⟨_, _, rfl⟩
  have HX := Lib.hid hXE
  rw [hXE] at hzl
  have hxl : X.length ≤ 57 := by simp at hzl; omega
  clear hXE hzl
  rcases hN with ⟨hlt, rfl⟩ | ⟨hlt, rfl⟩ | ⟨hlt, hge, rfl⟩
  all_goals
    go_enter Try.func3, Try.ntmps3
    go_wp2_with fail
    refine (append_any _ p Q z _ hp (by omega)).mono ?_
    rintro e w1 ⟨v1, rfl, hx1, hb1⟩
    rw [HX.out] at hx1 ⊢
    have hp1 := hp.below hb1 (Nat.le_refl _)
    clear hp
    go_wp2_with fail
    refine (ref_append_any _ p Q z _ hp1 (by omega)).mono ?_
    rintro e w2 ⟨v2, rfl, hx2, hb2⟩
    rw [HX.out] at hx2 ⊢
    have hp2 := hp1.below hb2 (Nat.le_refl _)
    have hx12 := hx1.below hb2 (Nat.le_refl _)
    have hq2 := hb1.trans (hb2.mono hb1.size)
    have hI2 := hI0.below hq2
    clear hp1 hx1 hb1 hb2
    go_wp2_with fail
    refine (deckNew D ds.length d _).mono ?_
    rintro e w3 ⟨rfl, hD, hb3⟩
    have hI3 := (hI2.mono hq2.size).below hb3
    have hq3 := hq2.trans (hb3.mono hq2.size)
    go_wp2_with fail
    refine (upto _ (by omega) (by omega) _ 0 D d ds _ hI3 hD (by omega)).mono ?_
    rintro e w4 ⟨k, k', rfl, hk0, hk1, -, -, hb4, -⟩
    have hb34 := hb3.trans hb4
    have hq4 := hq2.trans (hb34.mono hq2.size)
    have hp4 := hp2.below hb34 (Nat.le_refl _)
    have hx14 := hx12.below hb34 (Nat.le_refl _)
    have hx24 := hx2.below hb34 (Nat.le_refl _)
    clear hI2 hI3 hD hb3 hb4 hb34 hq2 hq3 hp2 hx12 hx2
    have hkl := app_length p k
    obtain ⟨Y, F, hYF⟩ : ∃ Y F, app p k = (Y, F) := ⟨_, _, rfl⟩
    have HY := Lib.hid hYF
    rw [hYF] at hkl
    have hyl : Y.length ≤ 57 := by simp at hkl; omega
    clear hYF hkl
    go_wp2_with fail
    refine (append_any _ p Q k _ hp4 (by omega)).mono ?_
    rintro e w5 ⟨v5, rfl, hy5, hb5⟩
    rw [HY.out] at hy5 ⊢
    have hp5 := hp4.below hb5 (Nat.le_refl _)
    go_wp2_with fail
    refine (ref_append_any _ p Q k _ hp5 (by omega)).mono ?_
    rintro e w6 ⟨v6, rfl, hy6, hb6⟩
    rw [HY.out] at hy6 ⊢
    have hb56 := hb5.trans (hb6.mono hb5.size)
    have hy56 := hy5.below hb6 (Nat.le_refl _)
    have hx16 := hx14.below hb56 (Nat.le_refl _)
    have hx26 := hx24.below hb56 (Nat.le_refl _)
    have hq6 := hq4.trans (hb56.mono hq4.size)
    clear hp4 hp5 hb5 hb6 hb56 hy5 hx14 hx24 hq4
    go_wp2_with fail
    refine (same_ _ _ X X _ _ _ hx16 hx26 (by omega) (by omega)).mono ?_
    rintro e w7 ⟨rfl, hb7⟩
    rw [show decide (X = X) = true by simp]
    have hy57 := hy56.below hb7 (Nat.le_refl _)
    have hy67 := hy6.below hb7 (Nat.le_refl _)
    have hq7 := hq6.trans (hb7.mono hq6.size)
    clear hx16 hx26 hy56 hy6 hb7 hq6
    go_wp2_with fail
    refine (same_ _ _ Y Y _ _ _ hy57 hy67 (by omega) (by omega)).mono ?_
    rintro e w8 ⟨rfl, hb8⟩
    rw [show decide (Y = Y) = true by simp]
    have hq8 := hq7.trans (hb8.mono hq7.size)
    clear hy57 hy67 hb8 hq7
    go_wp2_with (go_at_call 13; refine (vawake _).mono ?_; rintro e w9 ⟨rfl, hb9⟩)
    go_ret
    exact ⟨rfl, hq8.trans (hb9.mono hq8.size)⟩
end Go.Proofs.Ytdlbichdjgbedaa
