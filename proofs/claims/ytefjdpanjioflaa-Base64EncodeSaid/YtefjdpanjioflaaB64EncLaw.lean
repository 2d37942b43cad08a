/-
  The law Base64Encode: true, for all arguments.
-/
import Derived.Test.YtefjdpanjioflaaB64Awake
namespace Go.Proofs.Ytefjdpanjioflaa
open Go Go.RowKit Sh Leaf

set_option maxRecDepth 100000 in
set_option maxHeartbeats 2000000 in
theorem encode_law (A : Option Addr) (l : List B8) (c : Nat) (Q : Nat → Prop) (n : Int) (hn : 0 ≤ n ∧ n ≤ 255) (w : World) (hb : Bytes w Q (.slice A l.length c) l) :
    Calls Try.prog 3 #[.slice A l.length c, .int .u8 n] w fun e w' => e = .returned (.bool true) ∧ Below w.heap.size w w' := by
  obtain ⟨A0, c0, e0, h1, h2, h3, h4⟩ := id hb
  cases e0
  obtain ⟨N, hN, hNc, hN20, p, hp, hpN⟩ := cut_cases hb 600
  unfold maxLen at h2
  clear hb h4 h3 hpN
  obtain ⟨hn0, hn1⟩ := hn
  obtain ⟨m, hm⟩ : ∃ m : Nat, m = (4094 + n % 5).toNat := ⟨_, rfl⟩
  have hmk := make_bytes (4094 + n % 5) m (by omega) (by omega)
  have hmz : m ≤ 4098 := by omega
  clear hm
  obtain ⟨X, E, hXE⟩ : ∃ X E, ec p = (X, E) := ⟨_, _, rfl⟩
  have HX := Lib.hid hXE
  obtain ⟨Y, F, hYF⟩ : ∃ Y F, ec (List.replicate m 0) = (Y, F) := ⟨_, _, rfl⟩
  have HY := Lib.hid hYF
  clear hXE hYF
  have hsx := sof_self X
  have hsy := sof_self Y
  rcases hN with ⟨hlt, rfl⟩ | ⟨hlt, rfl⟩ | ⟨hlt, hge, rfl⟩
  all_goals
    go_enter Try.func3, Try.ntmps3
    go_wp2_with fail
    have hml : Bytes (w.alloc (.cells (brow m fun _ => 0#8) 5)) (fun b => b = w.heap.size) (.slice (some ⟨w.heap.size, 0, none⟩) m m) (List.replicate m (0 : B8)) := made_bytes w m (by omega)
    have hp0 := hp.alloc (.cells (brow m fun _ => 0#8) 5)
    have hb0 := (Below.refl w.heap.size w).alloc (Nat.le_refl _) (.cells (brow m fun _ => 0#8) 5)
    obtain ⟨Z, hZ⟩ : ∃ Z, Z = List.replicate m (0 : B8) := ⟨_, rfl⟩
    rw [← hZ] at hml HY
    clear hZ hmk hp
    generalize w.alloc (.cells (brow m fun _ => 0#8) 5) = w0 at hml hp0 hb0 ⊢
    refine (encode _ p Q _ hp0).mono ?_
    rintro e w1 ⟨rfl, hb1⟩
    rw [HX.out]
    have hp1 := hp0.below hb1 (Nat.le_refl _)
    have hm1 := hml.below hb1 (Nat.le_refl _)
    have hq1 := hb0.trans (hb1.mono hb0.size)
    clear hp0 hml hb0 hb1
    go_wp2_with fail
    refine (rtext _ p Q _ hp1).mono ?_
    rintro e w2 ⟨rfl, hb2⟩
    rw [HX.out]
    have hm2 := hm1.below hb2 (Nat.le_refl _)
    have hq2 := hq1.trans (hb2.mono hq1.size)
    clear hp1 hm1 hq1 hb2
    go_wp2_with fail
    refine (encode _ Z _ _ hm2).mono ?_
    rintro e w3 ⟨rfl, hb3⟩
    rw [HY.out]
    have hm3 := hm2.below hb3 (Nat.le_refl _)
    have hq3 := hq2.trans (hb3.mono hq2.size)
    clear hm2 hq2 hb3
    go_wp2_with fail
    refine (rtext _ Z _ _ hm3).mono ?_
    rintro e w4 ⟨rfl, hb4⟩
    rw [HY.out]
    have hq4 := hq3.trans (hb4.mono hq3.size)
    clear hm3 hq3 hb4
    go_wp2_with (go_at_call 9; refine (bawake _).mono ?_; rintro e w9 ⟨rfl, hb9⟩)
    go_ret
    exact ⟨rfl, hq4.trans (hb9.mono hq4.size)⟩
end Go.Proofs.Ytefjdpanjioflaa
