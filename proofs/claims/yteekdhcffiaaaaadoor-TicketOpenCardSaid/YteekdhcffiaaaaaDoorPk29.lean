/-
  TkMust
-/
import Derived.Recover
import Derived.Test.YteekdhcffiaaaaaDoorPk23
import Derived.Test.YteekdhcffiaaaaaDoorPk28
import Derived.Test.YteekdhcffiaaaaaDoorPk20
namespace Go.Proofs.YteekdhcffiaaaaaDoor
open Go Go.RowKit Sh Leaf

def TkPan (e : Ending) : Prop := ∃ u pv, e = .panicked [{ v := .iface u pv, recovered := false }]
theorem must_ok (w : World) : Calls Tryd.prog 73 #[.bool true] w fun e w' => e = .returned (.tuple #[]) ∧ w' = w := by
  go_enter Tryd.func73, Tryd.ntmps73
  go_wp2
  refine ⟨rfl, .tuple #[], by simp [results, Tryd.results73], rfl, rfl⟩
theorem must_no (w : World) : Calls Tryd.prog 73 #[.bool false] w fun e w' => TkPan e ∧ w' = w := by
  go_enter Tryd.func73, Tryd.ntmps73
  go_wp2
  exact ⟨rfl, ⟨_, _, rfl⟩, rfl⟩
def MRd (w : World) (Q : Nat → Prop) (l : List B8) (e : Ending) (w' : World) : Prop := (((rd l).2.2 = 0 ∧ ∃ A' c', e = .returned (.tuple #[.int .i64 ((rd l).1 : Int), .slice A' (l.drop (rd l).2.1).length c']) ∧ Bytes w' Q (.slice A' (l.drop (rd l).2.1).length c') (l.drop (rd l).2.1)) ∨ ((rd l).2.2 ≠ 0 ∧ TkPan e)) ∧ Below w.heap.size w w'
set_option maxRecDepth 100000 in
set_option maxHeartbeats 4000000 in
theorem must_read {w : World} {Q : Nat → Prop} {A : Option Addr} {c : Nat} {l : List B8} (hb : Bytes w Q (.slice A l.length c) l) :
    Calls Tryd.prog 74 #[.slice A l.length c] w (MRd w Q l) := by
  have hcl := read_ _ l Q w hb
  obtain ⟨R, hR⟩ : ∃ R, R = rd l := ⟨_, rfl⟩
  rw [← hR] at hcl
  have HB := Lib.hid hb
  obtain ⟨n, k, z⟩ := R
  have HR := Lib.hid hR
  clear hR hb
  dsimp only at hcl
  go_enter Tryd.func74, Tryd.ntmps74
  go_wp2_with fail
  refine hcl.mono ?_
  rintro e w1 ⟨rfl, hb1⟩
  clear hcl
  by_cases hz : z = 0
  · subst hz
    have hcm := must_ok w1
    go_wp2_with fail
    refine hcm.mono ?_
    rintro e w2 ⟨rfl, hw⟩
    subst hw
    have hkl : k ≤ l.length := (rd_unique HR.out.symm).1
    have hsl := fun W => run_seq_from (P := Tryd.prog) (t := 39) (n := 1) Tryd.underlying39 (by kernel_rfl) A l.length c k hkl W
    rw [Nat.mul_one] at hsl
    have hdr := (HB.out.below hb1 (Nat.le_refl _)).drop k hkl
    have hdl : (l.drop k).length = l.length - k := List.length_drop
    rw [← hdl] at hdr
    have HB1 := Lib.hid hb1
    obtain ⟨N, hN⟩ : ∃ N, N = l.length := ⟨_, rfl⟩
    obtain ⟨M, hM⟩ : ∃ M, M = l.length - k := ⟨_, rfl⟩
    obtain ⟨A', hA'⟩ : ∃ x, x = (if c = k then A else A.map (·.add k)) := ⟨_, rfl⟩
    obtain ⟨c', hc'⟩ : ∃ x, x = c - k := ⟨_, rfl⟩
    rw [← hA', ← hc'] at hdr hsl
    have HD := Lib.hid hdr
    rw [← hM, ← hN] at hsl
    rw [← hN]
    clear hA' hc'
    have HM := Lib.hid (hdl.trans hM.symm)
    clear hdr hdl hkl hb1 hN hM
    go_upto_region 3 with fail
    go_quiet (fail)
    go_wp2_with fail
    refine bodyPost_ret (v := .tuple #[.int .i64 n, .slice A' M c']) (by simp [results, Tryd.results74]) rfl ?_
    unfold MRd
    rw [← HR.out]
    exact ⟨.inl ⟨rfl, A', c', by rw [HM.out], HD.out.below (below_drewN (Below.refl _ _) _) (Nat.le_refl _)⟩, below_drewN HB1.out _⟩
  · have hz' : ((z : Int) == 0) = false := by simp; omega
    have hcm := must_no w1
    go_wp2_with fail
    refine hcm.mono ?_
    rintro e w2 ⟨⟨u, pv, rfl⟩, hw⟩
    subst hw
    go_wp2_with fail
    refine ⟨rfl, ?_⟩
    unfold MRd
    rw [← HR.out]
    exact ⟨.inr ⟨hz, _, _, rfl⟩, hb1⟩
end Go.Proofs.YteekdhcffiaaaaaDoor
