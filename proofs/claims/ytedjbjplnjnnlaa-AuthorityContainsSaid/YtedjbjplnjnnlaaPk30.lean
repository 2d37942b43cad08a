/-
  The program's bounds: the predicates of an authority's fields.
-/
import Derived.Test.YtedjbjplnjnnlaaPk7
import Derived.Test.YtedjbjplnjnnlaaPk26
namespace Go.Proofs.Ytedjbjplnjnnlaa
open Go Go.RowKit Sh Leaf

theorem fl_pcl (l : List Prd) : fl pcl l = pcs l := rfl
def b4 (z l D : Nat) (lo hi : Int) : List Prd := [⟨1, z, 0, 0, [], 0⟩, ⟨2, l, 0, 0, [], 0⟩, ⟨3, D, 0, 0, [], 0⟩, ⟨4, 0, lo, hi, [], 0⟩]
/-- The four predicates as the program lays them. -/
abbrev b4c (z l D : Nat) (lo hi : Int) : Array Value := #[.int .i64 1, .int .u64 z, .int .i64 0, .int .i64 0, .string { data := #[] }, .int .i64 0, .int .i64 2, .int .u64 l, .int .i64 0, .int .i64 0, .string { data := #[] }, .int .i64 0, .int .i64 3, .int .u64 D, .int .i64 0, .int .i64 0, .string { data := #[] }, .int .i64 0, .int .i64 4, .int .u64 0, .int .i64 lo, .int .i64 hi, .string { data := #[] }, .int .i64 0]
theorem b4_own {W : World} {base g : Nat} {z l D : Nat} {lo hi : Int} (h : Whole W g 43 (b4c z l D lo hi)) (hb : base ≤ g) : OwnP W base (.slice (some ⟨g, 0, none⟩) 4 4) (b4 z l D lo hi) := by
  have esn : sof [] = { data := #[] } := by unfold sof; rfl
  exact owns_lit (f := pcl) (n := 6) (l := b4 z l D lo hi) h hb pcl_length rfl (by simp [fl, b4, pcl, esn]) (by decide)
theorem b4_bd {z l D : Nat} {lo hi : Int} (hz : z < 18446744073709551616) (hl : l < 18446744073709551616) (hd : D < 18446744073709551616) : ∀ p ∈ b4 z l D lo hi, pbd p := by
  intro p hp
  unfold b4 at hp
  simp at hp
  rcases hp with rfl | rfl | rfl | rfl
  · exact ⟨hz, by simp⟩
  · exact ⟨hl, by simp⟩
  · exact ⟨hd, by simp⟩
  · exact ⟨by simp, by simp⟩
set_option maxRecDepth 100000 in
set_option maxHeartbeats 2000000 in
theorem abounds {w : World} {Q : Nat → Prop} {x : Value} {a : Aut} (hx : Av w Q x a) :
    Calls Try.prog 40 #[x] w fun e w' => (∃ A c n, e = .returned (.slice A n c) ∧ n = (bnds a).length ∧ Prds w' (fun g => w.heap.size ≤ g) A c (bnds a)) ∧ Below w.heap.size w w' := by
  obtain ⟨A, n, rfl, hS, hab⟩ := hx
  obtain ⟨no, z, l, D, lo, hi, da, nm⟩ := a
  unfold avl
  simp only at hS ⊢
  have esn : sof [] = { data := #[] } := by unfold sof; rfl
  have hie : (sof nm).toList.isEmpty = decide (nm = []) := by
    rw [sof_toList]
    cases nm <;> simp
  clear hS
  by_cases hh : nm = []
  · rw [decide_eq_true hh] at hie
    have HH := Lib.hid hh
    clear hh
    go_enter Try.func40, Try.ntmps40
    go_wp2_with fail
    have hW : Whole ((w.alloc (.cells (arow no z l D lo hi (.slice A da.length n) nm) 25)).alloc (.cells (b4c z l D lo hi) 43)) (w.heap.size + 1) 43 (b4c z l D lo hi) := Whole.at_ _ _ _ _ (by simp)
    obtain ⟨A2, c2, e, hP⟩ := (b4_own hW (base := w.heap.size) (by omega)).prds (b4_bd hab.1 hab.2.1 hab.2.2.1)
    go_ret
    have eb : bnds ⟨no, z, l, D, lo, hi, da, nm⟩ = b4 z l D lo hi := by unfold bnds b4; rw [if_pos HH.out]; simp
    rw [eb]
    exact ⟨⟨A2, c2, _, congrArg Ending.returned e, rfl, hP⟩, ab_below w _ _⟩
  · rw [decide_eq_false hh] at hie
    go_enter Try.func40, Try.ntmps40
    go_upto_region 3 with fail
    have hW : Whole (((w.alloc (.cells (arow no z l D lo hi (.slice A da.length n) nm) 25)).alloc (.cells (b4c z l D lo hi) 43)).alloc (.cells #[.int .i64 6, .int .u64 0, .int .i64 0, .int .i64 0, .string (sof nm), .int .i64 0] 43)) (w.heap.size + 1) 43 (b4c z l D lo hi) := (Whole.at_ _ _ _ _ (by simp)).alloc _
    have hL : Prds (((w.alloc (.cells (arow no z l D lo hi (.slice A da.length n) nm) 25)).alloc (.cells (b4c z l D lo hi) 43)).alloc (.cells #[.int .i64 6, .int .u64 0, .int .i64 0, .int .i64 0, .string (sof nm), .int .i64 0] 43)) (fun _ => True) (some ⟨w.heap.size + 2, 0, none⟩) 1 [⟨6, 0, 0, 0, nm, 0⟩] := prds_one (k := 6) (m := 0) (lo := 0) (hi := 0) (nm := nm) (nu := 0) (Whole.at_ _ _ _ _ (by simp)) rfl ⟨by simp, hab.2.2.2.2.2⟩
    have hB : Below w.heap.size w (((w.alloc (.cells (arow no z l D lo hi (.slice A da.length n) nm) 25)).alloc (.cells (b4c z l D lo hi) 43)).alloc (.cells #[.int .i64 6, .int .u64 0, .int .i64 0, .int .i64 0, .string (sof nm), .int .i64 0] 43)) := (ab_below w _ _).alloc (by simp; omega) _
    have HO := Lib.hid (b4_own hW (base := w.heap.size) (by omega))
    have HSQ : Hid (Seq pcl pbd _ _ _ _ _) := Lib.hid hL
    have HB := Lib.hid hB
    have HF : Hid (∀ v2 w2, OwnP w2 w.heap.size v2 (b4 z l D lo hi ++ [⟨6, 0, 0, 0, nm, 0⟩]) → Below w.heap.size (((w.alloc (.cells (arow no z l D lo hi (.slice A da.length n) nm) 25)).alloc (.cells (b4c z l D lo hi) 43)).alloc (.cells #[.int .i64 6, .int .u64 0, .int .i64 0, .int .i64 0, .string (sof nm), .int .i64 0] 43)) w2 → (∃ A' c n', (Ending.returned v2 : Ending) = .returned (.slice A' n' c) ∧ n' = (bnds ⟨no, z, l, D, lo, hi, da, nm⟩).length ∧ Prds w2 (fun g => w.heap.size ≤ g) A' c (bnds ⟨no, z, l, D, lo, hi, da, nm⟩)) ∧ Below w.heap.size w w2) := Lib.hid fun v2 w2 ho2 hb2 => by
      have hbd2 : ∀ p ∈ b4 z l D lo hi ++ [⟨6, 0, 0, 0, nm, 0⟩], pbd p := fun p hp => by
        rcases List.mem_append.1 hp with hp | hp
        · exact b4_bd hab.1 hab.2.1 hab.2.2.1 p hp
        · rw [List.mem_singleton.1 hp]; exact ⟨by simp, hab.2.2.2.2.2⟩
      obtain ⟨A2, c2, e, hP⟩ := ho2.prds hbd2
      have eb : bnds ⟨no, z, l, D, lo, hi, da, nm⟩ = b4 z l D lo hi ++ [⟨6, 0, 0, 0, nm, 0⟩] := by unfold bnds b4; rw [if_neg hh]
      rw [eb]
      exact ⟨⟨A2, c2, _, congrArg Ending.returned e, rfl, hP⟩, HB.out.trans hb2⟩
    clear hW hL hB
    go_wp2_with (at_builtin; go_must (refine wpList_append_seq (f := pcl) (n := 6) rfl _ _ 37 43 _ 56 rfl Try.underlying37 prdInfo rfl (by decide) (by decide) pcl_length pcl_one w.heap.size _ (b4 z l D lo hi) rfl HO.out (fun _ => True) _ 1 1 [⟨6, 0, 0, 0, nm, 0⟩] rfl rfl HSQ.out (by simp [b4]) HB.out.size ?_; intro v2 w2 h1 h2 h3; have HG := Lib.hid (HF.out v2 w2 h1 h2); clear h1 h2 h3))
    go_ret
    exact HG.out
end Go.Proofs.Ytedjbjplnjnnlaa
