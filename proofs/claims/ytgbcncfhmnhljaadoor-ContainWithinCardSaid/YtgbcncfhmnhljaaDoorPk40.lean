/-
  Same.
-/
import Derived.Test.YtgbcncfhmnhljaaDoorPk15
namespace Go.Proofs.YtgbcncfhmnhljaaDoor
open Go Go.RowKit Sh Leaf

set_option maxRecDepth 100000 in
set_option maxHeartbeats 2000000 in
theorem csam_in (n1 n2 : Bool) (z1 z2 l1 l2 d1 d2 a1 a2 b1 b2 : Int) (A1 A2 : Option Addr) (c1 c2 : Nat) (s1 s2 : List (Int × Int)) (h1 h2 : List B8) (Q1 Q2 : Nat → Prop) (D : Bool) (w : World)
    (hD : D = decide (n1 = n2 ∧ z1 = z2 ∧ l1 = l2 ∧ d1 = d2 ∧ a1 = a2 ∧ b1 = b2 ∧ h1 = h2 ∧ s1 = s2)) (hS1 : Spn w Q1 A1 c1 s1) (hS2 : Spn w Q2 A2 c2 s2) :
    Calls Tryd.prog 9 #[.agg (arow n1 z1 l1 d1 a1 b1 (.slice A1 s1.length c1) h1), .agg (arow n2 z2 l2 d2 a2 b2 (.slice A2 s2.length c2) h2)] w fun e w' => e = .returned (.bool D) ∧ Below w.heap.size w w' := by
  have hb := ab_below w
  have hs := sof_beq h1 h2
  by_cases kn : n1 = n2
  case neg =>
    obtain rfl := hD.trans (decide_eq_false fun h => kn h.1)
    obtain rfl : n2 = !n1 := by revert kn; cases n1 <;> cases n2 <;> decide
    clear hD kn hS1 hS2 hs
    generalize s1.length = m1 at *
    generalize s2.length = m2 at *
    cases n1
    · skip
      go_enter Tryd.func9, Tryd.ntmps9
      go_wp2
      go_ret
      exact ⟨rfl, hb _ _⟩
    · skip
      go_enter Tryd.func9, Tryd.ntmps9
      go_wp2
      go_ret
      exact ⟨rfl, hb _ _⟩
  subst kn
  have hnn : (n1 == n1) = true := by simp
  by_cases kz : z1 = z2
  case neg =>
    obtain rfl := hD.trans (decide_eq_false fun h => kz h.2.1)
    clear hD hS1 hS2 hs
    generalize s1.length = m1 at *
    generalize s2.length = m2 at *
    go_enter Tryd.func9, Tryd.ntmps9
    go_wp2
    go_ret
    exact ⟨rfl, hb _ _⟩
  subst kz
  by_cases kl : l1 = l2
  case neg =>
    obtain rfl := hD.trans (decide_eq_false fun h => kl h.2.2.1)
    clear hD hS1 hS2 hs
    generalize s1.length = m1 at *
    generalize s2.length = m2 at *
    go_enter Tryd.func9, Tryd.ntmps9
    go_wp2
    go_ret
    exact ⟨rfl, hb _ _⟩
  subst kl
  by_cases kd : d1 = d2
  case neg =>
    obtain rfl := hD.trans (decide_eq_false fun h => kd h.2.2.2.1)
    clear hD hS1 hS2 hs
    generalize s1.length = m1 at *
    generalize s2.length = m2 at *
    go_enter Tryd.func9, Tryd.ntmps9
    go_wp2
    go_ret
    exact ⟨rfl, hb _ _⟩
  subst kd
  by_cases ka : a1 = a2
  case neg =>
    obtain rfl := hD.trans (decide_eq_false fun h => ka h.2.2.2.2.1)
    clear hD hS1 hS2 hs
    generalize s1.length = m1 at *
    generalize s2.length = m2 at *
    go_enter Tryd.func9, Tryd.ntmps9
    go_wp2
    go_ret
    exact ⟨rfl, hb _ _⟩
  subst ka
  by_cases kb : b1 = b2
  case neg =>
    obtain rfl := hD.trans (decide_eq_false fun h => kb h.2.2.2.2.2.1)
    clear hD hS1 hS2 hs
    generalize s1.length = m1 at *
    generalize s2.length = m2 at *
    go_enter Tryd.func9, Tryd.ntmps9
    go_wp2
    go_ret
    exact ⟨rfl, hb _ _⟩
  subst kb
  have hq := fun o1 o2 => aeqs ((hS1.alloc o1).alloc o2) ((hS2.alloc o1).alloc o2)
  by_cases ks : s1 = s2
  case neg =>
    obtain rfl := hD.trans (decide_eq_false fun h => ks h.2.2.2.2.2.2.2)
    rw [decide_eq_false ks] at hq
    clear hD hS1 hS2 ks hs
    generalize s1.length = m1 at *
    generalize s2.length = m2 at *
    go_enter Tryd.func9, Tryd.ntmps9
    go_wp2_with fail
    refine (hq _ _).mono ?_
    rintro e w' ⟨rfl, hb2⟩
    have HF := Lib.hid ((hb _ _).trans (hb2.mono (by simp; omega)))
    clear hb2 hq hb
    go_wp2
    go_ret
    exact ⟨rfl, HF.out⟩
  rw [decide_eq_true ks] at hq
  have hD' : D = decide (h1 = h2) := hD.trans (decide_eq_decide.2 ⟨fun h => h.2.2.2.2.2.2.1, fun h => ⟨rfl, rfl, rfl, rfl, rfl, rfl, h, ks⟩⟩)
  rw [← hD'] at hs
  clear hD hD' hS1 hS2 ks
  generalize s1.length = m1 at *
  generalize s2.length = m2 at *
  obtain ⟨p, hp⟩ : ∃ p, p = (w.alloc (.cells (arow n1 z1 l1 d1 a1 b1 (.slice A1 m1 c1) h1) 25)).alloc (.cells (arow n1 z1 l1 d1 a1 b1 (.slice A2 m2 c2) h2) 25) := ⟨_, rfl⟩
  have hbl : Below w.heap.size w p := by rw [hp]; exact hb _ _
  have hr1 : Hid (ARow p w.heap.size n1 z1 l1 d1 a1 b1 (.slice A1 m1 c1) h1) := Lib.hid (by rw [hp]; exact (Whole.here _ _ _).alloc _)
  have hr2 : Hid (ARow p (w.heap.size + 1) n1 z1 l1 d1 a1 b1 (.slice A2 m2 c2) h2) := Lib.hid (by rw [hp]; exact Whole.at_ _ _ _ _ (by simp))
  have hqp := hq (.cells (arow n1 z1 l1 d1 a1 b1 (.slice A1 m1 c1) h1) 25) (.cells (arow n1 z1 l1 d1 a1 b1 (.slice A2 m2 c2) h2) 25)
  rw [← hp] at hqp
  have HBL := Lib.hid hbl
  clear hq hb hbl
  obtain ⟨ka0, ka1, ka2, ka3, ka4, ka5, ka6, ka7⟩ := ARow.cells hr1.out
  obtain ⟨kb0, kb1, kb2, kb3, kb4, kb5, kb6, kb7⟩ := ARow.cells hr2.out
  cases D
  · skip
    go_enter Tryd.func9, Tryd.ntmps9
    go_upto_region 1 with fail
    rw [← hp]
    clear hp
    go_wp2_with fail
    refine hqp.mono ?_
    rintro e w' ⟨rfl, hb2⟩
    have HF := Lib.hid (HBL.out.trans (hb2.mono HBL.out.size))
    clear ka0 ka1 ka2 ka3 ka4 ka5 ka6 ka7 kb0 kb1 kb2 kb3 kb4 kb5 kb6 kb7
    obtain ⟨ka0, ka1, ka2, ka3, ka4, ka5, ka6, ka7⟩ := ARow.cells (Whole.below hr1.out hb2 (Whole.lt hr1.out))
    obtain ⟨kb0, kb1, kb2, kb3, kb4, kb5, kb6, kb7⟩ := ARow.cells (Whole.below hr2.out hb2 (Whole.lt hr2.out))
    clear hb2 hqp
    go_wp2
    go_ret
    exact ⟨rfl, HF.out⟩
  · skip
    go_enter Tryd.func9, Tryd.ntmps9
    go_upto_region 1 with fail
    rw [← hp]
    clear hp
    go_wp2_with fail
    refine hqp.mono ?_
    rintro e w' ⟨rfl, hb2⟩
    have HF := Lib.hid (HBL.out.trans (hb2.mono HBL.out.size))
    clear ka0 ka1 ka2 ka3 ka4 ka5 ka6 ka7 kb0 kb1 kb2 kb3 kb4 kb5 kb6 kb7
    obtain ⟨ka0, ka1, ka2, ka3, ka4, ka5, ka6, ka7⟩ := ARow.cells (Whole.below hr1.out hb2 (Whole.lt hr1.out))
    obtain ⟨kb0, kb1, kb2, kb3, kb4, kb5, kb6, kb7⟩ := ARow.cells (Whole.below hr2.out hb2 (Whole.lt hr2.out))
    clear hb2 hqp
    go_wp2
    go_ret
    exact ⟨rfl, HF.out⟩
theorem csame {w : World} {Q1 Q2 : Nat → Prop} {x y : Value} {a b : Aut} (hx : Av w Q1 x a) (hy : Av w Q2 y b) :
    Calls Tryd.prog 9 #[x, y] w fun e w' => e = .returned (.bool (decide (a = b))) ∧ Below w.heap.size w w' := by
  obtain ⟨A1, c1, rfl, hS1, -⟩ := hx
  obtain ⟨A2, c2, rfl, hS2, -⟩ := hy
  refine csam_in _ _ _ _ _ _ _ _ _ _ _ _ A1 A2 c1 c2 _ _ _ _ Q1 Q2 _ w (decide_eq_decide.2 ?_) hS1 hS2
  obtain ⟨n1, z1, l1, d1, o1, i1, y1, h1⟩ := a
  obtain ⟨n2, z2, l2, d2, o2, i2, y2, h2⟩ := b
  simp only [Aut.mk.injEq, Int.natCast_inj]
  constructor
  · rintro ⟨e1, e2, e3, e4, e5, e6, e7, e8⟩; exact ⟨e1, e2, e3, e4, e5, e6, e8, e7⟩
  · rintro ⟨e1, e2, e3, e4, e5, e6, e7, e8⟩; exact ⟨e1, e2, e3, e4, e5, e6, e8, e7⟩
theorem law_csam {p W : World} {x y : Value} {a b : Aut} {Q1 Q2 : Nat → Prop} (hb : Below p.heap.size p W) (hx : Av W Q1 x a) (hy : Av W Q2 y b) {B : Bool} (e : decide (a = b) = B) :
    Calls Tryd.prog 9 #[x, y] W fun e w' => e = .returned (.bool B) ∧ Below p.heap.size p w' :=
  (csame hx hy).mono fun _ _ h => ⟨by rw [h.1, e], hb.trans (h.2.mono hb.size)⟩
end Go.Proofs.YtgbcncfhmnhljaaDoor
