/-
  The reference's ranges: its loop.
  The reference's ranges.
-/
import Derived.Deep.DeepCutAuto
import Derived.BigQuiet
import Derived.Test.YtedjbjplnjnnlaaDoorPk9
import Derived.Test.YtedjbjplnjnnlaaDoorPk8
namespace Go.Proofs.YtedjbjplnjnnlaaDoor
open Go Go.RowKit Sh Leaf
namespace Sh

/-- What the reference asks of span i. -/
def okAt (s : List (Int × Int)) (i : Nat) : Prop := ∀ p, s[i]? = some p → 0 ≤ p.1 ∧ p.1 ≤ p.2 ∧ p.2 < 1440 ∧ ∀ q, 0 < i → s[i - 1]? = some q → q.2 + 2 ≤ p.1
noncomputable instance (s : List (Int × Int)) (i : Nat) : Decidable (okAt s i) := Classical.propDecidable _
theorem sep_at : ∀ {l : List (Int × Int)} {lo : Int}, (sepA lo l ∧ ∀ s ∈ l, s.2 < 1440) ↔ ∀ (i : Nat) (p : Int × Int), l[i]? = some p → p.1 ≤ p.2 ∧ p.2 < 1440 ∧ (i = 0 → lo ≤ p.1) ∧ ∀ q : Int × Int, 0 < i → l[i - 1]? = some q → q.2 + 2 ≤ p.1
  | [], lo => by
    constructor
    · intro _ i p h; simp at h
    · intro _; exact ⟨trivial, fun s h => by simp at h⟩
  | s :: t, lo => by
    have ih := sep_at (l := t) (lo := s.2 + 2)
    constructor
    · rintro ⟨⟨h1, h2, h3⟩, h4⟩ i p hp
      have hk := ih.1 ⟨h3, fun x hx => h4 x (List.mem_cons_of_mem _ hx)⟩
      cases i with
      | zero =>
        have e : s = p := by simpa using hp
        subst e
        exact ⟨h2, h4 s (by simp), fun _ => h1, fun q h => by omega⟩
      | succ i =>
        rw [List.getElem?_cons_succ] at hp
        obtain ⟨k1, k2, k3, k4⟩ := hk i p hp
        refine ⟨k1, k2, fun h => by omega, fun q _ hq => ?_⟩
        cases i with
        | zero =>
          have e : s = q := by simpa using hq
          subst e
          exact k3 rfl
        | succ i => exact k4 q (by omega) (by simpa using hq)
    · intro h
      obtain ⟨h1, h2, h3, _⟩ := h 0 s (by simp)
      obtain ⟨k1, k2⟩ := ih.2 fun i p hp => by
        obtain ⟨g1, g2, g3, g4⟩ := h (i + 1) p (by simpa using hp)
        refine ⟨g1, g2, fun e => ?_, fun q hi hq => ?_⟩
        · subst e
          exact g4 s (by omega) (by simp)
        · cases i with
          | zero => omega
          | succ i => exact g4 q (by omega) (by simpa using hq)
      refine ⟨⟨h3 rfl, h1, k1⟩, fun x hx => ?_⟩
      rcases List.mem_cons.1 hx with rfl | hx
      · exact h2
      · exact k2 x hx
theorem sep_iff {l : List (Int × Int)} : (sepA 0 l ∧ ∀ s ∈ l, s.2 < 1440) ↔ ∀ i, i < l.length → okAt l i := by
  constructor
  · intro h i _ p hp
    obtain ⟨h1, h2, h3, h4⟩ := sep_at.1 h i p hp
    exact ⟨(sepA_mem h.1 p (List.mem_of_getElem? hp)).1, h1, h2, h4⟩
  · intro h
    refine sep_at.2 fun i p hp => ?_
    obtain ⟨h1, h2, h3, h4⟩ := h i (List.getElem?_eq_some_iff.1 hp).1 p hp
    exact ⟨h2, h3, fun _ => h1, h4⟩
end Sh
set_option maxRecDepth 100000 in
set_option maxHeartbeats 2000000 in
theorem rng_good {Q : Nat → Prop} (no : Bool) (z l d lo hi : Int) (A : Option Addr) (c : Nat) (s : List (Int × Int)) (nm : List B8) (n : Nat) (D E : Bool) (w : World) (hls : n ≤ 9223372036854775807)
    (c1 : ¬ z = 0) (c2 : ¬ l = 0) (c3 : l < 4294967296) (c4 : ¬ d = 0) (c5 : d < 128) (c6 : 0 ≤ lo) (c7 : lo ≤ hi) (c8 : hi ≤ 67108864) (c10 : (n : Int) ≤ 1440)
    (hnm : ∀ W : World, Calls Tryd.prog 64 #[.string (sof nm)] W fun e w' => e = .returned (.bool (decide (nmok nm))) ∧ W = w') (hie : (sof nm).toList.isEmpty = E) (HS : Hid (∀ o, Spn (w.alloc o) Q A c s)) (HN : Hid (n = s.length)) (HE : Hid (E = false → nmok nm)) (HD : Hid (D = decide (∀ i, i < n → okAt s i))) :
    Calls Tryd.prog 59 #[.agg (arow no z l d lo hi (.slice A n c) nm)] w fun e w' => e = .returned (.bool D) ∧ Below w.heap.size w w' := by
  have HB0 : Hid (Below w.heap.size w (w.alloc (.cells (arow no z l d lo hi (.slice A n c) nm) 25))) := Lib.hid ((Below.refl w.heap.size w).alloc (Nat.le_refl _) _)
  have HR0 : Hid (ARow (w.alloc (.cells (arow no z l d lo hi (.slice A n c) nm) 25)) w.heap.size no z l d lo hi (.slice A n c) nm) := Lib.hid (Whole.here _ _ _)
  have HS0 : Hid (Spn (w.alloc (.cells (arow no z l d lo hi (.slice A n c) nm) 25)) Q A c s) := Lib.hid (HS.out _)
  clear HS
  have e1 : (z == 0) = false := beq_eq_false_iff_ne.2 c1
  have e2 : (l == 0) = false := beq_eq_false_iff_ne.2 c2
  have e3 : decide (4294967296 ≤ l) = false := decide_eq_false (by omega)
  have e4 : (d == 0) = false := beq_eq_false_iff_ne.2 c4
  have e5 : decide (128 ≤ d) = false := decide_eq_false (by omega)
  have e6 : decide (lo < 0) = false := decide_eq_false (by omega)
  have e7 : decide (hi < lo) = false := decide_eq_false (by omega)
  have e8 : decide (67108864 < hi) = false := decide_eq_false (by omega)
  have e9 : decide (1440 < (n : Int)) = false := decide_eq_false (by omega)
  clear c1 c2 c3 c4 c5 c6 c7 c8
  go_enter Tryd.func59, Tryd.ntmps59
  go_upto_region 1 with fail
  go_cut [61] (fun v wx => v = .bool false ∧ wx = w.alloc (.cells (arow no z l d lo hi (.slice A n c) nm) 25))
  case first =>
    cases E
    · have hnm' := fun W => hnm W
      rw [decide_eq_true (HE.out rfl)] at hnm'
      clear hnm
      go_wp2_with (go_at_call 64; refine (hnm' _).mono ?_; rintro e w' ⟨rfl, rfl⟩)
      go_meet
      exact ⟨rfl, rfl⟩
    · clear hnm
      go_wp2_with fail
      go_meet
      exact ⟨rfl, rfl⟩
  case rest =>
    obtain ⟨rfl, rfl⟩ := hcut
    clear hie e1 e2 e3 e4 e5 e6 e7 e8 e9 HE hnm
    go_wp2_with fail
    go_loopw [3] (fun i wr => ∃ j : Nat, i = .int .i64 j ∧ j ≤ n ∧ (∀ i, i < j → okAt s i) ∧ ARow wr w.heap.size no z l d lo hi (.slice A n c) nm ∧ Spn wr Q A c s ∧ Below w.heap.size w wr) (fun i _ => n - (intOf i).toNat)
    case atStart => exact ⟨0, rfl, by omega, fun i h => by omega, HR0.out, HS0.out, HB0.out⟩
    case round =>
      obtain ⟨j, rfl, hj, hall, hr, hq, hbw⟩ := hrel
      obtain ⟨x0, x1, x2, x3, x4, x5, x6, x7⟩ := hr.cells
      clear x0 x1 x2 x3 x4 x5 x7
      have HA := Lib.hid hall
      have HX := Lib.hid hr
      have HS1 := Lib.hid hq
      have HB := Lib.hid hbw
      clear hall hr hbw HR0 HS0 HB0
      by_cases hlt : j < n
      · obtain ⟨⟨p1, p2⟩, hp⟩ : ∃ p, s[j]? = some p := ⟨_, List.getElem?_eq_getElem (by have := HN.out; omega)⟩
        obtain ⟨g, o, rfl, -, hg, f1, f2⟩ := Spn.get hq j _ hp
        simp only at f1 f2
        have hbd := hq.2.2.2.1 _ (List.mem_of_getElem? hp)
        simp only [sbd, i64ok] at hbd
        obtain ⟨⟨b1, b2⟩, b3, b4⟩ := hbd
        have HP := Lib.hid hp
        clear hq hp
        go_wp2_with fail
        go_cut [105] (fun v wx => v = .bool (!decide (okAt s j)) ∧ ∃ N, wx = (wr.alloc (.cells #[.int .i64 p1, .int .i64 p2] 56)).drewN N)
        case first =>
          by_cases k1 : p1 < 0
          · have HJ : Hid (Value.bool true = Value.bool (!decide (okAt s j))) := Lib.hid (by rw [decide_eq_false (fun q => by have := (q _ HP.out).1; simp only at this; omega)]; rfl)
            have t1 := decide_eq_true k1
            clear k1
            go_big_quiet (fail)
            go_wp2
            go_meet
            exact ⟨HJ.out, _, rfl⟩
          have t1 := decide_eq_false k1
          by_cases k2 : p2 < p1
          · have HJ : Hid (Value.bool true = Value.bool (!decide (okAt s j))) := Lib.hid (by rw [decide_eq_false (fun q => by have := (q _ HP.out).2.1; simp only at this; omega)]; rfl)
            have t2 := decide_eq_true k2
            clear k1 k2
            go_big_quiet (fail)
            go_wp2
            go_meet
            exact ⟨HJ.out, _, rfl⟩
          have t2 := decide_eq_false k2
          by_cases k3 : 1440 ≤ p2
          · have HJ : Hid (Value.bool true = Value.bool (!decide (okAt s j))) := Lib.hid (by rw [decide_eq_false (fun q => by have := (q _ HP.out).2.2.1; simp only at this; omega)]; rfl)
            have t3 := decide_eq_true k3
            clear k1 k2 k3
            go_big_quiet (fail)
            go_wp2
            go_meet
            exact ⟨HJ.out, _, rfl⟩
          have t3 := decide_eq_false k3
          by_cases k4 : 0 < j
          case neg =>
            have t4 : decide (0 < j) = false := decide_eq_false (by omega)
            have HJ : Hid (Value.bool false = Value.bool (!decide (okAt s j))) := Lib.hid (by
              rw [decide_eq_true (p := okAt s j)]
              · rfl
              · intro p hp
                have := HP.out
                rw [hp] at this
                injection this with this
                subst this
                exact ⟨by simp only; omega, by simp only; omega, by simp only; omega, fun q h => absurd h k4⟩)
            clear k1 k2 k3 k4
            go_big_quiet (fail)
            go_wp2
            go_meet
            exact ⟨HJ.out, _, rfl⟩
          have t4 : decide (0 < j) = true := decide_eq_true (by omega)
          obtain ⟨⟨q1, q2⟩, hq0⟩ : ∃ p, s[j - 1]? = some p := ⟨_, List.getElem?_eq_getElem (by have := HN.out; omega)⟩
          obtain ⟨g', o', hA', -, -, f3, f4⟩ := Spn.get HS1.out (j - 1) _ hq0
          injection hA' with hA'
          injection hA' with hA1 hA2
          subst hA1 hA2
          simp only at f3 f4
          have hbd := HS1.out.2.2.2.1 _ (List.mem_of_getElem? hq0)
          simp only [sbd, i64ok] at hbd
          obtain ⟨⟨-, -⟩, b5, b6⟩ := hbd
          have HQ := Lib.hid hq0
          have hq3 : q2 < 1440 ∧ 0 ≤ q2 := by
            have := HA.out (j - 1) (by omega) _ HQ.out
            simp only at this
            omega
          obtain ⟨m, hm⟩ : ∃ m, m = j - 1 := ⟨_, rfl⟩
          rw [← hm] at f4
          have w1 : IntKind.i64.wrap ((j : Int) - 1) = (m : Int) := by rw [IntKind.wrap_i64]; omega
          have w2 : IntKind.i64.wrap (q2 + 2) = q2 + 2 := by rw [IntKind.wrap_i64]; omega
          have m0 : (0 : Int) ≤ (m : Int) := by omega
          have m1 : (m : Int) < (n : Int) := by omega
          have HM := Lib.hid hm
          have hsz : w.heap.size < wr.heap.size := HX.out.lt
          clear hq0 f3 hm
          by_cases k5 : p1 < q2 + 2
          · have HJ : Hid (Value.bool true = Value.bool (!decide (okAt s j))) := Lib.hid (by rw [decide_eq_false (fun q => by have := (q _ HP.out).2.2.2 (q1, q2) k4 HQ.out; simp only at this; omega)]; rfl)
            have t5 := decide_eq_true k5
            clear k1 k2 k3 k4 k5 hq3
            go_big_quiet (fail)
            go_wp2
            go_meet
            exact ⟨HJ.out, _, rfl⟩
          · have t5 := decide_eq_false k5
            have HJ : Hid (Value.bool false = Value.bool (!decide (okAt s j))) := Lib.hid (by
              rw [decide_eq_true (p := okAt s j)]
              · rfl
              · intro p hp
                have := HP.out
                rw [hp] at this
                injection this with this
                subst this
                refine ⟨by simp only; omega, by simp only; omega, by simp only; omega, fun q _ hq => ?_⟩
                have h2 := HQ.out
                rw [hq] at h2
                injection h2 with h2
                subst h2
                simp only
                omega)
            clear k1 k2 k3 k4 k5 hq3
            go_big_quiet (fail)
            go_wp2
            go_meet
            exact ⟨HJ.out, _, rfl⟩
        case rest =>
          obtain ⟨rfl, N, rfl⟩ := hcut
          have HB2 : Hid (Below w.heap.size w ((wr.alloc (.cells #[.int .i64 p1, .int .i64 p2] 56)).drewN N)) := Lib.hid (below_drewN (HB.out.alloc HB.out.size _) N)
          by_cases hok : okAt s j
          · have HOK : Hid (∀ i, i < j + 1 → okAt s i) := Lib.hid fun i hi => by
              by_cases e : i = j
              · subst e; exact hok
              · exact HA.out i (by omega)
            rw [decide_eq_true hok]
            clear hok
            go_wp2_with fail
            go_roundw
            case rel =>
              exact ⟨j + 1, by go_num, by omega, HOK.out, HX.out.alloc _, HS1.out.alloc _, HB2.out⟩
            case measure => simp [intOf]; omega
          · obtain rfl := HD.out.trans (decide_eq_false fun h => hok (h j hlt))
            rw [decide_eq_false hok]
            clear hok
            go_wp2_with fail
            go_ret
            exact ⟨rfl, HB2.out⟩
      · obtain rfl : j = n := by omega
        obtain rfl := HD.out.trans (decide_eq_true HA.out)
        clear hq
        go_wp2_with fail
        go_ret
        exact ⟨rfl, HB.out⟩
end Go.Proofs.YtedjbjplnjnnlaaDoor
namespace Go.Proofs.YtedjbjplnjnnlaaDoor
open Go Go.RowKit Sh Leaf

set_option maxRecDepth 100000 in
set_option maxHeartbeats 2000000 in
theorem rng_in {Q : Nat → Prop} (no : Bool) (z l d lo hi : Int) (A : Option Addr) (c : Nat) (s : List (Int × Int)) (nm : List B8) (hn : nm.length ≤ 9223372036854775807) (D : Bool) (w : World)
    (hD : D = decide (¬ z = 0 ∧ ¬ l = 0 ∧ l < 4294967296 ∧ ¬ d = 0 ∧ d < 128 ∧ 0 ≤ lo ∧ lo ≤ hi ∧ hi ≤ 67108864 ∧ nok nm ∧ s.length ≤ 1440 ∧ ∀ i, i < s.length → okAt s i)) (hS : Spn w Q A c s) :
    Calls Tryd.prog 59 #[.agg (arow no z l d lo hi (.slice A s.length c) nm)] w fun e w' => e = .returned (.bool D) ∧ Below w.heap.size w w' := by
  have hb1 : ∀ o, Below w.heap.size w (w.alloc o) := fun o => (Below.refl w.heap.size w).alloc (Nat.le_refl _) o
  have hls : s.length ≤ 9223372036854775807 := by have := hS.1; have := hS.2.1; unfold maxLen at this; omega
  have hnm := fun W => name_ok nm W hn
  have hie : (sof nm).toList.isEmpty = decide (nm = []) := by
    rw [sof_toList]
    cases nm <;> simp
  have HS : Hid (∀ o, Spn (w.alloc o) Q A c s) := Lib.hid fun o => hS.alloc o
  clear hS hn
  by_cases c1 : ¬ z = 0
  case neg =>
    obtain rfl : z = 0 := Classical.byContradiction fun q => c1 q
    obtain rfl := hD.trans (decide_eq_false fun h => h.1 rfl)
    clear c1
    clear hD HS hnm hie
    go_enter Tryd.func59, Tryd.ntmps59
    go_wp2
    go_ret
    exact ⟨rfl, hb1 _⟩
  by_cases c2 : ¬ l = 0
  case neg =>
    obtain rfl : l = 0 := Classical.byContradiction fun q => c2 q
    obtain rfl := hD.trans (decide_eq_false fun h => h.2.1 rfl)
    clear c2
    clear hD HS hnm hie
    go_enter Tryd.func59, Tryd.ntmps59
    go_wp2
    go_ret
    exact ⟨rfl, hb1 _⟩
  by_cases c3 : l < 4294967296
  case neg =>
    obtain rfl := hD.trans (decide_eq_false fun h => c3 h.2.2.1)
    clear hD HS hnm hie
    go_enter Tryd.func59, Tryd.ntmps59
    go_wp2
    go_ret
    exact ⟨rfl, hb1 _⟩
  by_cases c4 : ¬ d = 0
  case neg =>
    obtain rfl : d = 0 := Classical.byContradiction fun q => c4 q
    obtain rfl := hD.trans (decide_eq_false fun h => h.2.2.2.1 rfl)
    clear c4
    clear hD HS hnm hie
    go_enter Tryd.func59, Tryd.ntmps59
    go_wp2
    go_ret
    exact ⟨rfl, hb1 _⟩
  by_cases c5 : d < 128
  case neg =>
    obtain rfl := hD.trans (decide_eq_false fun h => c5 h.2.2.2.2.1)
    clear hD HS hnm hie
    go_enter Tryd.func59, Tryd.ntmps59
    go_wp2
    go_ret
    exact ⟨rfl, hb1 _⟩
  by_cases c6 : 0 ≤ lo
  case neg =>
    obtain rfl := hD.trans (decide_eq_false fun h => c6 h.2.2.2.2.2.1)
    clear hD HS hnm hie
    go_enter Tryd.func59, Tryd.ntmps59
    go_wp2
    go_ret
    exact ⟨rfl, hb1 _⟩
  by_cases c7 : lo ≤ hi
  case neg =>
    obtain rfl := hD.trans (decide_eq_false fun h => c7 h.2.2.2.2.2.2.1)
    clear hD HS hnm hie
    go_enter Tryd.func59, Tryd.ntmps59
    go_wp2
    go_ret
    exact ⟨rfl, hb1 _⟩
  by_cases c8 : hi ≤ 67108864
  case neg =>
    obtain rfl := hD.trans (decide_eq_false fun h => c8 h.2.2.2.2.2.2.2.1)
    clear hD HS hnm hie
    go_enter Tryd.func59, Tryd.ntmps59
    go_wp2
    go_ret
    exact ⟨rfl, hb1 _⟩
  by_cases c9 : nok nm
  case neg =>
    obtain rfl := hD.trans (decide_eq_false fun h => c9 h.2.2.2.2.2.2.2.2.1)
    rw [decide_eq_false (fun e => c9 (.inl e))] at hie
    have hnm' := fun W => hnm W
    rw [decide_eq_false (fun e => c9 (.inr e))] at hnm'
    clear hD HS c9 hnm
    go_enter Tryd.func59, Tryd.ntmps59
    go_wp2_with (go_at_call 64; refine (hnm' _).mono ?_; rintro e w' ⟨rfl, rfl⟩)
    go_ret
    exact ⟨rfl, hb1 _⟩
  obtain ⟨n, hn⟩ : ∃ n, n = s.length := ⟨_, rfl⟩
  rw [← hn] at hls hD ⊢
  have HN := Lib.hid hn
  clear hn
  obtain ⟨E, hE⟩ : ∃ E, E = decide (nm = []) := ⟨_, rfl⟩
  rw [← hE] at hie
  have hnmE : E = false → nmok nm := fun e => c9.elim (fun k => absurd k (of_decide_eq_false (hE.symm.trans e))) id
  have HE := Lib.hid hnmE
  clear hE hnmE
  by_cases c10 : n ≤ 1440
  case neg =>
    obtain rfl := hD.trans (decide_eq_false fun h => c10 h.2.2.2.2.2.2.2.2.2.1)
    have c10' : ¬ (n : Int) ≤ 1440 := by omega
    clear hD HS c10 c9
    cases E
    · have hnm' := fun W => hnm W
      rw [decide_eq_true (HE.out rfl)] at hnm'
      clear hnm
      go_enter Tryd.func59, Tryd.ntmps59
      go_wp2_with (go_at_call 64; refine (hnm' _).mono ?_; rintro e w' ⟨rfl, rfl⟩)
      go_ret
      exact ⟨rfl, hb1 _⟩
    · go_enter Tryd.func59, Tryd.ntmps59
      go_wp2
      go_ret
      exact ⟨rfl, hb1 _⟩
  have c10' : (n : Int) ≤ 1440 := by omega
  have HD : Hid (D = decide (∀ i, i < n → okAt s i)) := Lib.hid (hD.trans (decide_eq_decide.2 ⟨fun h => h.2.2.2.2.2.2.2.2.2.2, fun h => ⟨c1, c2, c3, c4, c5, c6, c7, c8, c9, c10, h⟩⟩))
  clear hD c9
  exact rng_good no z l d lo hi A c s nm n D E w hls c1 c2 c3 c4 c5 c6 c7 c8 c10' hnm hie HS HN HE HD
theorem rranges {w : World} {Q : Nat → Prop} {x : Value} {a : Aut} (hx : Av w Q x a) :
    Calls Tryd.prog 59 #[x] w fun e w' => e = .returned (.bool (decide (rng a))) ∧ Below w.heap.size w w' := by
  obtain ⟨A1, c1, rfl, hS, hb⟩ := hx
  refine rng_in _ _ _ _ _ _ A1 c1 _ _ hb.2.2.2.2.2 _ w (decide_eq_decide.2 ?_) hS
  rw [← sep_iff]
  unfold rng
  constructor
  · rintro ⟨h1, h2, h3, h4, h5, h6, h7, h8, h9, h10, h11⟩
    exact ⟨by omega, by omega, by omega, by omega, by omega, h6, h7, h8, h9, by have := rng_len ⟨h1, h2, h3, h4, h5, h6, h7, h8, h9, h10, h11⟩; omega, h10, h11⟩
  · rintro ⟨h1, h2, h3, h4, h5, h6, h7, h8, h9, -, h10, h11⟩
    exact ⟨by omega, by omega, by omega, by omega, by omega, h6, h7, h8, h9, h10, h11⟩
end Go.Proofs.YtedjbjplnjnnlaaDoor
