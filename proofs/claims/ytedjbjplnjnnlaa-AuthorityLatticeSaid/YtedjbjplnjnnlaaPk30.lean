/-
  The program's equal: slices.Equal on spans, equal on authorities.
  The program's search among spans: the function value of Contains, slices.IndexFunc, slices.ContainsFunc.
-/
import Derived.Test.YtedjbjplnjnnlaaPk7
import Derived.Test.YtedjbjplnjnnlaaPk9
namespace Go.Proofs.Ytedjbjplnjnnlaa
open Go Go.RowKit Sh Leaf

set_option maxRecDepth 100000 in
set_option maxHeartbeats 1000000 in
theorem aeqs {w : World} {Q1 Q2 : Nat → Prop} {A1 A2 : Option Addr} {c1 c2 : Nat} {la lb : List (Int × Int)} (h1 : Spn w Q1 A1 c1 la) (h2 : Spn w Q2 A2 c2 lb) :
    Calls Try.prog 47 #[.slice A1 la.length c1, .slice A2 lb.length c2] w fun e w' => e = .returned (.bool (decide (la = lb))) ∧ Below w.heap.size w w' := by
  have hl1 : la.length ≤ 9223372036854775807 := by have := h1.1; have := h1.2.1; unfold maxLen at this; omega
  obtain ⟨D, hD⟩ : ∃ D, D = decide (la = lb) := ⟨_, rfl⟩
  rw [← hD]
  by_cases kl : la.length = lb.length
  case neg =>
    obtain rfl := hD.trans (decide_eq_false fun h => kl (by rw [h]))
    have kl' : ¬ (la.length : Int) = (lb.length : Int) := by omega
    clear hD h1 h2
    generalize la.length = n1 at *
    generalize lb.length = n2 at *
    go_enter Try.func47, Try.ntmps47
    go_wp2
    go_ret
    exact ⟨rfl, Below.refl _ _⟩
  obtain ⟨n, hn⟩ : ∃ n, n = la.length := ⟨_, rfl⟩
  rw [← kl, ← hn]
  have HL := Lib.hid (And.intro hn.symm (hn.trans kl).symm)
  have hln : n ≤ 9223372036854775807 := by omega
  have HQ1 := Lib.hid h1
  have HQ2 := Lib.hid h2
  have HD := Lib.hid hD
  clear h1 h2 hD hn kl hl1
  go_enter Try.func47, Try.ntmps47
  go_wp2
  go_loopw [13] (fun i wr => ∃ j : Nat, i = .int .i64 j ∧ j ≤ n ∧ (∀ i p q, i < j → la[i]? = some p → lb[i]? = some q → p = q) ∧ Spn wr Q1 A1 c1 la ∧ Spn wr Q2 A2 c2 lb ∧ Below w.heap.size w wr) (fun i _ => n - (intOf i).toNat)
  case atStart => exact ⟨0, rfl, by omega, fun i p q h => by omega, HQ1.out, HQ2.out, Below.refl _ _⟩
  case round =>
    obtain ⟨j, rfl, hj, hall, hq1, hq2, hbw⟩ := hrel
    have HB := Lib.hid hbw
    have HA := Lib.hid hall
    clear hbw hall HQ1 HQ2
    by_cases hlt : j < n
    · obtain ⟨⟨p1, p2⟩, hp⟩ : ∃ p, la[j]? = some p := ⟨_, List.getElem?_eq_getElem (by have := HL.out.1; omega)⟩
      obtain ⟨⟨q1, q2⟩, hq⟩ : ∃ p, lb[j]? = some p := ⟨_, List.getElem?_eq_getElem (by have := HL.out.2; omega)⟩
      obtain ⟨ga, oa, rfl, _, hga, x1, x2⟩ := Spn.get hq1 j _ hp
      obtain ⟨gb, ob, rfl, _, hgb, y1, y2⟩ := Spn.get hq2 j _ hq
      simp only at x1 x2 y1 y2
      have hne := fun W => run_neq_span p1 p2 q1 q2 W
      obtain ⟨B, hB⟩ : ∃ B, B = decide (p1 = q1 ∧ p2 = q2) := ⟨_, rfl⟩
      rw [← hB] at hne
      have HBB := Lib.hid hB
      have HP := Lib.hid hp
      have HQ := Lib.hid hq
      have H1 := Lib.hid hq1
      have H2 := Lib.hid hq2
      have hj0 : (0 : Int) ≤ (j : Int) := by omega
      have hjn : (j : Int) < (n : Int) := by omega
      clear hB hp hq hq1 hq2
      cases B
      · go_upto_region 6 with fail
        go_quiet (fail)
        have hF : D = false := by
          rw [HD.out]
          refine decide_eq_false (ne_at HP.out HQ.out fun e => ?_)
          injection e with e1 e2
          exact (of_decide_eq_false HBB.out.symm) ⟨e1, e2⟩
        have HF := Lib.hid hF
        have HG := Lib.hid (below_drewN HB.out nq)
        clear x1 x2 y1 y2 hF
        go_wp2_with fail
        go_ret
        exact ⟨by rw [HF.out]; rfl, HG.out⟩
      · go_upto_region 6 with fail
        go_quiet (fail)
        have HG := Lib.hid (below_drewN HB.out nq)
        clear x1 x2 y1 y2
        go_wp2_with fail
        go_roundw
        case rel =>
          refine ⟨j + 1, by go_num, by omega, fun i p q hi hp hq => ?_, H1.out, H2.out, HG.out⟩
          by_cases e : i = j
          · subst e
            have e1 := HP.out
            have e2 := HQ.out
            rw [hp] at e1
            rw [hq] at e2
            injection e1 with e1
            injection e2 with e2
            obtain ⟨k1, k2⟩ := of_decide_eq_true HBB.out.symm
            rw [e1, e2, k1, k2]
          · exact HA.out i p q (by omega) hp hq
        case measure => simp [intOf]; omega
    · obtain rfl : j = n := by omega
      have hT : D = true := by
        rw [HD.out]
        refine decide_eq_true ?_
        apply List.ext_getElem?
        intro i
        rcases Nat.lt_or_ge i j with h | h
        · obtain ⟨p, hp⟩ : ∃ p, la[i]? = some p := ⟨_, List.getElem?_eq_getElem (by have := HL.out.1; omega)⟩
          obtain ⟨q, hq⟩ : ∃ p, lb[i]? = some p := ⟨_, List.getElem?_eq_getElem (by have := HL.out.2; omega)⟩
          rw [hp, hq, HA.out i p q h hp hq]
        · rw [List.getElem?_eq_none (by have := HL.out.1; omega), List.getElem?_eq_none (by have := HL.out.2; omega)]
      have HT := Lib.hid hT
      clear hq1 hq2 hT
      go_wp2
      go_ret
      exact ⟨by rw [HT.out]; rfl, HB.out⟩
set_option maxRecDepth 100000 in
set_option maxHeartbeats 2000000 in
theorem aeq_in (n1 n2 : Bool) (z1 z2 l1 l2 d1 d2 a1 a2 b1 b2 : Int) (A1 A2 : Option Addr) (c1 c2 : Nat) (s1 s2 : List (Int × Int)) (h1 h2 : List B8) (Q1 Q2 : Nat → Prop) (D : Bool) (w : World)
    (hD : D = decide (n1 = n2 ∧ z1 = z2 ∧ l1 = l2 ∧ d1 = d2 ∧ a1 = a2 ∧ b1 = b2 ∧ h1 = h2 ∧ s1 = s2)) (hS1 : Spn w Q1 A1 c1 s1) (hS2 : Spn w Q2 A2 c2 s2) :
    Calls Try.prog 28 #[.agg (arow n1 z1 l1 d1 a1 b1 (.slice A1 s1.length c1) h1), .agg (arow n2 z2 l2 d2 a2 b2 (.slice A2 s2.length c2) h2)] w fun e w' => e = .returned (.bool D) ∧ Below w.heap.size w w' := by
  have hb := ab_below w
  have hs := sof_beq h1 h2
  by_cases kn : n1 = n2
  case neg =>
    obtain rfl := hD.trans (decide_eq_false fun h => kn h.1)
    obtain rfl : n2 = !n1 := by revert kn; cases n1 <;> cases n2 <;> decide
    clear hD kn hS1 hS2 hs
    generalize s1.length = m1 at *
    generalize s2.length = m2 at *
    cases n1
    · skip
      go_enter Try.func28, Try.ntmps28
      go_wp2
      go_ret
      exact ⟨rfl, hb _ _⟩
    · skip
      go_enter Try.func28, Try.ntmps28
      go_wp2
      go_ret
      exact ⟨rfl, hb _ _⟩
  subst kn
  have hnn : (n1 == n1) = true := by simp
  by_cases kz : z1 = z2
  case neg =>
    obtain rfl := hD.trans (decide_eq_false fun h => kz h.2.1)
    clear hD hS1 hS2 hs
    generalize s1.length = m1 at *
    generalize s2.length = m2 at *
    go_enter Try.func28, Try.ntmps28
    go_wp2
    go_ret
    exact ⟨rfl, hb _ _⟩
  subst kz
  by_cases kl : l1 = l2
  case neg =>
    obtain rfl := hD.trans (decide_eq_false fun h => kl h.2.2.1)
    clear hD hS1 hS2 hs
    generalize s1.length = m1 at *
    generalize s2.length = m2 at *
    go_enter Try.func28, Try.ntmps28
    go_wp2
    go_ret
    exact ⟨rfl, hb _ _⟩
  subst kl
  by_cases kd : d1 = d2
  case neg =>
    obtain rfl := hD.trans (decide_eq_false fun h => kd h.2.2.2.1)
    clear hD hS1 hS2 hs
    generalize s1.length = m1 at *
    generalize s2.length = m2 at *
    go_enter Try.func28, Try.ntmps28
    go_wp2
    go_ret
    exact ⟨rfl, hb _ _⟩
  subst kd
  by_cases ka : a1 = a2
  case neg =>
    obtain rfl := hD.trans (decide_eq_false fun h => ka h.2.2.2.2.1)
    clear hD hS1 hS2 hs
    generalize s1.length = m1 at *
    generalize s2.length = m2 at *
    go_enter Try.func28, Try.ntmps28
    go_wp2
    go_ret
    exact ⟨rfl, hb _ _⟩
  subst ka
  by_cases kb : b1 = b2
  case neg =>
    obtain rfl := hD.trans (decide_eq_false fun h => kb h.2.2.2.2.2.1)
    clear hD hS1 hS2 hs
    generalize s1.length = m1 at *
    generalize s2.length = m2 at *
    go_enter Try.func28, Try.ntmps28
    go_wp2
    go_ret
    exact ⟨rfl, hb _ _⟩
  subst kb
  by_cases kh : h1 = h2
  case neg =>
    obtain rfl := hD.trans (decide_eq_false fun h => kh h.2.2.2.2.2.2.1)
    rw [decide_eq_false kh] at hs
    clear hD hS1 hS2 kh
    generalize s1.length = m1 at *
    generalize s2.length = m2 at *
    go_enter Try.func28, Try.ntmps28
    go_wp2
    go_ret
    exact ⟨rfl, hb _ _⟩
  subst kh
  rw [decide_eq_true rfl] at hs
  have hD' : D = decide (s1 = s2) := hD.trans (decide_eq_decide.2 ⟨fun h => h.2.2.2.2.2.2.2, fun h => ⟨rfl, rfl, rfl, rfl, rfl, rfl, rfl, h⟩⟩)
  have hq := fun o1 o2 => aeqs ((hS1.alloc o1).alloc o2) ((hS2.alloc o1).alloc o2)
  rw [← hD'] at hq
  clear hD hD' hS1 hS2
  generalize s1.length = m1 at *
  generalize s2.length = m2 at *
  go_enter Try.func28, Try.ntmps28
  go_wp2_with fail
  refine (hq _ _).mono ?_
  rintro e w' ⟨rfl, hb2⟩
  have HF := Lib.hid ((hb _ _).trans (hb2.mono (by simp; omega)))
  clear hb2 hq hb
  go_wp2
  go_ret
  exact ⟨rfl, HF.out⟩
theorem aequal {w : World} {Q1 Q2 : Nat → Prop} {x y : Value} {a b : Aut} (hx : Av w Q1 x a) (hy : Av w Q2 y b) :
    Calls Try.prog 28 #[x, y] w fun e w' => e = .returned (.bool (decide (a = b))) ∧ Below w.heap.size w w' := by
  obtain ⟨A1, c1, rfl, hS1, -⟩ := hx
  obtain ⟨A2, c2, rfl, hS2, -⟩ := hy
  refine aeq_in _ _ _ _ _ _ _ _ _ _ _ _ A1 A2 c1 c2 _ _ _ _ Q1 Q2 _ w (decide_eq_decide.2 ?_) hS1 hS2
  obtain ⟨n1, z1, l1, d1, o1, i1, y1, h1⟩ := a
  obtain ⟨n2, z2, l2, d2, o2, i2, y2, h2⟩ := b
  simp only [Aut.mk.injEq, Int.natCast_inj]
  constructor
  · rintro ⟨e1, e2, e3, e4, e5, e6, e7, e8⟩; exact ⟨e1, e2, e3, e4, e5, e6, e8, e7⟩
  · rintro ⟨e1, e2, e3, e4, e5, e6, e7, e8⟩; exact ⟨e1, e2, e3, e4, e5, e6, e8, e7⟩
end Go.Proofs.Ytedjbjplnjnnlaa
namespace Go.Proofs.Ytedjbjplnjnnlaa
open Go Go.RowKit Sh Leaf

set_option maxRecDepth 100000 in
set_option maxHeartbeats 1000000 in
theorem aclo (s1 s2 m : Int) (g : Nat) (w : World) (hg : g < w.heap.size) (hm : w.cell? ⟨g, 0, none⟩ = some (.int .i64 m)) :
    Calls Try.prog 42 #[.agg #[.int .i64 s1, .int .i64 s2], .pointer (some ⟨g, 0, none⟩)] w fun e w' => e = .returned (.bool (decide (s1 ≤ m ∧ m ≤ s2))) ∧ Below w.heap.size w w' := by
  have hb : ∀ o, Below w.heap.size w (w.alloc o) := fun o => (Below.refl w.heap.size w).alloc (Nat.le_refl _) o
  obtain ⟨D, hD⟩ : ∃ D, D = decide (s1 ≤ m ∧ m ≤ s2) := ⟨_, rfl⟩
  rw [← hD]
  by_cases h1 : s1 ≤ m
  · by_cases h2 : m ≤ s2
    · obtain rfl := hD.trans (decide_eq_true ⟨h1, h2⟩)
      clear hD
      go_enter Try.func42, Try.ntmps42
      go_wp2
      go_ret
      exact ⟨rfl, hb _⟩
    · obtain rfl := hD.trans (decide_eq_false fun h => h2 h.2)
      clear hD
      go_enter Try.func42, Try.ntmps42
      go_wp2
      go_ret
      exact ⟨rfl, hb _⟩
  · obtain rfl := hD.trans (decide_eq_false fun h => h1 h.1)
    clear hD
    go_enter Try.func42, Try.ntmps42
    go_wp2
    go_ret
    exact ⟨rfl, hb _⟩
/-- What IndexFunc answers. -/
def IxR (l : List (Int × Int)) (m : Int) (e : Ending) : Prop := ∃ r : Int, e = .returned (.int .i64 r) ∧ (0 ≤ r ↔ spm l m)
set_option maxRecDepth 100000 in
set_option maxHeartbeats 2000000 in
theorem aindex {w : World} {Q : Nat → Prop} {A : Option Addr} {c : Nat} {l : List (Int × Int)} (h : Spn w Q A c l) (m : Int) (g : Nat) (hg : g < w.heap.size) (hm : w.cell? ⟨g, 0, none⟩ = some (.int .i64 m)) (n : Nat) (hn : n = l.length) :
    Calls Try.prog 61 #[.slice A n c, .func (.func 42) #[] #[.pointer (some ⟨g, 0, none⟩)]] w fun e w' => IxR l m e ∧ Below w.heap.size w w' := by
  have hnl : n ≤ 9223372036854775807 := by have := h.1; have := h.2.1; unfold maxLen at this; omega
  have HS := Lib.hid (h.mono (Q' := fun b => b < w.heap.size) fun b hb _ => hb)
  have HM : Hid (∀ W, Below w.heap.size w W → W.cell? ⟨g, 0, none⟩ = some (.int .i64 m)) := Lib.hid fun W hb => (World.cell?_of_block (hb.block g hg)).trans hm
  have HN := Lib.hid hn
  clear h hn hm
  go_enter Try.func61, Try.ntmps61
  go_wp2_with fail
  go_loopw [8] (fun iv wr => ∃ i : Nat, iv = .int .i64 i ∧ i ≤ n ∧ (¬ spm (l.take i) m) ∧ Below w.heap.size w wr) (fun iv _ => n - (intOf iv).toNat)
  case atStart => exact ⟨0, rfl, by omega, spm_nil _, Below.refl _ _⟩
  case round =>
    obtain ⟨i, rfl, hi, hno, hlow⟩ := hrel
    by_cases hin : i < n
    · obtain ⟨⟨s1, s2⟩, hs⟩ : ∃ s, l[i]? = some s := ⟨_, List.getElem?_eq_getElem (by have := HN.out; omega)⟩
      obtain ⟨b, o, rfl, _, hb, y1, y2⟩ := Spn.get (HS.out.low hlow) i _ hs
      simp only at y1 y2
      have hcl := aclo s1 s2 m g wr (Nat.lt_of_lt_of_le hg hlow.size) (HM.out wr hlow)
      have HSS := Lib.hid hs
      have HNO := Lib.hid hno
      have HB := Lib.hid hlow
      have hi0 : (0 : Int) ≤ (i : Int) := by omega
      have hi1 : (i : Int) < (n : Int) := by omega
      obtain ⟨D, hD⟩ : ∃ D, D = decide (s1 ≤ m ∧ m ≤ s2) := ⟨_, rfl⟩
      rw [← hD] at hcl
      have HD := Lib.hid hD
      clear hs hno hlow hD
      go_wp2_with fail
      refine hcl.mono ?_
      rintro e w2 ⟨rfl, hb2⟩
      have HB2 := Lib.hid (HB.out.trans (hb2.mono HB.out.size))
      clear hcl hb2 y1 y2
      cases D
      · have HNX : Hid (¬ spm (l.take (i + 1)) m) := Lib.hid (by
          rw [Sh.take_snoc HSS.out, spm_append, spm_cons]
          rintro (k | k | k)
          · exact HNO.out k
          · exact (of_decide_eq_false HD.out.symm) k
          · exact spm_nil _ k)
        go_wp2_with fail
        go_roundw
        case rel => exact ⟨i + 1, by go_num, by omega, HNX.out, HB2.out⟩
        case measure => simp [intOf]; omega
      · have HF : Hid (IxR l m (.returned (.int .i64 (i : Nat))) ∧ Below w.heap.size w w2) := Lib.hid ⟨⟨(i : Nat), rfl, iff_of_true (by omega) ⟨(s1, s2), List.mem_of_getElem? HSS.out, of_decide_eq_true HD.out.symm⟩⟩, HB2.out⟩
        go_wp2_with fail
        go_ret
        exact HF.out
    · obtain rfl : i = n := by omega
      have HF : Hid (IxR l m (.returned (.int .i64 (-1))) ∧ Below w.heap.size w wr) := Lib.hid ⟨⟨-1, rfl, by
        rw [HN.out, List.take_length] at hno
        constructor
        · omega
        · exact fun h => absurd h hno⟩, hlow⟩
      clear hno hlow
      go_wp2_with fail
      go_ret
      exact HF.out
set_option maxRecDepth 100000 in
theorem acontf {w : World} {Q : Nat → Prop} {A : Option Addr} {c : Nat} {l : List (Int × Int)} (h : Spn w Q A c l) (m : Int) (g : Nat) (hg : g < w.heap.size) (hm : w.cell? ⟨g, 0, none⟩ = some (.int .i64 m)) (n : Nat) (hn : n = l.length) (D : Bool) (hD : D = true ↔ spm l m) :
    Calls Try.prog 41 #[.slice A n c, .func (.func 42) #[] #[.pointer (some ⟨g, 0, none⟩)]] w fun e w' => e = .returned (.bool D) ∧ Below w.heap.size w w' := by
  have hix := aindex h m g hg hm n hn
  clear h hm hn
  go_enter Try.func41, Try.ntmps41
  go_wp2_with fail
  refine hix.mono ?_
  rintro e w' ⟨⟨r, rfl, hr⟩, hb⟩
  have HB := Lib.hid hb
  have hDr : D = true ↔ 0 ≤ r := hD.trans hr.symm
  clear hix hb hr hD
  have e : D = decide (0 ≤ r) := by
    by_cases h0 : 0 ≤ r
    · rw [decide_eq_true h0]; exact hDr.2 h0
    · rw [decide_eq_false h0, Bool.eq_false_iff]; exact fun h => h0 (hDr.1 h)
  have HE := Lib.hid e
  clear e hDr
  go_wp2_with fail
  go_ret
  exact ⟨by rw [HE.out]; rfl, HB.out⟩
end Go.Proofs.Ytedjbjplnjnnlaa
