/-
  The program's search among spans: the function value of Contains, slices.IndexFunc, slices.ContainsFunc.
  The program's equal: slices.Equal on spans, equal on authorities.
  The reference's AuthorityOk.
  The reference's in, Contains.
-/
import Derived.Test.YtedjbjplnjnnlaaPk9
import Derived.Test.YtedjbjplnjnnlaaPk7
import Derived.Deep.RegionHeld3
import Derived.Test.YtedjbjplnjnnlaaPk36
import Derived.Test.YtedjbjplnjnnlaaPk17
import Derived.Test.YtedjbjplnjnnlaaPk18
import Derived.Test.YtedjbjplnjnnlaaPk34
namespace Go.Proofs.Ytedjbjplnjnnlaa
open Go Go.RowKit Sh Leaf

set_option maxRecDepth 100000 in
set_option maxHeartbeats 1000000 in
theorem aclo (s1 s2 m : Int) (g : Nat) (w : World) (hg : g < w.heap.size) (hm : w.cell? ⟨g, 0, none⟩ = some (.int .i64 m)) :
    Calls Try.prog 42 #[.agg #[.int .i64 s1, .int .i64 s2], .pointer (some ⟨g, 0, none⟩)] w fun e w' => e = .returned (.bool (decide (s1 ≤ m ∧ m ≤ s2))) ∧ Below w.heap.size w w' := by
  have hb : ∀ o, Below w.heap.size w (w.alloc o) := fun o => (Below.refl w.heap.size w).alloc (Nat.le_refl _) o
  obtain ⟨D, hD⟩ : ∃ D, D = decide (s1 ≤ m ∧ m ≤ s2) := ⟨_, rfl⟩
  rw [← hD]
  by_cases h1 : s1 ≤ m
  · by_cases h2 : m ≤ s2
    · obtain rfl := hD.trans (decide_eq_true ⟨h1, h2⟩)
      clear hD
      go_enter Try.func42, Try.ntmps42
      go_wp2
      go_ret
      exact ⟨rfl, hb _⟩
    · obtain rfl := hD.trans (decide_eq_false fun h => h2 h.2)
      clear hD
      go_enter Try.func42, Try.ntmps42
      go_wp2
      go_ret
      exact ⟨rfl, hb _⟩
  · obtain rfl := hD.trans (decide_eq_false fun h => h1 h.1)
    clear hD
    go_enter Try.func42, Try.ntmps42
    go_wp2
    go_ret
    exact ⟨rfl, hb _⟩
/-- What IndexFunc answers. -/
def IxR (l : List (Int × Int)) (m : Int) (e : Ending) : Prop := ∃ r : Int, e = .returned (.int .i64 r) ∧ (0 ≤ r ↔ spm l m)
set_option maxRecDepth 100000 in
set_option maxHeartbeats 2000000 in
theorem aindex {w : World} {Q : Nat → Prop} {A : Option Addr} {c : Nat} {l : List (Int × Int)} (h : Spn w Q A c l) (m : Int) (g : Nat) (hg : g < w.heap.size) (hm : w.cell? ⟨g, 0, none⟩ = some (.int .i64 m)) (n : Nat) (hn : n = l.length) :
    Calls Try.prog 61 #[.slice A n c, .func (.func 42) #[] #[.pointer (some ⟨g, 0, none⟩)]] w fun e w' => IxR l m e ∧ Below w.heap.size w w' := by
  have hnl : n ≤ 9223372036854775807 := by have := h.1; have := h.2.1; unfold maxLen at this; omega
  have HS := Lib.hid (h.mono (Q' := fun b => b < w.heap.size) fun b hb _ => hb)
  have HM : Hid (∀ W, Below w.heap.size w W → W.cell? ⟨g, 0, none⟩ = some (.int .i64 m)) := Lib.hid fun W hb => (World.cell?_of_block (hb.block g hg)).trans hm
  have HN := Lib.hid hn
  clear h hn hm
  go_enter Try.func61, Try.ntmps61
  go_wp2_with fail
  go_loopw [8] (fun iv wr => ∃ i : Nat, iv = .int .i64 i ∧ i ≤ n ∧ (¬ spm (l.take i) m) ∧ Below w.heap.size w wr) (fun iv _ => n - (intOf iv).toNat)
  case atStart => exact ⟨0, rfl, by omega, spm_nil _, Below.refl _ _⟩
  case round =>
    obtain ⟨i, rfl, hi, hno, hlow⟩ := hrel
    by_cases hin : i < n
    · obtain ⟨⟨s1, s2⟩, hs⟩ : ∃ s, l[i]? = some s := ⟨_, List.getElem?_eq_getElem (by have := HN.out; omega)⟩
      obtain ⟨b, o, rfl, _, hb, y1, y2⟩ := Spn.get (HS.out.low hlow) i _ hs
      simp only at y1 y2
      have hcl := aclo s1 s2 m g wr (Nat.lt_of_lt_of_le hg hlow.size) (HM.out wr hlow)
      have HSS := Lib.hid hs
      have HNO := Lib.hid hno
      have HB := Lib.hid hlow
      have hi0 : (0 : Int) ≤ (i : Int) := by omega
      have hi1 : (i : Int) < (n : Int) := by omega
      obtain ⟨D, hD⟩ : ∃ D, D = decide (s1 ≤ m ∧ m ≤ s2) := ⟨_, rfl⟩
      rw [← hD] at hcl
      have HD := Lib.hid hD
      clear hs hno hlow hD
      go_wp2_with fail
      refine hcl.mono ?_
      rintro e w2 ⟨rfl, hb2⟩
      have HB2 := Lib.hid (HB.out.trans (hb2.mono HB.out.size))
      clear hcl hb2 y1 y2
      cases D
      · have HNX : Hid (¬ spm (l.take (i + 1)) m) := Lib.hid (by
          rw [Sh.take_snoc HSS.out, spm_append, spm_cons]
          rintro (k | k | k)
          · exact HNO.out k
          · exact (of_decide_eq_false HD.out.symm) k
          · exact spm_nil _ k)
        go_wp2_with fail
        go_roundw
        case rel => exact ⟨i + 1, by go_num, by omega, HNX.out, HB2.out⟩
        case measure => simp [intOf]; omega
      · have HF : Hid (IxR l m (.returned (.int .i64 (i : Nat))) ∧ Below w.heap.size w w2) := Lib.hid ⟨⟨(i : Nat), rfl, iff_of_true (by omega) ⟨(s1, s2), List.mem_of_getElem? HSS.out, of_decide_eq_true HD.out.symm⟩⟩, HB2.out⟩
        go_wp2_with fail
        go_ret
        exact HF.out
    · obtain rfl : i = n := by omega
      have HF : Hid (IxR l m (.returned (.int .i64 (-1))) ∧ Below w.heap.size w wr) := Lib.hid ⟨⟨-1, rfl, by
        rw [HN.out, List.take_length] at hno
        constructor
        · omega
        · exact fun h => absurd h hno⟩, hlow⟩
      clear hno hlow
      go_wp2_with fail
      go_ret
      exact HF.out
set_option maxRecDepth 100000 in
theorem acontf {w : World} {Q : Nat → Prop} {A : Option Addr} {c : Nat} {l : List (Int × Int)} (h : Spn w Q A c l) (m : Int) (g : Nat) (hg : g < w.heap.size) (hm : w.cell? ⟨g, 0, none⟩ = some (.int .i64 m)) (n : Nat) (hn : n = l.length) (D : Bool) (hD : D = true ↔ spm l m) :
    Calls Try.prog 41 #[.slice A n c, .func (.func 42) #[] #[.pointer (some ⟨g, 0, none⟩)]] w fun e w' => e = .returned (.bool D) ∧ Below w.heap.size w w' := by
  have hix := aindex h m g hg hm n hn
  clear h hm hn
  go_enter Try.func41, Try.ntmps41
  go_wp2_with fail
  refine hix.mono ?_
  rintro e w' ⟨⟨r, rfl, hr⟩, hb⟩
  have HB := Lib.hid hb
  have hDr : D = true ↔ 0 ≤ r := hD.trans hr.symm
  clear hix hb hr hD
  have e : D = decide (0 ≤ r) := by
    by_cases h0 : 0 ≤ r
    · rw [decide_eq_true h0]; exact hDr.2 h0
    · rw [decide_eq_false h0, Bool.eq_false_iff]; exact fun h => h0 (hDr.1 h)
  have HE := Lib.hid e
  clear e hDr
  go_wp2_with fail
  go_ret
  exact ⟨by rw [HE.out]; rfl, HB.out⟩
end Go.Proofs.Ytedjbjplnjnnlaa
namespace Go.Proofs.Ytedjbjplnjnnlaa
open Go Go.RowKit Sh Leaf

set_option maxRecDepth 100000 in
set_option maxHeartbeats 1000000 in
theorem aeqs {w : World} {Q1 Q2 : Nat → Prop} {A1 A2 : Option Addr} {c1 c2 : Nat} {la lb : List (Int × Int)} (h1 : Spn w Q1 A1 c1 la) (h2 : Spn w Q2 A2 c2 lb) :
    Calls Try.prog 47 #[.slice A1 la.length c1, .slice A2 lb.length c2] w fun e w' => e = .returned (.bool (decide (la = lb))) ∧ Below w.heap.size w w' := by
  have hl1 : la.length ≤ 9223372036854775807 := by have := h1.1; have := h1.2.1; unfold maxLen at this; omega
  obtain ⟨D, hD⟩ : ∃ D, D = decide (la = lb) := ⟨_, rfl⟩
  rw [← hD]
  by_cases kl : la.length = lb.length
  case neg =>
    obtain rfl := hD.trans (decide_eq_false fun h => kl (by rw [h]))
    have kl' : ¬ (la.length : Int) = (lb.length : Int) := by omega
    clear hD h1 h2
    generalize la.length = n1 at *
    generalize lb.length = n2 at *
    go_enter Try.func47, Try.ntmps47
    go_wp2
    go_ret
    exact ⟨rfl, Below.refl _ _⟩
  obtain ⟨n, hn⟩ : ∃ n, n = la.length := ⟨_, rfl⟩
  rw [← kl, ← hn]
  have HL := Lib.hid (And.intro hn.symm (hn.trans kl).symm)
  have hln : n ≤ 9223372036854775807 := by omega
  have HQ1 := Lib.hid h1
  have HQ2 := Lib.hid h2
  have HD := Lib.hid hD
  clear h1 h2 hD hn kl hl1
  go_enter Try.func47, Try.ntmps47
  go_wp2
  go_loopw [13] (fun i wr => ∃ j : Nat, i = .int .i64 j ∧ j ≤ n ∧ (∀ i p q, i < j → la[i]? = some p → lb[i]? = some q → p = q) ∧ Spn wr Q1 A1 c1 la ∧ Spn wr Q2 A2 c2 lb ∧ Below w.heap.size w wr) (fun i _ => n - (intOf i).toNat)
  case atStart => exact ⟨0, rfl, by omega, fun i p q h => by omega, HQ1.out, HQ2.out, Below.refl _ _⟩
  case round =>
    obtain ⟨j, rfl, hj, hall, hq1, hq2, hbw⟩ := hrel
    have HB := Lib.hid hbw
    have HA := Lib.hid hall
    clear hbw hall HQ1 HQ2
    by_cases hlt : j < n
    · obtain ⟨⟨p1, p2⟩, hp⟩ : ∃ p, la[j]? = some p := ⟨_, List.getElem?_eq_getElem (by have := HL.out.1; omega)⟩
      obtain ⟨⟨q1, q2⟩, hq⟩ : ∃ p, lb[j]? = some p := ⟨_, List.getElem?_eq_getElem (by have := HL.out.2; omega)⟩
      obtain ⟨ga, oa, rfl, _, hga, x1, x2⟩ := Spn.get hq1 j _ hp
      obtain ⟨gb, ob, rfl, _, hgb, y1, y2⟩ := Spn.get hq2 j _ hq
      simp only at x1 x2 y1 y2
      have hne := fun W => run_neq_span p1 p2 q1 q2 W
      obtain ⟨B, hB⟩ : ∃ B, B = decide (p1 = q1 ∧ p2 = q2) := ⟨_, rfl⟩
      rw [← hB] at hne
      have HBB := Lib.hid hB
      have HP := Lib.hid hp
      have HQ := Lib.hid hq
      have H1 := Lib.hid hq1
      have H2 := Lib.hid hq2
      have hj0 : (0 : Int) ≤ (j : Int) := by omega
      have hjn : (j : Int) < (n : Int) := by omega
      clear hB hp hq hq1 hq2
      cases B
      · go_upto_region 6 with fail
        go_quiet (fail)
        have hF : D = false := by
          rw [HD.out]
          refine decide_eq_false (ne_at HP.out HQ.out fun e => ?_)
          injection e with e1 e2
          exact (of_decide_eq_false HBB.out.symm) ⟨e1, e2⟩
        have HF := Lib.hid hF
        have HG := Lib.hid (below_drewN HB.out nq)
        clear x1 x2 y1 y2 hF
        go_wp2_with fail
        go_ret
        exact ⟨by rw [HF.out]; rfl, HG.out⟩
      · go_upto_region 6 with fail
        go_quiet (fail)
        have HG := Lib.hid (below_drewN HB.out nq)
        clear x1 x2 y1 y2
        go_wp2_with fail
        go_roundw
        case rel =>
          refine ⟨j + 1, by go_num, by omega, fun i p q hi hp hq => ?_, H1.out, H2.out, HG.out⟩
          by_cases e : i = j
          · subst e
            have e1 := HP.out
            have e2 := HQ.out
            rw [hp] at e1
            rw [hq] at e2
            injection e1 with e1
            injection e2 with e2
            obtain ⟨k1, k2⟩ := of_decide_eq_true HBB.out.symm
            rw [e1, e2, k1, k2]
          · exact HA.out i p q (by omega) hp hq
        case measure => simp [intOf]; omega
    · obtain rfl : j = n := by omega
      have hT : D = true := by
        rw [HD.out]
        refine decide_eq_true ?_
        apply List.ext_getElem?
        intro i
        rcases Nat.lt_or_ge i j with h | h
        · obtain ⟨p, hp⟩ : ∃ p, la[i]? = some p := ⟨_, List.getElem?_eq_getElem (by have := HL.out.1; omega)⟩
          obtain ⟨q, hq⟩ : ∃ p, lb[i]? = some p := ⟨_, List.getElem?_eq_getElem (by have := HL.out.2; omega)⟩
          rw [hp, hq, HA.out i p q h hp hq]
        · rw [List.getElem?_eq_none (by have := HL.out.1; omega), List.getElem?_eq_none (by have := HL.out.2; omega)]
      have HT := Lib.hid hT
      clear hq1 hq2 hT
      go_wp2
      go_ret
      exact ⟨by rw [HT.out]; rfl, HB.out⟩
set_option maxRecDepth 100000 in
set_option maxHeartbeats 2000000 in
theorem aeq_in (n1 n2 : Bool) (z1 z2 l1 l2 d1 d2 a1 a2 b1 b2 : Int) (A1 A2 : Option Addr) (c1 c2 : Nat) (s1 s2 : List (Int × Int)) (h1 h2 : List B8) (Q1 Q2 : Nat → Prop) (D : Bool) (w : World)
    (hD : D = decide (n1 = n2 ∧ z1 = z2 ∧ l1 = l2 ∧ d1 = d2 ∧ a1 = a2 ∧ b1 = b2 ∧ h1 = h2 ∧ s1 = s2)) (hS1 : Spn w Q1 A1 c1 s1) (hS2 : Spn w Q2 A2 c2 s2) :
    Calls Try.prog 28 #[.agg (arow n1 z1 l1 d1 a1 b1 (.slice A1 s1.length c1) h1), .agg (arow n2 z2 l2 d2 a2 b2 (.slice A2 s2.length c2) h2)] w fun e w' => e = .returned (.bool D) ∧ Below w.heap.size w w' := by
  have hb := ab_below w
  have hs := sof_beq h1 h2
  by_cases kn : n1 = n2
  case neg =>
    obtain rfl := hD.trans (decide_eq_false fun h => kn h.1)
    obtain rfl : n2 = !n1 := by revert kn; cases n1 <;> cases n2 <;> decide
    clear hD kn hS1 hS2 hs
    generalize s1.length = m1 at *
    generalize s2.length = m2 at *
    cases n1
    · skip
      go_enter Try.func28, Try.ntmps28
      go_wp2
      go_ret
      exact ⟨rfl, hb _ _⟩
    · skip
      go_enter Try.func28, Try.ntmps28
      go_wp2
      go_ret
      exact ⟨rfl, hb _ _⟩
  subst kn
  have hnn : (n1 == n1) = true := by simp
  by_cases kz : z1 = z2
  case neg =>
    obtain rfl := hD.trans (decide_eq_false fun h => kz h.2.1)
    clear hD hS1 hS2 hs
    generalize s1.length = m1 at *
    generalize s2.length = m2 at *
    go_enter Try.func28, Try.ntmps28
    go_wp2
    go_ret
    exact ⟨rfl, hb _ _⟩
  subst kz
  by_cases kl : l1 = l2
  case neg =>
    obtain rfl := hD.trans (decide_eq_false fun h => kl h.2.2.1)
    clear hD hS1 hS2 hs
    generalize s1.length = m1 at *
    generalize s2.length = m2 at *
    go_enter Try.func28, Try.ntmps28
    go_wp2
    go_ret
    exact ⟨rfl, hb _ _⟩
  subst kl
  by_cases kd : d1 = d2
  case neg =>
    obtain rfl := hD.trans (decide_eq_false fun h => kd h.2.2.2.1)
    clear hD hS1 hS2 hs
    generalize s1.length = m1 at *
    generalize s2.length = m2 at *
    go_enter Try.func28, Try.ntmps28
    go_wp2
    go_ret
    exact ⟨rfl, hb _ _⟩
  subst kd
  by_cases ka : a1 = a2
  case neg =>
    obtain rfl := hD.trans (decide_eq_false fun h => ka h.2.2.2.2.1)
    clear hD hS1 hS2 hs
    generalize s1.length = m1 at *
    generalize s2.length = m2 at *
    go_enter Try.func28, Try.ntmps28
    go_wp2
    go_ret
    exact ⟨rfl, hb _ _⟩
  subst ka
  by_cases kb : b1 = b2
  case neg =>
    obtain rfl := hD.trans (decide_eq_false fun h => kb h.2.2.2.2.2.1)
    clear hD hS1 hS2 hs
    generalize s1.length = m1 at *
    generalize s2.length = m2 at *
    go_enter Try.func28, Try.ntmps28
    go_wp2
    go_ret
    exact ⟨rfl, hb _ _⟩
  subst kb
  by_cases kh : h1 = h2
  case neg =>
    obtain rfl := hD.trans (decide_eq_false fun h => kh h.2.2.2.2.2.2.1)
    rw [decide_eq_false kh] at hs
    clear hD hS1 hS2 kh
    generalize s1.length = m1 at *
    generalize s2.length = m2 at *
    go_enter Try.func28, Try.ntmps28
    go_wp2
    go_ret
    exact ⟨rfl, hb _ _⟩
  subst kh
  rw [decide_eq_true rfl] at hs
  have hD' : D = decide (s1 = s2) := hD.trans (decide_eq_decide.2 ⟨fun h => h.2.2.2.2.2.2.2, fun h => ⟨rfl, rfl, rfl, rfl, rfl, rfl, rfl, h⟩⟩)
  have hq := fun o1 o2 => aeqs ((hS1.alloc o1).alloc o2) ((hS2.alloc o1).alloc o2)
  rw [← hD'] at hq
  clear hD hD' hS1 hS2
  generalize s1.length = m1 at *
  generalize s2.length = m2 at *
  go_enter Try.func28, Try.ntmps28
  go_wp2_with fail
  refine (hq _ _).mono ?_
  rintro e w' ⟨rfl, hb2⟩
  have HF := Lib.hid ((hb _ _).trans (hb2.mono (by simp; omega)))
  clear hb2 hq hb
  go_wp2
  go_ret
  exact ⟨rfl, HF.out⟩
theorem aequal {w : World} {Q1 Q2 : Nat → Prop} {x y : Value} {a b : Aut} (hx : Av w Q1 x a) (hy : Av w Q2 y b) :
    Calls Try.prog 28 #[x, y] w fun e w' => e = .returned (.bool (decide (a = b))) ∧ Below w.heap.size w w' := by
  obtain ⟨A1, c1, rfl, hS1, -⟩ := hx
  obtain ⟨A2, c2, rfl, hS2, -⟩ := hy
  refine aeq_in _ _ _ _ _ _ _ _ _ _ _ _ A1 A2 c1 c2 _ _ _ _ Q1 Q2 _ w (decide_eq_decide.2 ?_) hS1 hS2
  obtain ⟨n1, z1, l1, d1, o1, i1, y1, h1⟩ := a
  obtain ⟨n2, z2, l2, d2, o2, i2, y2, h2⟩ := b
  simp only [Aut.mk.injEq, Int.natCast_inj]
  constructor
  · rintro ⟨e1, e2, e3, e4, e5, e6, e7, e8⟩; exact ⟨e1, e2, e3, e4, e5, e6, e8, e7⟩
  · rintro ⟨e1, e2, e3, e4, e5, e6, e7, e8⟩; exact ⟨e1, e2, e3, e4, e5, e6, e8, e7⟩
end Go.Proofs.Ytedjbjplnjnnlaa
namespace Go.Proofs.Ytedjbjplnjnnlaa
open Go Go.RowKit Sh Leaf

/-- What closed leaves: the summary, or the empty one. -/
theorem clo_av {z ln F L D : Nat} {M : Nat → Bool} {nm : List B8} {w : World} {B : Nat} {x : Value} (hz : z ≠ 0) (hz2 : z < 18446744073709551616) (hl : ln ≠ 0) (hl2 : ln < 4294967296) (hL : L ≤ 67108864) (hn : nok nm)
    (h : ((∀ y, ¬ inT F L D (tm M) y) ∧ x = .agg (arow true 0 0 0 0 0 (.slice none 0 0) [])) ∨ ∃ a A c, Canon z ln (inT F L D (tm M)) nm a ∧ x = .agg (avl a A c) ∧ Spn w (fun b => B ≤ b) A c a.daily) :
    ∃ c, Av w (fun b => B ≤ b) x c ∧ (((∀ y, ¬ inT F L D (tm M) y) ∧ c = .never) ∨ Canon z ln (inT F L D (tm M)) nm c) := by
  rcases h with ⟨h0, rfl⟩ | ⟨a, A, c, ha, rfl, hS⟩
  · exact ⟨.never, av_never _ _, .inl ⟨h0, rfl⟩⟩
  · exact ⟨a, ⟨A, c, rfl, hS, aok_abd (canon_set ha hz hz2 hl hl2 hL hn).1⟩, .inr ha⟩
set_option maxRecDepth 100000 in
set_option maxHeartbeats 2000000 in
theorem raok_t (z l d lo hi : Int) (A : Option Addr) (n c : Nat) (nm : List B8) (D : Bool) (w w1 : World) (hw1 : w1 = w.alloc (.cells (arow true z l d lo hi (.slice A n c) nm) 25))
    (k4 : Calls Try.prog 15 #[.agg (arow true z l d lo hi (.slice A n c) nm), .agg (arow true 0 0 0 0 0 (.slice none 0 0) [])] w1 fun e w' => e = .returned (.bool D) ∧ Below w1.heap.size w1 w') :
    Calls Try.prog 14 #[.agg (arow true z l d lo hi (.slice A n c) nm)] w fun e w' => e = .returned (.bool D) ∧ Below w.heap.size w w' := by
  have HB : Hid (Below w.heap.size w w1) := Lib.hid (by rw [hw1]; exact (Below.refl w.heap.size w).alloc (Nat.le_refl _) _)
  have esn : sof [] = { data := #[] } := by unfold sof; rfl
  unfold arow at k4
  rw [esn] at k4
  clear esn
  subst hw1
  go_enter Try.func14, Try.ntmps14
  go_wp2_with fail
  refine k4.mono ?_
  rintro e w2 ⟨rfl, hb2⟩
  have HF := Lib.hid (HB.out.trans (hb2.mono HB.out.size))
  clear hb2
  go_wp2_with fail
  go_ret
  exact ⟨rfl, HF.out⟩
set_option maxRecDepth 100000 in
set_option maxHeartbeats 2000000 in
theorem raok_f (z l d lo hi : Int) (A : Option Addr) (n c : Nat) (nm : List B8) (D R : Bool) (w w1 : World) (hw1 : w1 = w.alloc (.cells (arow false z l d lo hi (.slice A n c) nm) 25)) (hRD : R = false → D = false)
    (T : World → Nat → Prop) (C : World → Value → Prop)
    (k1 : ∀ W, Below w1.heap.size w1 W → Calls Try.prog 30 #[.agg (arow false z l d lo hi (.slice A n c) nm)] W fun e w' => e = .returned (.bool R) ∧ Below w1.heap.size w1 w')
    (k2 : R = true → ∀ W, Below w1.heap.size w1 W → Calls Try.prog 32 #[.agg (arow false z l d lo hi (.slice A n c) nm)] W fun e w' => (∃ g, e = .returned (.pointer (some ⟨g, 0, none⟩)) ∧ T w' g) ∧ Below w1.heap.size w1 w')
    (k3 : R = true → ∀ W g, Below w1.heap.size w1 W → T W g → Calls Try.prog 31 #[.agg (arow false z l d lo hi (.slice A n c) nm), .pointer (some ⟨g, 0, none⟩)] W fun e w' => (∃ y, e = .returned y ∧ C w' y) ∧ Below w1.heap.size w1 w')
    (k4 : ∀ W y, Below w1.heap.size w1 W → C W y → Calls Try.prog 15 #[.agg (arow false z l d lo hi (.slice A n c) nm), y] W fun e w' => e = .returned (.bool D) ∧ Below w1.heap.size w1 w') :
    Calls Try.prog 14 #[.agg (arow false z l d lo hi (.slice A n c) nm)] w fun e w' => e = .returned (.bool D) ∧ Below w.heap.size w w' := by
  have hsz : w1.heap.size = w.heap.size + 1 := by rw [hw1]; simp
  have hR : ARow w1 w.heap.size false z l d lo hi (.slice A n c) nm := by rw [hw1]; exact Whole.here _ _ _
  have HB : Hid (Below w.heap.size w w1) := Lib.hid (by rw [hw1]; exact (Below.refl w.heap.size w).alloc (Nat.le_refl _) _)
  have hcc : ∀ W, Below w1.heap.size w1 W → W.cell? ⟨w.heap.size, 0, none⟩ = some (.bool false) ∧ W.cell? ⟨w.heap.size, 1, none⟩ = some (.int .u64 z) ∧ W.cell? ⟨w.heap.size, 2, none⟩ = some (.int .u64 l) ∧ W.cell? ⟨w.heap.size, 3, none⟩ = some (.int .u64 d) ∧ W.cell? ⟨w.heap.size, 4, none⟩ = some (.int .i64 lo) ∧ W.cell? ⟨w.heap.size, 5, none⟩ = some (.int .i64 hi) ∧ W.cell? ⟨w.heap.size, 6, none⟩ = some (.slice A n c) ∧ W.cell? ⟨w.heap.size, 7, none⟩ = some (.string (sof nm)) := fun W hb => ARow.cells (Whole.below hR hb (by omega))
  have hc0 := hcc w1 (Below.refl _ _)
  have hbr := Below.refl w1.heap.size w1
  clear hR hsz
  go_enter Try.func14, Try.ntmps14
  go_wp2_with fail
  rw [← hw1]
  clear hw1
  cases R
  · obtain rfl := hRD rfl
    clear k2 k3 k4
    refine wp_region_held_drew (S := fun W => W.cell? ⟨w.heap.size, 0, none⟩ = some (.bool false) ∧ W.cell? ⟨w.heap.size, 1, none⟩ = some (.int .u64 z) ∧ W.cell? ⟨w.heap.size, 2, none⟩ = some (.int .u64 l) ∧ W.cell? ⟨w.heap.size, 3, none⟩ = some (.int .u64 d) ∧ W.cell? ⟨w.heap.size, 4, none⟩ = some (.int .i64 lo) ∧ W.cell? ⟨w.heap.size, 5, none⟩ = some (.int .i64 hi) ∧ W.cell? ⟨w.heap.size, 6, none⟩ = some (.slice A n c) ∧ W.cell? ⟨w.heap.size, 7, none⟩ = some (.string (sof nm))) (by kernel_rfl) (hcc _ (Below.refl _ _).drew) (fun hHeld => ?_)
    apply wpAnyH_take (i := 0) rfl (by kernel_rfl) (by kernel_rfl) (by kernel_rfl)
    case hQ => exact fun _ _ _ h => h
    case hS => exact hHeld
    case hy => (refine Or.inl ⟨by rfl, ?_⟩; intro w hSw; go_split_ands; go_simp; (try with_reducible rfl))
    (try simp only [List.getElem_toArray, List.getElem_cons_zero, Act.put, List.setIfInBounds_toArray, List.set_cons_zero, List.set_cons_succ])
    refine wpAnyH_ready (rs := [1]) (by kernel_rfl) (by simp) ?_
    refine AllReadyH.cons rfl (fun K hK => ?_) AllReadyH.nil
    (try simp only [List.getElem_toArray, List.getElem_cons_succ, List.getElem_cons_zero])
    go_simp
    go_at_call 30
    refine (k1 _ (Below.drew hbr)).mono ?_
    rintro e w2 ⟨rfl, hb2⟩
    refine hK.out _ _ (hcc _ hb2) (fun hHeld => ?_)
    clear hK K
    (try simp only [List.getElem_toArray, List.getElem_cons_succ, List.getElem_cons_zero, Act.put, List.setIfInBounds_toArray, List.set_cons_zero, List.set_cons_succ])
    apply wpAnyH_take (i := 2) rfl (by kernel_rfl) (by kernel_rfl) (by kernel_rfl)
    case hQ => exact fun _ _ _ h => h
    case hS => exact hHeld
    case hy => (refine Or.inl ⟨by rfl, ?_⟩; intro w hSw; go_split_ands; go_simp; (try with_reducible rfl))
    (try simp only [List.getElem_toArray, List.getElem_cons_succ, List.getElem_cons_zero, Act.put, List.setIfInBounds_toArray, List.set_cons_zero, List.set_cons_succ])
    apply wpAnyH_take (i := 3) rfl (by kernel_rfl) (by kernel_rfl) (by kernel_rfl)
    case hQ => exact fun _ _ _ h => h
    case hS => exact hHeld
    case hy => exact Or.inr ⟨by rfl, rfl⟩
    (try simp only [List.getElem_toArray, List.getElem_cons_succ, List.getElem_cons_zero, Act.put, List.setIfInBounds_toArray, List.set_cons_zero, List.set_cons_succ])
    apply wpAnyH_take (i := 4) rfl (by kernel_rfl) (by kernel_rfl) (by kernel_rfl)
    case hQ => exact fun _ _ _ h => h
    case hS => exact hHeld
    case hy => exact Or.inr ⟨by rfl, rfl⟩
    (try simp only [List.getElem_toArray, List.getElem_cons_succ, List.getElem_cons_zero, Act.put, List.setIfInBounds_toArray, List.set_cons_zero, List.set_cons_succ])
    apply wpAnyH_take (i := 5) rfl (by kernel_rfl) (by kernel_rfl) (by kernel_rfl)
    case hQ => exact fun _ _ _ h => h
    case hS => exact hHeld
    case hy => exact Or.inr ⟨by rfl, rfl⟩
    (try simp only [List.getElem_toArray, List.getElem_cons_succ, List.getElem_cons_zero, Act.put, List.setIfInBounds_toArray, List.set_cons_zero, List.set_cons_succ])
    apply wpAnyH_take (i := 6) rfl (by kernel_rfl) (by kernel_rfl) (by kernel_rfl)
    case hQ => exact fun _ _ _ h => h
    case hS => exact hHeld
    case hy => exact Or.inr ⟨by rfl, rfl⟩
    (try simp only [List.getElem_toArray, List.getElem_cons_succ, List.getElem_cons_zero, Act.put, List.setIfInBounds_toArray, List.set_cons_zero, List.set_cons_succ])
    apply wpAnyH_take (i := 7) rfl (by kernel_rfl) (by kernel_rfl) (by kernel_rfl)
    case hQ => exact fun _ _ _ h => h
    case hS => exact hHeld
    case hy => exact Or.inr ⟨by rfl, rfl⟩
    (try simp only [List.getElem_toArray, List.getElem_cons_succ, List.getElem_cons_zero, Act.put, List.setIfInBounds_toArray, List.set_cons_zero, List.set_cons_succ])
    apply wpAnyH_take (i := 8) rfl (by kernel_rfl) (by kernel_rfl) (by kernel_rfl)
    case hQ => exact fun _ _ _ h => h
    case hS => exact hHeld
    case hy => exact Or.inr ⟨by rfl, rfl⟩
    (try simp only [List.getElem_toArray, List.getElem_cons_succ, List.getElem_cons_zero, Act.put, List.setIfInBounds_toArray, List.set_cons_zero, List.set_cons_succ])
    apply wpAnyH_take (i := 9) rfl (by kernel_rfl) (by kernel_rfl) (by kernel_rfl)
    case hQ => exact fun _ _ _ h => h
    case hS => exact hHeld
    case hy => (refine Or.inl ⟨by rfl, ?_⟩; intro w hSw; go_split_ands; go_simp; (try with_reducible rfl))
    (try simp only [List.getElem_toArray, List.getElem_cons_succ, List.getElem_cons_zero, Act.put, List.setIfInBounds_toArray, List.set_cons_zero, List.set_cons_succ])
    apply wpAnyH_take (i := 10) rfl (by kernel_rfl) (by kernel_rfl) (by kernel_rfl)
    case hQ => exact fun _ _ _ h => h
    case hS => exact hHeld
    case hy => (refine Or.inl ⟨by rfl, ?_⟩; intro w hSw; go_split_ands; go_simp; (try with_reducible rfl))
    (try simp only [List.getElem_toArray, List.getElem_cons_succ, List.getElem_cons_zero, Act.put, List.setIfInBounds_toArray, List.set_cons_zero, List.set_cons_succ])
    refine wpAnyH_done (by kernel_rfl) ?_ _
    have HF := Lib.hid (HB.out.trans (hb2.mono HB.out.size))
    clear hb2 hcc hc0 hbr k1
    go_wp2
    go_ret
    exact ⟨rfl, HF.out⟩
  · have k2' := k2 rfl
    have k3' := k3 rfl
    clear k2 k3 hRD
    go_region_held3 (fun W => W.cell? ⟨w.heap.size, 0, none⟩ = some (.bool false) ∧ W.cell? ⟨w.heap.size, 1, none⟩ = some (.int .u64 z) ∧ W.cell? ⟨w.heap.size, 2, none⟩ = some (.int .u64 l) ∧ W.cell? ⟨w.heap.size, 3, none⟩ = some (.int .u64 d) ∧ W.cell? ⟨w.heap.size, 4, none⟩ = some (.int .i64 lo) ∧ W.cell? ⟨w.heap.size, 5, none⟩ = some (.int .i64 hi) ∧ W.cell? ⟨w.heap.size, 6, none⟩ = some (.slice A n c) ∧ W.cell? ⟨w.heap.size, 7, none⟩ = some (.string (sof nm))) (first | exact hc0 | assumption | go_keep)
      (first
        | (have g5 := hb4; go_at_call 15; refine (k4 _ _ hb4 hC).mono ?_; rintro e w5 ⟨rfl, hb5⟩; have hs5 := hcc w5 hb5)
        | (have g4 := hb3; go_at_call 31; refine (k3' _ _ hb3 hT).mono ?_; rintro e w4 ⟨⟨y, rfl, hC⟩, hb4⟩; have hs4 := hcc w4 hb4)
        | (have g3 := hb2; go_at_call 32; refine (k2' _ hb2).mono ?_; rintro e w3 ⟨⟨g, rfl, hT⟩, hb3⟩; have hs3 := hcc w3 hb3)
        | (go_at_call 30; refine (k1 _ (Below.drew hbr)).mono ?_; rintro e w2 ⟨rfl, hb2⟩; have hs2 := hcc w2 hb2))
    have HF := Lib.hid (HB.out.trans (hb5.mono HB.out.size))
    clear hb2 hs2 hb3 hs3 hb4 hs4 hb5 hs5 hcc hc0 hbr k1 k2' k3' k4
    go_wp2
    go_ret
    exact ⟨rfl, HF.out⟩
theorem raok {w : World} {Q : Nat → Prop} {x : Value} {a : Aut} (hx : Av w Q x a) :
    Calls Try.prog 14 #[x] w fun e w' => e = .returned (.bool (decide (aok a))) ∧ Below w.heap.size w w' := by
  have hx0 := hx.any
  obtain ⟨A, c, rfl, hS, hab⟩ := hx
  obtain ⟨w1, hw1⟩ : ∃ w1, w1 = w.alloc (.cells (avl a A c) 25) := ⟨_, rfl⟩
  have hB : Below w.heap.size w w1 := by rw [hw1]; exact (Below.refl w.heap.size w).alloc (Nat.le_refl _) _
  have hav : ∀ W, Below w1.heap.size w1 W → Av W (fun g => g < w.heap.size) (.agg (avl a A c)) a := fun W hb => ((hx0.below hB (Nat.le_refl _)).low (hb.mono hB.size))
  have k4 : ∀ W y b, Below w1.heap.size w1 W → Av W (fun _ => True) y b → (a = b ↔ aok a) → Calls Try.prog 15 #[.agg (avl a A c), y] W fun e w' => e = .returned (.bool (decide (aok a))) ∧ Below w1.heap.size w1 w' := fun W y b hb hy he =>
    (rsame_aut (hav W hb) hy).mono fun e w' h => ⟨by rw [h.1]; exact congrArg (fun t => Ending.returned (Value.bool t)) (decide_eq_decide.2 he), hb.trans (h.2.mono hb.size)⟩
  rcases (by cases a.none <;> simp : a.none = true ∨ a.none = false) with hn | hn
  · have kk := k4 w1 (.agg (arow true 0 0 0 0 0 (.slice none 0 0) [])) .never (Below.refl _ _) (av_never _ _) ⟨fun e => by rw [e]; exact aok_never, fun h => none_aok h hn⟩
    rw [show avl a A c = arow true a.zones a.lines a.days a.lo a.hi (.slice A a.daily.length c) a.holder by unfold avl; rw [hn]] at hw1 kk ⊢
    exact raok_t _ _ _ _ _ A _ c _ _ w w1 hw1 kk
  · have k1 : ∀ W, Below w1.heap.size w1 W → Calls Try.prog 30 #[.agg (avl a A c)] W fun e w' => e = .returned (.bool (decide (rng a))) ∧ Below w1.heap.size w1 w' := fun W hb => (rranges (hav W hb)).mono fun e w' h => ⟨h.1, hb.trans (h.2.mono hb.size)⟩
    have kr : decide (rng a) = false → decide (aok a) = false := fun h => decide_eq_false fun k => of_decide_eq_false h (aok_rng k hn)
    have k2 : decide (rng a) = true → ∀ W, Below w1.heap.size w1 W → Calls Try.prog 32 #[.agg (avl a A c)] W fun e w' => (∃ g, e = .returned (.pointer (some ⟨g, 0, none⟩)) ∧ TRow w' g a.lo a.hi a.days (fun k => spb a.daily k)) ∧ Below w1.heap.size w1 w' := fun hr W hb => by
      have hr := of_decide_eq_true hr
      have hd : inday a.daily := fun s hs => by
        have := sepA_mem hr.2.2.2.2.2.2.2.2.2.1 s hs
        exact ⟨this.1, this.2, hr.2.2.2.2.2.2.2.2.2.2 s hs⟩
      exact (ttimes a.none a.zones a.lines a.days a.lo a.hi A c a.daily a.holder W (((hS.mono (Q' := fun g => g < w.heap.size) (fun g hg _ => hg)).below hB (Nat.le_refl _)).low (hb.mono hB.size)) hd).mono fun e w' h => ⟨⟨_, h.1, h.2.1⟩, hb.trans (h.2.2.mono hb.size)⟩
    have k3 : decide (rng a) = true → ∀ W g, Below w1.heap.size w1 W → TRow W g a.lo a.hi a.days (fun k => spb a.daily k) → Calls Try.prog 31 #[.agg (avl a A c), .pointer (some ⟨g, 0, none⟩)] W fun e w' => (∃ y, e = .returned y ∧ ∃ b, Av w' (fun _ => True) y b ∧ (a = b ↔ aok a)) ∧ Below w1.heap.size w1 w' := fun hr W g hb ht => by
      have hr := of_decide_eq_true hr
      obtain ⟨r1, r2, r3, r4, r5, r6, r7, r8, r9, r10, r11⟩ := id hr
      have e1 : a.lo = ((a.lo.toNat : Nat) : Int) := by omega
      have e2 : a.hi = ((a.hi.toNat : Nat) : Int) := by omega
      rw [e1, e2] at ht
      have hc := rclosed a.zones a.lines a.days a.lo a.hi (.slice A a.daily.length c) a.holder g a.lo.toNat a.hi.toNat a.days (fun k => spb a.daily k) (by omega) (by omega) W ht
      have ea : avl a A c = arow false a.zones a.lines a.days a.lo a.hi (.slice A a.daily.length c) a.holder := by unfold avl; rw [hn]
      rw [ea]
      refine hc.mono fun e w' h => ?_
      obtain ⟨⟨y, rfl, hy⟩, hb'⟩ := h
      obtain ⟨b, hb1, hb2⟩ := clo_av r1 hab.1 r2 r3 (by omega) r9 hy
      refine ⟨⟨y, rfl, b, hb1.all, ?_⟩, hb.trans (hb'.mono hb.size)⟩
      have em : (tm fun k => spb a.daily (k : Int)) = fun k : Nat => spm a.daily (k : Int) := funext fun k => propext (spb_iff _ _)
      rw [em] at hb2
      exact aok_clo hn hab.1 hr hb2
    have kk : ∀ W y, Below w1.heap.size w1 W → (∃ b, Av W (fun _ => True) y b ∧ (a = b ↔ aok a)) → Calls Try.prog 15 #[.agg (avl a A c), y] W fun e w' => e = .returned (.bool (decide (aok a))) ∧ Below w1.heap.size w1 w' := fun W y hb ⟨b, h1, h2⟩ => k4 W y b hb h1 h2
    rw [show avl a A c = arow false a.zones a.lines a.days a.lo a.hi (.slice A a.daily.length c) a.holder by unfold avl; rw [hn]] at hw1 k1 k2 k3 kk ⊢
    exact raok_f _ _ _ _ _ A _ c _ _ _ w w1 hw1 kr _ _ k1 k2 k3 kk
end Go.Proofs.Ytedjbjplnjnnlaa
namespace Go.Proofs.Ytedjbjplnjnnlaa
open Go Go.RowKit Sh Leaf

theorem hasB_mins {a : Aut} (x : Nat) : hasB a.lo a.hi a.days (fun k => spb a.daily k) x = true ↔ mins a x := by
  unfold hasB mins
  rw [Bool.and_eq_true, Bool.and_eq_true, Bool.and_eq_true, decide_eq_true_iff, decide_eq_true_iff, decide_eq_true_iff, spb_iff]
noncomputable instance (a : Aut) (x : Nat) : Decidable (mins a x) := Classical.propDecidable _
theorem rin {w : World} {Q : Nat → Prop} {x : Value} {a : Aut} (hx : Av w Q x a) (ha : aok a) (c : Ctx) (hc : c.holder.length ≤ 9223372036854775807) :
    Calls Try.prog 43 #[x, cv c] w fun e w' => e = .returned (.bool (decide (cok c ∧ ina a c))) ∧ Below w.heap.size w w' := by
  have hx0 := hx.any
  obtain ⟨A, n, rfl, hS, hab⟩ := hx
  rw [cv_row]
  obtain ⟨w1, hw1⟩ : ∃ w1, w1 = (w.alloc (.cells (avl a A n) 25)).alloc (.cells (crow c.zone c.line c.minute c.holder) 46) := ⟨_, rfl⟩
  have hB : Below w.heap.size w w1 := by rw [hw1]; exact ab_below w _ _
  have k1 : ∀ W, Below w1.heap.size w1 W → Calls Try.prog 62 #[.agg (crow c.zone c.line c.minute c.holder)] W fun e w' => e = .returned (.bool (decide (cok c))) ∧ Below w1.heap.size w1 w' := fun W hb => by
    have := rctx c hc W
    rw [cv_row] at this
    exact this.mono fun e w' h => ⟨h.1, hb.trans (h.2.mono hb.size)⟩
  rcases (by cases a.none <;> simp : a.none = true ∨ a.none = false) with hn | hn
  · have e : decide (cok c ∧ ina a c) = false := decide_eq_false fun h => by have := h.2.1; rw [hn] at this; cases this
    rw [e]
    rw [show avl a A n = arow true a.zones a.lines a.days a.lo a.hi (.slice A a.daily.length n) a.holder by unfold avl; rw [hn]] at hw1 ⊢
    exact rin_0 _ _ _ _ _ A _ n _ _ _ _ _ w w1 hw1
  have ea : avl a A n = arow false a.zones a.lines a.days a.lo a.hi (.slice A a.daily.length n) a.holder := by unfold avl; rw [hn]
  by_cases hc1 : cok c
  case neg =>
    have e : decide (cok c ∧ ina a c) = false := decide_eq_false fun h => hc1 h.1
    rw [decide_eq_false hc1] at k1
    rw [e]
    rw [ea] at hw1 ⊢
    exact rin_1 _ _ _ _ _ A _ n _ _ _ _ _ w w1 hw1 k1
  rw [decide_eq_true hc1] at k1
  obtain ⟨⟨z0, z1⟩, ⟨l0, l1⟩, ⟨m0, m1⟩, hnm⟩ := id hc1
  obtain ⟨cz, hcz⟩ : ∃ n : Nat, c.zone = n := ⟨c.zone.toNat, by omega⟩
  obtain ⟨cl, hcl⟩ : ∃ n : Nat, c.line = n := ⟨c.line.toNat, by omega⟩
  obtain ⟨cm, hcm⟩ : ∃ n : Nat, c.minute = n := ⟨c.minute.toNat, by omega⟩
  have hD : decide (cok c ∧ ina a c) = decide (a.zones / 2 ^ cz % 2 = 1 ∧ a.lines / 2 ^ cl % 2 = 1 ∧ mins a cm ∧ (a.holder = [] ∨ a.holder = c.holder)) := by
    apply decide_eq_decide.2
    unfold ina hbit
    rw [hcz, hcl, hcm, hn]
    simp [hc1]
  rw [hD]
  rw [hcz, hcl, hcm] at hw1 k1 ⊢
  rw [ea] at hw1 ⊢
  have ez := bit_val a.zones cz
  have el := bit_val a.lines cl
  have lz : cz < 64 := by omega
  have ll : cl < 64 := by omega
  by_cases b1 : a.zones / 2 ^ cz % 2 = 1
  case neg =>
    rw [decide_eq_false b1] at ez
    rw [decide_eq_false fun h => b1 h.1]
    exact rin_2 _ _ _ _ _ A _ n _ _ _ _ _ w w1 hw1 k1 lz ez
  rw [decide_eq_true b1] at ez
  by_cases b2 : a.lines / 2 ^ cl % 2 = 1
  case neg =>
    rw [decide_eq_false b2] at el
    rw [decide_eq_false fun h => b2 h.2.1]
    exact rin_3 _ _ _ _ _ A _ n _ _ _ _ _ w w1 hw1 k1 lz ez ll el
  rw [decide_eq_true b2] at el
  have k2 : ∀ W, Below w1.heap.size w1 W → Calls Try.prog 32 #[.agg (arow false a.zones a.lines a.days a.lo a.hi (.slice A a.daily.length n) a.holder)] W fun e w' => (∃ g, e = .returned (.pointer (some ⟨g, 0, none⟩)) ∧ TRow w' g a.lo a.hi a.days (fun k => spb a.daily k)) ∧ Below w1.heap.size w1 w' := fun W hb => by
    exact (ttimes false a.zones a.lines a.days a.lo a.hi A n a.daily a.holder W (((hS.mono (Q' := fun g => g < w.heap.size) (fun g hg _ => hg)).below hB (Nat.le_refl _)).low (hb.mono hB.size)) (aok_bd ha).2).mono fun e w' h => ⟨⟨_, h.1, h.2.1⟩, hb.trans (h.2.2.mono hb.size)⟩
  have k3 : ∀ W g, Below w1.heap.size w1 W → TRow W g a.lo a.hi a.days (fun k => spb a.daily k) → Calls Try.prog 52 #[.pointer (some ⟨g, 0, none⟩), .int .i64 (cm : Int)] W fun e w' => e = .returned (.bool (hasB a.lo a.hi a.days (fun k => spb a.daily k) cm)) ∧ Below w1.heap.size w1 w' := fun W g hb ht =>
    (thas g a.lo a.hi a.days _ cm (by omega) W ht).mono fun e w' h => ⟨h.1, by rw [← h.2]; exact hb⟩
  by_cases b3 : mins a cm
  case neg =>
    rw [show hasB a.lo a.hi a.days (fun k => spb a.daily k) cm = false from Bool.eq_false_iff.2 fun h => b3 ((hasB_mins cm).1 h)] at k3
    rw [decide_eq_false fun h => b3 h.2.2.1]
    exact rin_4 _ _ _ _ _ A _ n _ _ _ _ _ w w1 hw1 k1 lz ez ll el _ k2 k3
  rw [(hasB_mins cm).2 b3] at k3
  have hie : (sof a.holder).toList.isEmpty = decide (a.holder = []) := by
    rw [sof_toList]
    cases a.holder <;> simp
  by_cases b4 : a.holder = []
  · rw [decide_eq_true b4] at hie
    rw [decide_eq_true (p := _ ∧ _) ⟨b1, b2, b3, .inl b4⟩]
    exact rin_5 _ _ _ _ _ A _ n _ _ _ _ _ w w1 hw1 k1 lz ez ll el _ k2 k3 hie
  · rw [decide_eq_false b4] at hie
    rw [show decide (a.zones / 2 ^ cz % 2 = 1 ∧ a.lines / 2 ^ cl % 2 = 1 ∧ mins a cm ∧ (a.holder = [] ∨ a.holder = c.holder)) = decide (a.holder = c.holder) from decide_eq_decide.2 ⟨fun h => h.2.2.2.elim (fun k => absurd k b4) id, fun h => ⟨b1, b2, b3, .inr h⟩⟩]
    exact rin_6 _ _ _ _ _ A _ n _ _ _ _ _ w w1 _ hw1 k1 lz ez ll el _ k2 k3 hie (sof_beq _ _)
set_option maxRecDepth 100000 in
set_option maxHeartbeats 2000000 in
theorem rcon_in (z l d lo hi : Int) (no : Bool) (A : Option Addr) (n c : Nat) (nm : List B8) (cz cl cm : Int) (cn : List B8) (D R : Bool) (w w1 : World) (hw1 : w1 = (w.alloc (.cells (arow no z l d lo hi (.slice A n c) nm) 25)).alloc (.cells (crow cz cl cm cn) 46))
    (k1 : ∀ W, Below w1.heap.size w1 W → Calls Try.prog 14 #[.agg (arow no z l d lo hi (.slice A n c) nm)] W fun e w' => e = .returned (.bool R) ∧ Below w1.heap.size w1 w')
    (k2 : R = true → ∀ W, Below w1.heap.size w1 W → Calls Try.prog 43 #[.agg (arow no z l d lo hi (.slice A n c) nm), .agg (crow cz cl cm cn)] W fun e w' => e = .returned (.bool D) ∧ Below w1.heap.size w1 w') :
    Calls Try.prog 22 #[.agg (arow no z l d lo hi (.slice A n c) nm), .agg (crow cz cl cm cn)] w fun e w' => e = .returned (.bool (R && D)) ∧ Below w.heap.size w w' := by
  have hR : ARow w1 w.heap.size no z l d lo hi (.slice A n c) nm := by rw [hw1]; exact (Whole.here _ _ _).alloc _
  have hC : CRow w1 (w.heap.size + 1) cz cl cm cn := by rw [hw1]; exact Whole.at_ _ _ _ _ (by simp)
  have hsz : w1.heap.size = w.heap.size + 2 := by rw [hw1]; simp
  have HB : Hid (Below w.heap.size w w1) := Lib.hid (by rw [hw1]; exact ab_below w _ _)
  have HR : Hid (∀ W, Below w1.heap.size w1 W → ARow W w.heap.size no z l d lo hi (.slice A n c) nm) := Lib.hid fun W hb => Whole.below hR hb (by omega)
  have HC : Hid (∀ W, Below w1.heap.size w1 W → CRow W (w.heap.size + 1) cz cl cm cn) := Lib.hid fun W hb => Whole.below hC hb (by omega)
  have hbr := Below.refl w1.heap.size w1
  clear hR hC hsz
  go_enter Try.func22, Try.ntmps22
  go_wp2_with fail
  rw [← hw1]
  clear hw1
  refine (k1 _ hbr).mono ?_
  rintro e w2 ⟨rfl, hb2⟩
  have HR2 := HR.out w2 hb2
  have HC2 := HC.out w2 hb2
  obtain ⟨a0, a1, a2, a3, a4, a5, a6, a7⟩ := ARow.cells HR2
  obtain ⟨b0, b1, b2, b3⟩ := CRow.cells HC2
  clear HR2 HC2 HR HC k1 hbr
  cases R
  · have HF := Lib.hid (HB.out.trans (hb2.mono HB.out.size))
    clear hb2 HB k2
    go_wp2_with fail
    go_ret
    exact ⟨rfl, HF.out⟩
  · have k2' := k2 rfl w2 hb2
    clear k2
    go_wp2_with fail
    refine k2'.mono ?_
    rintro e w3 ⟨rfl, hb3⟩
    have HF := Lib.hid (HB.out.trans (hb3.mono HB.out.size))
    clear hb2 hb3 HB k2'
    go_wp2_with fail
    go_ret
    exact ⟨rfl, HF.out⟩
/-- Contains. -/
theorem rcon {w : World} {Q : Nat → Prop} {x : Value} {a : Aut} (hx : Av w Q x a) (c : Ctx) (hc : c.holder.length ≤ 9223372036854775807) :
    Calls Try.prog 22 #[x, cv c] w fun e w' => e = .returned (.bool (decide (aok a ∧ cok c ∧ ina a c))) ∧ Below w.heap.size w w' := by
  have hx0 := hx.any
  obtain ⟨A, n, rfl, hS, hab⟩ := hx
  obtain ⟨w1, hw1⟩ : ∃ w1, w1 = (w.alloc (.cells (avl a A n) 25)).alloc (.cells (crow c.zone c.line c.minute c.holder) 46) := ⟨_, rfl⟩
  have hB : Below w.heap.size w w1 := by rw [hw1]; exact ab_below w _ _
  have hav : ∀ W, Below w1.heap.size w1 W → Av W (fun g => g < w.heap.size) (.agg (avl a A n)) a := fun W hb => (hx0.below hB (Nat.le_refl _)).low (hb.mono hB.size)
  have h := rcon_in a.zones a.lines a.days a.lo a.hi a.none A a.daily.length n a.holder c.zone c.line c.minute c.holder (decide (cok c ∧ ina a c)) (decide (aok a)) w w1 hw1 (fun W hb => (raok (hav W hb)).mono fun e w' h => ⟨h.1, hb.trans (h.2.mono hb.size)⟩)
    (fun hr W hb => by
      have := rin (hav W hb) (of_decide_eq_true hr) c hc
      rw [cv_row] at this
      exact this.mono fun e w' h => ⟨h.1, hb.trans (h.2.mono hb.size)⟩)
  rw [cv_row]
  exact h.mono fun e w' h => ⟨by rw [h.1, ← Bool.decide_and], h.2⟩
end Go.Proofs.Ytedjbjplnjnnlaa
