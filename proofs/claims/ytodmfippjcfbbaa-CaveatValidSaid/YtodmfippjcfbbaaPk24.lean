/-
  The program's same: two caveats compared.
  The program's Same: slices.EqualFunc with a function value.
-/
import Derived.Deep.CutBlock
import Derived.Deep.DeepCutAuto
import Derived.Test.YtodmfippjcfbbaaPk23
import Derived.Test.YtodmfippjcfbbaaPk13
namespace Go.Proofs.Ytodmfippjcfbbaa
open Go Go.RowKit Sh Leaf

set_option maxRecDepth 100000 in
theorem eql_prds (p q : Prd) (w : World) : (binOp .eql 24 (pv p) (pv q)).run Try.prog w = .ok (.bool (decide (p = q))) w := by
  have h := run_eql_prd p.kind (p.mask : Int) p.lo p.hi p.num q.kind (q.mask : Int) q.lo q.hi q.num p.name q.name w
  have e : (p.kind = q.kind ∧ (p.mask : Int) = (q.mask : Int) ∧ p.lo = q.lo ∧ p.hi = q.hi ∧ p.name = q.name ∧ p.num = q.num) ↔ p = q := by
    obtain ⟨a, b, c, d, n, f⟩ := p
    obtain ⟨a', b', c', d', n', f'⟩ := q
    simp only [Prd.mk.injEq]
    constructor
    · rintro ⟨h1, h2, h3, h4, h5, h6⟩
      exact ⟨h1, by omega, h3, h4, h5, h6⟩
    · rintro ⟨h1, h2, h3, h4, h5, h6⟩
      exact ⟨h1, by omega, h3, h4, h5, h6⟩
  simp only [e] at h
  rw [pv_row, pv_row]
  exact h
theorem cav_ne {x y : Cav} : x ≠ y ↔ x.third ≠ y.third ∨ x.first ≠ y.first ∨ x.party ≠ y.party ∨ x.ticket ≠ y.ticket ∨ x.box ≠ y.box := by
  obtain ⟨a, b, c, d, e⟩ := x
  obtain ⟨a', b', c', d', e'⟩ := y
  simp only [ne_eq, Cav.mk.injEq]
  by_cases h1 : a = a' <;> by_cases h2 : b = b' <;> by_cases h3 : c = c' <;> by_cases h4 : d = d' <;> by_cases h5 : e = e' <;> simp [h1, h2, h3, h4, h5]
set_option linter.unusedSimpArgs false in
set_option linter.unusedVariables false in
set_option maxRecDepth 100000 in
set_option maxHeartbeats 4000000 in
theorem csame1 {w : World} {x y : Cav} {v u : Value} {Q Q' : Nat → Prop} (hx : CavV w Q v x) (hy : CavV w Q' u y) :
    Calls Try.prog 24 #[v, u] w fun e w' => e = .returned (.bool (decide (x = y))) ∧ Below w.heap.size w w' := by
  obtain ⟨R, hR⟩ : ∃ R, R = decide (x = y) := ⟨_, rfl⟩
  rw [← hR]
  have HR := Lib.hid hR
  clear hR
  obtain ⟨A1, c1, A2, c2, rfl, hat, hab, hwa⟩ := hx
  obtain ⟨B1, d1, B2, d2, rfl, hbt, hbb, hwb⟩ := hy
  obtain ⟨p, hp⟩ : ∃ p, p = (w.alloc (.cells (cvrow x.third x.first x.party (.slice A1 x.ticket.length c1) (.slice A2 x.box.length c2)) 27)).alloc (.cells (cvrow y.third y.first y.party (.slice B1 y.ticket.length d1) (.slice B2 y.box.length d2)) 27) := ⟨_, rfl⟩
  have hX : CvRow p w.heap.size x.third x.first x.party (.slice A1 x.ticket.length c1) (.slice A2 x.box.length c2) := by rw [hp]; exact (Whole.here _ _ _).alloc _
  have hY : CvRow p (w.heap.size + 1) y.third y.first y.party (.slice B1 y.ticket.length d1) (.slice B2 y.box.length d2) := by rw [hp]; exact Whole.at_ _ _ _ _ (by simp)
  have hb : Below w.heap.size w p := by rw [hp]; exact ((Below.refl _ _).alloc (Nat.le_refl _) _).alloc (by simp) _
  obtain ⟨x0, x7, x8, x9⟩ := CvRow.cells hX
  obtain ⟨y0, y7, y8, y9⟩ := CvRow.cells hY
  have HX := Lib.hid hX
  have HY := Lib.hid hY
  have HG := Lib.hid hb
  have hps : w.heap.size + 1 < p.heap.size := hY.lt
  have HAT := Lib.hid (hat.below hb (Nat.le_refl _))
  have HAB := Lib.hid (hab.below hb (Nat.le_refl _))
  have HBT := Lib.hid (hbt.below hb (Nat.le_refl _))
  have HBB := Lib.hid (hbb.below hb (Nat.le_refl _))
  clear hX hY hb hat hab hbt hbb hwa hwb
  go_enter Try.func24, Try.ntmps24
  go_upto_region 1 with fail
  rw [← hp]
  clear hp
  have kg := fun u v W => guard_prds u v x.first y.first W
  have kq := fun W => eql_prds x.first y.first W
  obtain ⟨xth, hxth⟩ : ∃ b, b = x.third := ⟨_, rfl⟩
  obtain ⟨yth, hyth⟩ : ∃ b, b = y.third := ⟨_, rfl⟩
  rw [← hxth] at x0
  rw [← hyth] at y0
  have HTH := Lib.hid (And.intro hxth hyth)
  clear hxth hyth
  by_cases hth : xth = yth
  case neg =>
    have hRR : R = false := by
      rw [HR.out]
      exact decide_eq_false (cav_ne.2 (.inl fun e => hth (by rw [HTH.out.1, HTH.out.2, e])))
    subst hRR
    have kth : (xth == yth) = false := by simpa using hth
    clear hth kq kg
    cases xth <;> cases yth <;> first | (exact absurd kth (by decide)) | skip
    all_goals
      clear kth
      go_wp2_with fail
      go_ret
      exact ⟨rfl, HG.out⟩
  subst hth
  by_cases hfi : x.first = y.first
  case neg =>
    have hRR : R = false := by
      rw [HR.out]
      exact decide_eq_false (cav_ne.2 (.inr (.inl hfi)))
    subst hRR
    rw [decide_eq_false hfi] at kq
    clear hfi
    cases xth
    all_goals
      go_wp2_with (first
        | (with_reducible refine wpList_load_guarded (by with_unfolding_all rfl) _ rfl rfl HX.out ?_)
        | (with_reducible refine wpList_load_guarded (by with_unfolding_all rfl) _ rfl rfl HY.out ?_))
      go_ret
      exact ⟨rfl, HG.out⟩
  rw [decide_eq_true hfi] at kq
  have HFI := Lib.hid hfi
  clear hfi
  by_cases hpa : x.party = y.party
  case neg =>
    have hRR : R = false := by
      rw [HR.out]
      exact decide_eq_false (cav_ne.2 (.inr (.inr (.inl hpa))))
    subst hRR
    cases xth
    all_goals
      go_wp2_with (first
        | (with_reducible refine wpList_load_guarded (by with_unfolding_all rfl) _ rfl rfl HX.out ?_)
        | (with_reducible refine wpList_load_guarded (by with_unfolding_all rfl) _ rfl rfl HY.out ?_))
      go_ret
      exact ⟨rfl, HG.out⟩
  have HPA := Lib.hid hpa
  rw [hpa] at x7
  clear hpa
  have hcl := bequal A1 B1 c1 d1 x.ticket y.ticket _ _ p HAT.out HBT.out
  by_cases hti : x.ticket = y.ticket
  case neg =>
    have hRR : R = false := by
      rw [HR.out]
      exact decide_eq_false (cav_ne.2 (.inr (.inr (.inr (.inl hti)))))
    subst hRR
    rw [decide_eq_false hti] at hcl
    clear hti
    cases xth
    all_goals
      go_wp2_with (first
        | (with_reducible refine wpList_load_guarded (by with_unfolding_all rfl) _ rfl rfl HX.out ?_)
        | (with_reducible refine wpList_load_guarded (by with_unfolding_all rfl) _ rfl rfl HY.out ?_))
      refine hcl.mono ?_
      rintro e w1 ⟨rfl, hb1⟩
      subst hb1
      clear hcl
      go_wp2_with fail
      go_ret
      exact ⟨rfl, HG.out⟩
  rw [decide_eq_true hti] at hcl
  have HTI := Lib.hid hti
  clear hti
  have hcl2 := bequal A2 B2 c2 d2 x.box y.box _ _ p HAB.out HBB.out
  have hD : R = decide (x.box = y.box) := by
    rw [HR.out]
    have h1 : x.third = y.third := by rw [← HTH.out.1, ← HTH.out.2]
    have h2 := HFI.out
    have h3 := HPA.out
    have h4 := HTI.out
    have h5 := HR.out
    by_cases hbx : x.box = y.box
    · rw [decide_eq_true hbx]
      refine decide_eq_true ?_
      obtain ⟨_, _, _, _, _⟩ := x
      obtain ⟨_, _, _, _, _⟩ := y
      simp only [Cav.mk.injEq]
      exact ⟨h1, h2, h3, h4, hbx⟩
    · rw [decide_eq_false hbx]
      exact decide_eq_false (cav_ne.2 (.inr (.inr (.inr (.inr hbx)))))
  rw [← hD] at hcl2
  have HCL2 := Lib.hid hcl2
  clear hD hcl2
  cases xth
  all_goals
    go_wp2_with (first
      | (with_reducible refine wpList_load_guarded (by with_unfolding_all rfl) _ rfl rfl HX.out ?_)
      | (with_reducible refine wpList_load_guarded (by with_unfolding_all rfl) _ rfl rfl HY.out ?_))
    refine hcl.mono ?_
    rintro e w1 ⟨rfl, hb1⟩
    subst hb1
    clear hcl
    have hcl := HCL2.out
    cases R
    all_goals
      go_wp2_with fail
      refine hcl.mono ?_
      rintro e w2 ⟨rfl, hb2⟩
      subst hb2
      clear hcl
      go_wp2_with fail
      go_ret
      exact ⟨rfl, HG.out⟩
end Go.Proofs.Ytodmfippjcfbbaa
namespace Go.Proofs.Ytodmfippjcfbbaa
open Go Go.RowKit Sh Leaf

set_option linter.unusedSimpArgs false in
set_option linter.unusedVariables false in
set_option maxRecDepth 100000 in
set_option maxHeartbeats 4000000 in
theorem ceqf {w : World} {A B : Option Addr} {ca cb : Nat} {la lb : List Cav} (hA : Cvs w A la) (hB : Cvs w B lb) (hla : la.length ≤ 100000) (hlb : lb.length ≤ 100000) :
    Calls Try.prog 23 #[.slice A la.length ca, .slice B lb.length cb, .func (.func 24) #[] #[]] w fun e w' => e = .returned (.bool (decide (la = lb))) ∧ Below w.heap.size w w' := by
  obtain ⟨R, hR⟩ : ∃ R, R = decide (la = lb) := ⟨_, rfl⟩
  rw [← hR]
  have HR := Lib.hid hR
  have HA := Lib.hid hA
  have HB := Lib.hid hB
  obtain ⟨n, hn⟩ : ∃ n, n = la.length := ⟨_, rfl⟩
  obtain ⟨m, hm⟩ : ∃ m, m = lb.length := ⟨_, rfl⟩
  rw [← hn] at hla ⊢
  rw [← hm] at hlb ⊢
  have HN := Lib.hid (And.intro hn hm)
  clear hR hA hB hn hm
  by_cases hlen : n = m
  case neg =>
    have hRR : R = false := by rw [HR.out]; exact decide_eq_false fun e => hlen (by rw [HN.out.1, HN.out.2, e])
    have hlen2 : ¬ (n : Int) = (m : Int) := by omega
    subst hRR
    clear HR HA HB HN
    go_enter Try.func23, Try.ntmps23
    go_wp2_with fail
    go_ret
    exact ⟨rfl, Below.refl _ _⟩
  subst hlen
  go_enter Try.func23, Try.ntmps23
  go_wp2_with fail
  go_loopw [17] (fun v wr => ∃ j : Nat, v = .int .i64 j ∧ j ≤ n ∧ la.take j = lb.take j ∧ Below w.heap.size w wr) (fun v _ => n - (intOf v).toNat)
  case atStart => exact ⟨0, rfl, by omega, rfl, Below.refl _ _⟩
  case round =>
    obtain ⟨j, rfl, hj, htk, hbw⟩ := hrel
    have hswr : w.heap.size ≤ wr.heap.size := hbw.size
    have HTK := Lib.hid htk
    have HBW := Lib.hid hbw
    clear htk hbw
    by_cases hlt : j < n
    case neg =>
      obtain rfl : j = n := by omega
      have hRR : R = true := by
        rw [HR.out]
        refine decide_eq_true ?_
        have := HTK.out
        rwa [List.take_of_length_le (by rw [← HN.out.1]; omega), List.take_of_length_le (by rw [← HN.out.2]; omega)] at this
      subst hRR
      clear hlt hj
      go_wp2_with fail
      go_ret
      exact ⟨rfl, HBW.out⟩
    obtain ⟨x, hx⟩ : ∃ x, la[j]? = some x := ⟨_, List.getElem?_eq_getElem (by have := HN.out.1; omega)⟩
    obtain ⟨y, hy⟩ : ∃ y, lb[j]? = some y := ⟨_, List.getElem?_eq_getElem (by have := HN.out.2; omega)⟩
    have hA2 := HA.out.below HBW.out
    have hB2 := HB.out.below HBW.out
    obtain ⟨g, o, A1, c1, A2, c2, hAe, hgl, hra, hat, hab, hwfa⟩ := hA2 j x hx
    obtain ⟨h, q, B1, d1, B2, d2, hBe, hhl, hrb, hbt, hbb, hwfb⟩ := hB2 j y hy
    have HXY := Lib.hid (And.intro hx hy)
    have j0 : (0 : Int) ≤ (j : Int) := by omega
    have jn : (j : Int) < (n : Int) := by omega
    obtain ⟨p, hp⟩ : ∃ p, p = wr.alloc (.cells (cvrow x.third x.first x.party (.slice A1 x.ticket.length c1) (.slice A2 x.box.length c2)) 27) := ⟨_, rfl⟩
    have hbp : Below wr.heap.size wr p := by rw [hp]; exact (Below.refl _ _).alloc (Nat.le_refl _) _
    have hrow : CvRow p wr.heap.size x.third x.first x.party (.slice A1 x.ticket.length c1) (.slice A2 x.box.length c2) := by rw [hp]; exact Whole.here _ _ _
    have HRA := Lib.hid hra
    have HRB : Hid (p.rangeAt h (q + j * 10) _) := Lib.hid fun i v hv => (hbp.cell (p := ⟨h, q + j * 10 + i, none⟩) hhl).trans (hrb i v hv)
    obtain ⟨s, hs⟩ : ∃ s, s = p.alloc (.cells (cvrow y.third y.first y.party (.slice B1 y.ticket.length d1) (.slice B2 y.box.length d2)) 27) := ⟨_, rfl⟩
    have hbs : Below wr.heap.size wr s := by rw [hs]; exact hbp.alloc hbp.size _
    have hrow2 : CvRow s wr.heap.size x.third x.first x.party (.slice A1 x.ticket.length c1) (.slice A2 x.box.length c2) := by rw [hs]; exact hrow.alloc _
    have hrow3 : CvRow s p.heap.size y.third y.first y.party (.slice B1 y.ticket.length d1) (.slice B2 y.box.length d2) := by rw [hs]; exact Whole.here _ _ _
    have HR2 := Lib.hid hrow2
    have HR3 := Lib.hid hrow3
    have HBS := Lib.hid hbs
    have hss : wr.heap.size < s.heap.size := hrow2.lt
    have HP := Lib.hid hp
    have HS := Lib.hid hs
    have hpp : wr.heap.size < p.heap.size := hrow.lt
    have hps : p.heap.size < s.heap.size := hrow3.lt
    have hcl := csame1 (w := s) (x := x) (y := y) (Q := fun _ => True) (Q' := fun _ => True) ⟨A1, c1, A2, c2, rfl, hat.below hbs (Nat.le_refl _), hab.below hbs (Nat.le_refl _), hwfa⟩ ⟨B1, d1, B2, d2, rfl, hbt.below hbs (Nat.le_refl _), hbb.below hbs (Nat.le_refl _), hwfb⟩
    obtain ⟨V, hV⟩ : ∃ V, V = decide (x = y) := ⟨_, rfl⟩
    rw [← hV] at hcl
    have HV := Lib.hid hV
    subst hAe hBe
    clear hx hy hA2 hB2 hra hrb hat hab hbt hbb hwfa hwfb hbp hrow hbs hrow2 hrow3 hV hp hs
    go_upto_region 6 with (with_reducible refine wpList_load_cavr rfl _ rfl rfl HRA.out ?_)
    rw [← HP.out]
    go_upto_region 7 with (with_reducible refine wpList_load_cavr rfl _ rfl rfl HRB.out ?_)
    rw [← HS.out]
    clear HS HP
    go_wp2_with (first
      | (with_reducible refine wpList_load_cav rfl _ rfl rfl HR2.out ?_)
      | (with_reducible refine wpList_load_cav rfl _ rfl rfl HR3.out ?_))
    refine hcl.mono ?_
    rintro e w2 ⟨rfl, hb2⟩
    have HB2 := Lib.hid (HBW.out.trans ((HBS.out.trans (hb2.mono (by omega))).mono hswr))
    clear hcl hb2
    cases V
    · have hRR : R = false := by
        rw [HR.out]
        exact decide_eq_false (take_ne HXY.out.1 HXY.out.2 (of_decide_eq_false HV.out.symm))
      subst hRR
      go_wp2_with fail
      go_ret
      exact ⟨rfl, HB2.out⟩
    · have HX : Hid (la.take (j + 1) = lb.take (j + 1)) := Lib.hid (by
        rw [List.take_add_one, List.take_add_one, HXY.out.1, HXY.out.2, HTK.out, of_decide_eq_true HV.out.symm])
      go_wp2_with fail
      go_roundw
      case rel => exact ⟨j + 1, by go_num, by omega, HX.out, HB2.out⟩
      case measure => simp [intOf]; omega
set_option maxRecDepth 20000 in
theorem csamel {w : World} {A B : Option Addr} {ca cb : Nat} {la lb : List Cav} (hA : Cvs w A la) (hB : Cvs w B lb) (hla : la.length ≤ 100000) (hlb : lb.length ≤ 100000) :
    Calls Try.prog 13 #[.slice A la.length ca, .slice B lb.length cb] w fun e w' => e = .returned (.bool (decide (la = lb))) ∧ Below w.heap.size w w' := by
  have hcl := ceqf (ca := ca) (cb := cb) hA hB hla hlb
  obtain ⟨R, hR⟩ : ∃ R, R = decide (la = lb) := ⟨_, rfl⟩
  rw [← hR] at hcl ⊢
  obtain ⟨n, hn⟩ : ∃ n, n = la.length := ⟨_, rfl⟩
  obtain ⟨m, hm⟩ : ∃ m, m = lb.length := ⟨_, rfl⟩
  rw [← hn, ← hm] at hcl ⊢
  clear hA hB hla hlb hR hn hm
  go_enter Try.func13, Try.ntmps13
  go_wp2_with fail
  refine hcl.mono ?_
  rintro e w2 ⟨rfl, hb2⟩
  clear hcl
  go_wp2_with fail
  go_ret
  exact ⟨rfl, hb2⟩
end Go.Proofs.Ytodmfippjcfbbaa
