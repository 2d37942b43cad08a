/-
  The law ContainOrder.
-/
import Derived.Deep.RegionHeld3
import Derived.Test.YtedjbjplnjnnlaaDoorPk32
import Derived.Test.YtedjbjplnjnnlaaDoorPk35
import Derived.Test.YtedjbjplnjnnlaaDoorPk20
import Derived.Test.YtedjbjplnjnnlaaDoorPk39
import Derived.Test.YtedjbjplnjnnlaaDoorPk40
import Derived.Test.YtedjbjplnjnnlaaDoorPk41
namespace Go.Proofs.YtedjbjplnjnnlaaDoor
open Go Go.RowKit Sh Leaf

theorem ord_trans {a b c : Aut} {B1 B2 : Bool} (h1 : decide (wi a b) = B1) (h2 : decide (wi b c) = B2) : B1 = true → B2 = true → decide (wi a c) = true := by
  rintro rfl rfl
  exact decide_eq_true (wi_trans (of_decide_eq_true h1) (of_decide_eq_true h2))
theorem ord_anti {a b : Aut} {B1 B2 : Bool} (h1 : decide (wi a b) = B1) (h2 : decide (wi b a) = B2) : B1 = true → B2 = true → decide (a = b) = true := by
  rintro rfl rfl
  exact decide_eq_true (wi_anti (of_decide_eq_true h1) (of_decide_eq_true h2))
theorem ord_meet {a b m : Aut} {B : Bool} (ha : aok a) (hb : aok b) (hm : IsSet (both a b) m) (h : decide (wi a b) = B) : decide (m = a) = B := by
  rw [← h]
  exact decide_eq_decide.2 (wi_meet ha hb hm).symm
theorem ord_low {a b m : Aut} (ha : aok a) (hb : aok b) (hm : IsSet (both a b) m) : decide (wi m a) = true ∧ decide (wi m b) = true :=
  ⟨decide_eq_true (meet_wi ha hb hm).1, decide_eq_true (meet_wi ha hb hm).2⟩
set_option linter.unusedSimpArgs false in
set_option linter.unusedVariables false in
set_option maxRecDepth 100000 in
set_option maxHeartbeats 8000000 in
theorem corder_law (A0 : Option Addr) (l0 : List Int) (c0 : Nat) (A1 : Option Addr) (l1 : List Int) (c1 : Nat) (w : World) (hT : Tab w) (hI0 : Ints w (fun b => b < w.heap.size) A0 c0 l0) (hI1 : Ints w (fun b => b < w.heap.size) A1 c1 l1) :
    Calls Tryd.prog 8 #[.slice A0 l0.length c0, .slice A1 l1.length c1] w fun e w' => e = .returned (.bool true) ∧ Below w.heap.size w w' := by
  obtain ⟨n0, hn0⟩ : ∃ n, n = l0.length := ⟨_, rfl⟩
  obtain ⟨n1, hn1⟩ : ∃ n, n = l1.length := ⟨_, rfl⟩
  rw [← hn0, ← hn1]
  have HT := Lib.hid hT
  have HI0 := Lib.hid hI0
  have HI1 := Lib.hid hI1
  have HN0 := Lib.hid hn0
  have HN1 := Lib.hid hn1
  clear hI0 hI1 hn0 hn1 hT
  go_enter Tryd.func8, Tryd.ntmps8
  have H0 : Hid (Below w.heap.size w w) := Lib.hid (Below.refl _ _)
  have hmd := cmade A0 l0 c0 w ((HI0.out.below H0.out).mono (Below.size H0.out))
  rw [← HN0.out] at hmd
  go_wp2_with fail
  refine hmd.mono ?_
  rintro e u1 ⟨⟨xx, yy, a, b, g1, rfl, hx, hy, ha, hb, hdk, hgl⟩, hbl⟩
  obtain ⟨Aa, ca, rfl, hSa, haa⟩ := hx
  obtain ⟨Ab, cb, rfl, hSb, hbb⟩ := hy
  obtain ⟨p1, hp⟩ : ∃ p, p = (u1.alloc (.cells (avl a Aa ca) 25)).alloc (.cells (avl b Ab cb) 25) := ⟨_, rfl⟩
  have hup : Below u1.heap.size u1 p1 := by rw [hp]; exact ab_below _ _ _
  have hle : Below w.heap.size w p1 := hbl.trans (hup.mono hbl.size)
  have hgu1 : g1 < u1.heap.size := hdk.lt
  have hgw1 : w.heap.size ≤ g1 := hgl
  have H1 : Hid (Below w.heap.size w p1) := Lib.hid (Below.trans H0.out (Below.mono hle (Below.size H0.out)))
  clear H0
  have H2 : Hid (ARow p1 u1.heap.size a.none a.zones a.lines a.days a.lo a.hi (.slice Aa a.daily.length ca) a.holder) := Lib.hid (by rw [hp]; exact (Whole.here _ _ _).alloc _)
  have H3 : Hid (ARow p1 (u1.heap.size + 1) b.none b.zones b.lines b.days b.lo b.hi (.slice Ab b.daily.length cb) b.holder) := Lib.hid (by rw [hp]; exact Whole.at_ _ _ _ _ (by simp))
  have H4 : Hid (Av p1 (fun k => k ≠ g1) (.agg (arow a.none a.zones a.lines a.days a.lo a.hi (.slice Aa a.daily.length ca) a.holder)) a) := Lib.hid (⟨Aa, ca, rfl, (hSa.below hup (Nat.le_refl _)).mono fun k _ hk => hk.2, haa⟩)
  have H5 : Hid (Av p1 (fun k => k ≠ g1) (.agg (arow b.none b.zones b.lines b.days b.lo b.hi (.slice Ab b.daily.length cb) b.holder)) b) := Lib.hid (⟨Ab, cb, rfl, (hSb.below hup (Nat.le_refl _)).mono fun k _ hk => hk.2, hbb⟩)
  have H6 : Hid (Deck g1 p1) := Lib.hid (hdk.below hup hgu1)
  have HKa : Hid (aok a) := Lib.hid ha
  have HKb : Hid (aok b) := Lib.hid hb
  clear hmd hSa hSb haa hbb ha hb hdk hgl hbl hup hle
  go_upto_region 2 with fail
  rw [← hp]
  clear hp
  have hps := dpreds 3 (by omega) _ _ H6.out
  rw [show ((3 : Nat) : Int) = 3 from rfl] at hps
  go_wp2_with fail
  refine hps.mono ?_
  rintro e v2 ⟨v, ll, rfl, hl3, hll, hown, ht⟩
  obtain ⟨Al, cl, rfl, hX⟩ := hown.prds (fun p hp => (hll p hp).2)
  obtain ⟨nl, hnl⟩ : ∃ n, n = ll.length := ⟨_, rfl⟩
  rw [← hnl]
  have HNL := Lib.hid hnl
  have HLL : Hid (ll.length ≤ 64 ∧ ∀ p ∈ ll, pok p) := Lib.hid ⟨by omega, fun p hp => (hll p hp).1⟩
  have H7 : Hid (Below w.heap.size w v2) := Lib.hid (Below.trans H1.out (Below.mono (ht).2.1 hgw1))
  have H8 : Hid (ARow v2 u1.heap.size a.none a.zones a.lines a.days a.lo a.hi (.slice Aa a.daily.length ca) a.holder) := Lib.hid ((ht).2.2.oth _ _ _ (by omega) H2.out)
  have H9 : Hid (ARow v2 (u1.heap.size + 1) b.none b.zones b.lines b.days b.lo b.hi (.slice Ab b.daily.length cb) b.holder) := Lib.hid ((ht).2.2.oth _ _ _ (by omega) H3.out)
  have H10 : Hid (Av v2 (fun k => k ≠ g1) (.agg (arow a.none a.zones a.lines a.days a.lo a.hi (.slice Aa a.daily.length ca) a.holder)) a) := Lib.hid (Av.oth H4.out (ht).2.2 (ht).2.1.size (fun k _ hk => hk))
  have H11 : Hid (Av v2 (fun k => k ≠ g1) (.agg (arow b.none b.zones b.lines b.days b.lo b.hi (.slice Ab b.daily.length cb) b.holder)) b) := Lib.hid (Av.oth H5.out (ht).2.2 (ht).2.1.size (fun k _ hk => hk))
  have H12 : Hid (Deck g1 v2) := Lib.hid ((ht).1)
  clear H1 H2 H3 H4 H5 H6
  have H13 : Hid (Prds v2 (fun g => p1.heap.size ≤ g) Al cl ll) := Lib.hid (hX)
  clear hps hown ht hX hnl hll hl3
  go_upto_region 3 with fail
  have hdn := dnew A1 _ c1 l1 v2 HN1.out ((HI1.out.below H7.out).mono (Below.size H7.out))
  go_wp2_with fail
  refine hdn.mono ?_
  rintro e t3 ⟨rfl, hk, hb1⟩
  have hps := dpreds 3 (by omega) _ _ hk
  rw [show ((3 : Nat) : Int) = 3 from rfl] at hps
  clear hdn
  go_wp2_with fail
  refine hps.mono ?_
  rintro e v3 ⟨vv, l2, rfl, hk3, hll2, hown, ht⟩
  have hle0 : Below v2.heap.size v2 v3 := hb1.trans ht.2.1
  have H14 : Hid (Prds v3 (fun g => p1.heap.size ≤ g) Al cl ll) := Lib.hid (H13.out.keep (hle0).size fun g hg _ => (hle0).block g hg)
  clear H13
  have H15 : Hid (Below w.heap.size w v3) := Lib.hid (Below.trans H7.out (Below.mono hle0 (Below.size H7.out)))
  have H16 : Hid (ARow v3 u1.heap.size a.none a.zones a.lines a.days a.lo a.hi (.slice Aa a.daily.length ca) a.holder) := Lib.hid (Whole.below H8.out hle0 (Whole.lt H8.out))
  have H17 : Hid (ARow v3 (u1.heap.size + 1) b.none b.zones b.lines b.days b.lo b.hi (.slice Ab b.daily.length cb) b.holder) := Lib.hid (Whole.below H9.out hle0 (Whole.lt H9.out))
  have H18 : Hid (Av v3 (fun k => k ≠ g1) (.agg (arow a.none a.zones a.lines a.days a.lo a.hi (.slice Aa a.daily.length ca) a.holder)) a) := Lib.hid (Av.below H10.out hle0 (Nat.le_refl _))
  have H19 : Hid (Av v3 (fun k => k ≠ g1) (.agg (arow b.none b.zones b.lines b.days b.lo b.hi (.slice Ab b.daily.length cb) b.holder)) b) := Lib.hid (Av.below H11.out hle0 (Nat.le_refl _))
  clear H7 H8 H9 H10 H11
  obtain ⟨A2, k2, rfl, hX⟩ := hown.prds (fun p hp => (hll2 p hp).2)
  have hof := rof l2 A2 k2 _ v3 hX
  obtain ⟨n2, hn2⟩ : ∃ n, n = l2.length := ⟨_, rfl⟩
  rw [← hn2] at hof ⊢
  clear hps hown ht hX hn2 hll2 hk3 hk hb1 hle0
  go_wp2_with fail
  refine hof.mono ?_
  rintro e u3 ⟨⟨xx, c, er3, rfl, hx, hr⟩, hbb⟩
  clear hof hr
  obtain ⟨Ac, cc, rfl, hSc, hac⟩ := hx
  obtain ⟨q3, hp⟩ : ∃ p, p = u3.alloc (.cells (avl c Ac cc) 25) := ⟨_, rfl⟩
  have hup : Below u3.heap.size u3 q3 := by rw [hp]; exact (Below.refl _ _).alloc (Nat.le_refl _) _
  have hle : Below v3.heap.size v3 q3 := hbb.trans (hup.mono hbb.size)
  have H20 : Hid (Prds q3 (fun g => p1.heap.size ≤ g) Al cl ll) := Lib.hid (H14.out.keep (hle).size fun g hg _ => (hle).block g hg)
  clear H14
  have H21 : Hid (Below w.heap.size w q3) := Lib.hid (Below.trans H15.out (Below.mono hle (Below.size H15.out)))
  have H22 : Hid (ARow q3 u1.heap.size a.none a.zones a.lines a.days a.lo a.hi (.slice Aa a.daily.length ca) a.holder) := Lib.hid (Whole.below H16.out hle (Whole.lt H16.out))
  have H23 : Hid (ARow q3 (u1.heap.size + 1) b.none b.zones b.lines b.days b.lo b.hi (.slice Ab b.daily.length cb) b.holder) := Lib.hid (Whole.below H17.out hle (Whole.lt H17.out))
  have H24 : Hid (Av q3 (fun k => k ≠ g1) (.agg (arow a.none a.zones a.lines a.days a.lo a.hi (.slice Aa a.daily.length ca) a.holder)) a) := Lib.hid (Av.below H18.out hle (Nat.le_refl _))
  have H25 : Hid (Av q3 (fun k => k ≠ g1) (.agg (arow b.none b.zones b.lines b.days b.lo b.hi (.slice Ab b.daily.length cb) b.holder)) b) := Lib.hid (Av.below H19.out hle (Nat.le_refl _))
  clear H15 H16 H17 H18 H19
  have H26 : Hid (ARow q3 u3.heap.size c.none c.zones c.lines c.days c.lo c.hi (.slice Ac c.daily.length cc) c.holder) := Lib.hid (by rw [hp]; exact Whole.here _ _ _)
  have H27 : Hid (Av q3 (fun _ => True) (.agg (arow c.none c.zones c.lines c.days c.lo c.hi (.slice Ac c.daily.length cc) c.holder)) c) := Lib.hid (⟨Ac, cc, rfl, (hSc.below hup (Nat.le_refl _)).mono fun _ _ _ => trivial, hac⟩)
  clear hup hle hbb hSc hac
  go_upto_region 4 with fail
  rw [← hp]
  clear hp
  have hof := aof ll Al cl _ q3 H20.out
  rw [← HNL.out] at hof
  go_wp2_with fail
  refine hof.mono ?_
  rintro e u4 ⟨⟨xx, d, er4, rfl, hx, hr⟩, hbb⟩
  have HKd : Hid (aok d) := Lib.hid (of_ok hr HLL.out.1 HLL.out.2).1.1
  clear hof hr
  clear H20
  obtain ⟨Ad, cd, rfl, hSd, had⟩ := hx
  obtain ⟨q4, hp⟩ : ∃ p, p = u4.alloc (.cells (avl d Ad cd) 25) := ⟨_, rfl⟩
  have hup : Below u4.heap.size u4 q4 := by rw [hp]; exact (Below.refl _ _).alloc (Nat.le_refl _) _
  have hle : Below q3.heap.size q3 q4 := hbb.trans (hup.mono hbb.size)
  have H28 : Hid (Below w.heap.size w q4) := Lib.hid (Below.trans H21.out (Below.mono hle (Below.size H21.out)))
  have H29 : Hid (ARow q4 u1.heap.size a.none a.zones a.lines a.days a.lo a.hi (.slice Aa a.daily.length ca) a.holder) := Lib.hid (Whole.below H22.out hle (Whole.lt H22.out))
  have H30 : Hid (ARow q4 (u1.heap.size + 1) b.none b.zones b.lines b.days b.lo b.hi (.slice Ab b.daily.length cb) b.holder) := Lib.hid (Whole.below H23.out hle (Whole.lt H23.out))
  have H31 : Hid (Av q4 (fun k => k ≠ g1) (.agg (arow a.none a.zones a.lines a.days a.lo a.hi (.slice Aa a.daily.length ca) a.holder)) a) := Lib.hid (Av.below H24.out hle (Nat.le_refl _))
  have H32 : Hid (Av q4 (fun k => k ≠ g1) (.agg (arow b.none b.zones b.lines b.days b.lo b.hi (.slice Ab b.daily.length cb) b.holder)) b) := Lib.hid (Av.below H25.out hle (Nat.le_refl _))
  have H33 : Hid (ARow q4 u3.heap.size c.none c.zones c.lines c.days c.lo c.hi (.slice Ac c.daily.length cc) c.holder) := Lib.hid (Whole.below H26.out hle (Whole.lt H26.out))
  have H34 : Hid (Av q4 (fun _ => True) (.agg (arow c.none c.zones c.lines c.days c.lo c.hi (.slice Ac c.daily.length cc) c.holder)) c) := Lib.hid (Av.below H27.out hle (Nat.le_refl _))
  clear H21 H22 H23 H24 H25 H26 H27
  have H35 : Hid (ARow q4 u4.heap.size d.none d.zones d.lines d.days d.lo d.hi (.slice Ad d.daily.length cd) d.holder) := Lib.hid (by rw [hp]; exact Whole.here _ _ _)
  have H36 : Hid (Av q4 (fun _ => True) (.agg (arow d.none d.zones d.lines d.days d.lo d.hi (.slice Ad d.daily.length cd) d.holder)) d) := Lib.hid (⟨Ad, cd, rfl, (hSd.below hup (Nat.le_refl _)).mono fun _ _ _ => trivial, had⟩)
  clear hup hle hbb hSd had
  go_upto_region 5 with fail
  rw [← hp]
  clear hp
  obtain ⟨ka0, ka1, ka2, ka3, ka4, ka5, ka6, ka7⟩ := ARow.cells H29.out
  obtain ⟨kd0, kd1, kd2, kd3, kd4, kd5, kd6, kd7⟩ := ARow.cells H35.out
  have hcm := ameet H31.out H36.out
  go_wp2_with fail
  refine hcm.mono ?_
  rintro e u5 ⟨⟨xx, m, rfl, hx, hm⟩, hbb⟩
  have HM := Lib.hid hm
  clear hcm hm ka0 ka1 ka2 ka3 ka4 ka5 ka6 ka7 kd0 kd1 kd2 kd3 kd4 kd5 kd6 kd7
  obtain ⟨Am, cm, rfl, hSm, ham⟩ := hx
  obtain ⟨q5, hp⟩ : ∃ p, p = u5.alloc (.cells (avl m Am cm) 25) := ⟨_, rfl⟩
  have hup : Below u5.heap.size u5 q5 := by rw [hp]; exact (Below.refl _ _).alloc (Nat.le_refl _) _
  have hle : Below q4.heap.size q4 q5 := hbb.trans (hup.mono hbb.size)
  have H37 : Hid (Below w.heap.size w q5) := Lib.hid (Below.trans H28.out (Below.mono hle (Below.size H28.out)))
  have H38 : Hid (ARow q5 u1.heap.size a.none a.zones a.lines a.days a.lo a.hi (.slice Aa a.daily.length ca) a.holder) := Lib.hid (Whole.below H29.out hle (Whole.lt H29.out))
  have H39 : Hid (ARow q5 (u1.heap.size + 1) b.none b.zones b.lines b.days b.lo b.hi (.slice Ab b.daily.length cb) b.holder) := Lib.hid (Whole.below H30.out hle (Whole.lt H30.out))
  have H40 : Hid (Av q5 (fun k => k ≠ g1) (.agg (arow a.none a.zones a.lines a.days a.lo a.hi (.slice Aa a.daily.length ca) a.holder)) a) := Lib.hid (Av.below H31.out hle (Nat.le_refl _))
  have H41 : Hid (Av q5 (fun k => k ≠ g1) (.agg (arow b.none b.zones b.lines b.days b.lo b.hi (.slice Ab b.daily.length cb) b.holder)) b) := Lib.hid (Av.below H32.out hle (Nat.le_refl _))
  have H42 : Hid (ARow q5 u3.heap.size c.none c.zones c.lines c.days c.lo c.hi (.slice Ac c.daily.length cc) c.holder) := Lib.hid (Whole.below H33.out hle (Whole.lt H33.out))
  have H43 : Hid (Av q5 (fun _ => True) (.agg (arow c.none c.zones c.lines c.days c.lo c.hi (.slice Ac c.daily.length cc) c.holder)) c) := Lib.hid (Av.below H34.out hle (Nat.le_refl _))
  have H44 : Hid (ARow q5 u4.heap.size d.none d.zones d.lines d.days d.lo d.hi (.slice Ad d.daily.length cd) d.holder) := Lib.hid (Whole.below H35.out hle (Whole.lt H35.out))
  have H45 : Hid (Av q5 (fun _ => True) (.agg (arow d.none d.zones d.lines d.days d.lo d.hi (.slice Ad d.daily.length cd) d.holder)) d) := Lib.hid (Av.below H36.out hle (Nat.le_refl _))
  clear H28 H29 H30 H31 H32 H33 H34 H35 H36
  have H46 : Hid (ARow q5 u5.heap.size m.none m.zones m.lines m.days m.lo m.hi (.slice Am m.daily.length cm) m.holder) := Lib.hid (by rw [hp]; exact Whole.here _ _ _)
  have H47 : Hid (Av q5 (fun _ => True) (.agg (arow m.none m.zones m.lines m.days m.lo m.hi (.slice Am m.daily.length cm) m.holder)) m) := Lib.hid (⟨Am, cm, rfl, (hSm.below hup (Nat.le_refl _)).mono fun _ _ _ => trivial, ham⟩)
  clear hup hle hbb hSm ham
  go_upto_region 6 with fail
  rw [← hp]
  clear hp
  obtain ⟨B1, h1⟩ : ∃ v, decide (wi a b) = v := ⟨_, rfl⟩
  obtain ⟨B2, h2⟩ : ∃ v, decide (wi b c) = v := ⟨_, rfl⟩
  obtain ⟨B4, h4⟩ : ∃ v, decide (wi b a) = v := ⟨_, rfl⟩
  have JB3 : Hid (B1 = true → B2 = true → decide (wi a c) = true) := Lib.hid (ord_trans h1 h2)
  have JB5 : Hid (B1 = true → B4 = true → decide (a = b) = true) := Lib.hid (ord_anti h1 h4)
  have JB1 := Lib.hid h1
  have JB2 := Lib.hid h2
  have JB4 := Lib.hid h4
  clear h1 h2 h4
  obtain ⟨ka0, ka1, ka2, ka3, ka4, ka5, ka6, ka7⟩ := ARow.cells (Whole.below H38.out (Below.refl _ _) (Whole.lt H38.out))
  obtain ⟨kb0, kb1, kb2, kb3, kb4, kb5, kb6, kb7⟩ := ARow.cells (Whole.below H39.out (Below.refl _ _) (Whole.lt H39.out))
  have hcl := law_win (Below.refl _ _) (Tab.below (Tab.below HT.out H37.out (Nat.le_refl _)) (Below.refl _ _) (Nat.le_refl _)) (Av.below H40.out (Below.refl _ _) (Nat.le_refl _)) (Av.below H41.out (Below.refl _ _) (Nat.le_refl _)) JB1.out
  go_wp2_with fail
  refine hcl.mono ?_
  rintro e y10 ⟨rfl, b10⟩
  clear hcl ka0 ka1 ka2 ka3 ka4 ka5 ka6 ka7 kb0 kb1 kb2 kb3 kb4 kb5 kb6 kb7
  cases B1
  · skip
    obtain ⟨ka0, ka1, ka2, ka3, ka4, ka5, ka6, ka7⟩ := ARow.cells (Whole.below H38.out b10 (Whole.lt H38.out))
    obtain ⟨kb0, kb1, kb2, kb3, kb4, kb5, kb6, kb7⟩ := ARow.cells (Whole.below H39.out b10 (Whole.lt H39.out))
    have hcl := law_win b10 (Tab.below (Tab.below HT.out H37.out (Nat.le_refl _)) b10 (Nat.le_refl _)) (Av.below H40.out b10 (Nat.le_refl _)) (Av.below H41.out b10 (Nat.le_refl _)) JB1.out
    go_wp2_with fail
    refine hcl.mono ?_
    rintro e y11 ⟨rfl, b11⟩
    clear hcl ka0 ka1 ka2 ka3 ka4 ka5 ka6 ka7 kb0 kb1 kb2 kb3 kb4 kb5 kb6 kb7
    have H48 : Hid (Below w.heap.size w y11) := Lib.hid (Below.trans H37.out (Below.mono b11 (Below.size H37.out)))
    have H49 : Hid (ARow y11 u1.heap.size a.none a.zones a.lines a.days a.lo a.hi (.slice Aa a.daily.length ca) a.holder) := Lib.hid (Whole.below H38.out b11 (Whole.lt H38.out))
    have H50 : Hid (ARow y11 (u1.heap.size + 1) b.none b.zones b.lines b.days b.lo b.hi (.slice Ab b.daily.length cb) b.holder) := Lib.hid (Whole.below H39.out b11 (Whole.lt H39.out))
    have H51 : Hid (Av y11 (fun k => k ≠ g1) (.agg (arow a.none a.zones a.lines a.days a.lo a.hi (.slice Aa a.daily.length ca) a.holder)) a) := Lib.hid (Av.below H40.out b11 (Nat.le_refl _))
    have H52 : Hid (Av y11 (fun k => k ≠ g1) (.agg (arow b.none b.zones b.lines b.days b.lo b.hi (.slice Ab b.daily.length cb) b.holder)) b) := Lib.hid (Av.below H41.out b11 (Nat.le_refl _))
    have H53 : Hid (ARow y11 u3.heap.size c.none c.zones c.lines c.days c.lo c.hi (.slice Ac c.daily.length cc) c.holder) := Lib.hid (Whole.below H42.out b11 (Whole.lt H42.out))
    have H54 : Hid (Av y11 (fun _ => True) (.agg (arow c.none c.zones c.lines c.days c.lo c.hi (.slice Ac c.daily.length cc) c.holder)) c) := Lib.hid (Av.below H43.out b11 (Nat.le_refl _))
    have H55 : Hid (ARow y11 u4.heap.size d.none d.zones d.lines d.days d.lo d.hi (.slice Ad d.daily.length cd) d.holder) := Lib.hid (Whole.below H44.out b11 (Whole.lt H44.out))
    have H56 : Hid (Av y11 (fun _ => True) (.agg (arow d.none d.zones d.lines d.days d.lo d.hi (.slice Ad d.daily.length cd) d.holder)) d) := Lib.hid (Av.below H45.out b11 (Nat.le_refl _))
    have H57 : Hid (ARow y11 u5.heap.size m.none m.zones m.lines m.days m.lo m.hi (.slice Am m.daily.length cm) m.holder) := Lib.hid (Whole.below H46.out b11 (Whole.lt H46.out))
    have H58 : Hid (Av y11 (fun _ => True) (.agg (arow m.none m.zones m.lines m.days m.lo m.hi (.slice Am m.daily.length cm) m.holder)) m) := Lib.hid (Av.below H47.out b11 (Nat.le_refl _))
    clear H37 H38 H39 H40 H41 H42 H43 H44 H45 H46 H47
    go_upto_region 8 with fail
    have hcc : ∀ W, Below y11.heap.size y11 W → W.cell? ⟨u1.heap.size, 0, none⟩ = some (.bool a.none) ∧ W.cell? ⟨u1.heap.size, 1, none⟩ = some (.int .u64 (a.zones : Int)) ∧ W.cell? ⟨u1.heap.size, 2, none⟩ = some (.int .u64 (a.lines : Int)) ∧ W.cell? ⟨u1.heap.size, 3, none⟩ = some (.int .u64 (a.days : Int)) ∧ W.cell? ⟨u1.heap.size, 4, none⟩ = some (.int .i64 a.lo) ∧ W.cell? ⟨u1.heap.size, 5, none⟩ = some (.int .i64 a.hi) ∧ W.cell? ⟨u1.heap.size, 6, none⟩ = some (.slice Aa a.daily.length ca) ∧ W.cell? ⟨u1.heap.size, 7, none⟩ = some (.string (sof a.holder)) ∧ W.cell? ⟨(u1.heap.size + 1), 0, none⟩ = some (.bool b.none) ∧ W.cell? ⟨(u1.heap.size + 1), 1, none⟩ = some (.int .u64 (b.zones : Int)) ∧ W.cell? ⟨(u1.heap.size + 1), 2, none⟩ = some (.int .u64 (b.lines : Int)) ∧ W.cell? ⟨(u1.heap.size + 1), 3, none⟩ = some (.int .u64 (b.days : Int)) ∧ W.cell? ⟨(u1.heap.size + 1), 4, none⟩ = some (.int .i64 b.lo) ∧ W.cell? ⟨(u1.heap.size + 1), 5, none⟩ = some (.int .i64 b.hi) ∧ W.cell? ⟨(u1.heap.size + 1), 6, none⟩ = some (.slice Ab b.daily.length cb) ∧ W.cell? ⟨(u1.heap.size + 1), 7, none⟩ = some (.string (sof b.holder)) ∧ W.cell? ⟨u4.heap.size, 0, none⟩ = some (.bool d.none) ∧ W.cell? ⟨u4.heap.size, 1, none⟩ = some (.int .u64 (d.zones : Int)) ∧ W.cell? ⟨u4.heap.size, 2, none⟩ = some (.int .u64 (d.lines : Int)) ∧ W.cell? ⟨u4.heap.size, 3, none⟩ = some (.int .u64 (d.days : Int)) ∧ W.cell? ⟨u4.heap.size, 4, none⟩ = some (.int .i64 d.lo) ∧ W.cell? ⟨u4.heap.size, 5, none⟩ = some (.int .i64 d.hi) ∧ W.cell? ⟨u4.heap.size, 6, none⟩ = some (.slice Ad d.daily.length cd) ∧ W.cell? ⟨u4.heap.size, 7, none⟩ = some (.string (sof d.holder)) ∧ W.cell? ⟨u5.heap.size, 0, none⟩ = some (.bool m.none) ∧ W.cell? ⟨u5.heap.size, 1, none⟩ = some (.int .u64 (m.zones : Int)) ∧ W.cell? ⟨u5.heap.size, 2, none⟩ = some (.int .u64 (m.lines : Int)) ∧ W.cell? ⟨u5.heap.size, 3, none⟩ = some (.int .u64 (m.days : Int)) ∧ W.cell? ⟨u5.heap.size, 4, none⟩ = some (.int .i64 m.lo) ∧ W.cell? ⟨u5.heap.size, 5, none⟩ = some (.int .i64 m.hi) ∧ W.cell? ⟨u5.heap.size, 6, none⟩ = some (.slice Am m.daily.length cm) ∧ W.cell? ⟨u5.heap.size, 7, none⟩ = some (.string (sof m.holder)) := fun W hb => by
      obtain ⟨x0_0, x0_1, x0_2, x0_3, x0_4, x0_5, x0_6, x0_7⟩ := ARow.cells (Whole.below H49.out hb (Whole.lt H49.out))
      obtain ⟨x1_0, x1_1, x1_2, x1_3, x1_4, x1_5, x1_6, x1_7⟩ := ARow.cells (Whole.below H50.out hb (Whole.lt H50.out))
      obtain ⟨x2_0, x2_1, x2_2, x2_3, x2_4, x2_5, x2_6, x2_7⟩ := ARow.cells (Whole.below H55.out hb (Whole.lt H55.out))
      obtain ⟨x3_0, x3_1, x3_2, x3_3, x3_4, x3_5, x3_6, x3_7⟩ := ARow.cells (Whole.below H57.out hb (Whole.lt H57.out))
      exact ⟨x0_0, x0_1, x0_2, x0_3, x0_4, x0_5, x0_6, x0_7, x1_0, x1_1, x1_2, x1_3, x1_4, x1_5, x1_6, x1_7, x2_0, x2_1, x2_2, x2_3, x2_4, x2_5, x2_6, x2_7, x3_0, x3_1, x3_2, x3_3, x3_4, x3_5, x3_6, x3_7⟩
    refine wp_region_held_drew (S := fun W => W.cell? ⟨u1.heap.size, 0, none⟩ = some (.bool a.none) ∧ W.cell? ⟨u1.heap.size, 1, none⟩ = some (.int .u64 (a.zones : Int)) ∧ W.cell? ⟨u1.heap.size, 2, none⟩ = some (.int .u64 (a.lines : Int)) ∧ W.cell? ⟨u1.heap.size, 3, none⟩ = some (.int .u64 (a.days : Int)) ∧ W.cell? ⟨u1.heap.size, 4, none⟩ = some (.int .i64 a.lo) ∧ W.cell? ⟨u1.heap.size, 5, none⟩ = some (.int .i64 a.hi) ∧ W.cell? ⟨u1.heap.size, 6, none⟩ = some (.slice Aa a.daily.length ca) ∧ W.cell? ⟨u1.heap.size, 7, none⟩ = some (.string (sof a.holder)) ∧ W.cell? ⟨(u1.heap.size + 1), 0, none⟩ = some (.bool b.none) ∧ W.cell? ⟨(u1.heap.size + 1), 1, none⟩ = some (.int .u64 (b.zones : Int)) ∧ W.cell? ⟨(u1.heap.size + 1), 2, none⟩ = some (.int .u64 (b.lines : Int)) ∧ W.cell? ⟨(u1.heap.size + 1), 3, none⟩ = some (.int .u64 (b.days : Int)) ∧ W.cell? ⟨(u1.heap.size + 1), 4, none⟩ = some (.int .i64 b.lo) ∧ W.cell? ⟨(u1.heap.size + 1), 5, none⟩ = some (.int .i64 b.hi) ∧ W.cell? ⟨(u1.heap.size + 1), 6, none⟩ = some (.slice Ab b.daily.length cb) ∧ W.cell? ⟨(u1.heap.size + 1), 7, none⟩ = some (.string (sof b.holder)) ∧ W.cell? ⟨u4.heap.size, 0, none⟩ = some (.bool d.none) ∧ W.cell? ⟨u4.heap.size, 1, none⟩ = some (.int .u64 (d.zones : Int)) ∧ W.cell? ⟨u4.heap.size, 2, none⟩ = some (.int .u64 (d.lines : Int)) ∧ W.cell? ⟨u4.heap.size, 3, none⟩ = some (.int .u64 (d.days : Int)) ∧ W.cell? ⟨u4.heap.size, 4, none⟩ = some (.int .i64 d.lo) ∧ W.cell? ⟨u4.heap.size, 5, none⟩ = some (.int .i64 d.hi) ∧ W.cell? ⟨u4.heap.size, 6, none⟩ = some (.slice Ad d.daily.length cd) ∧ W.cell? ⟨u4.heap.size, 7, none⟩ = some (.string (sof d.holder)) ∧ W.cell? ⟨u5.heap.size, 0, none⟩ = some (.bool m.none) ∧ W.cell? ⟨u5.heap.size, 1, none⟩ = some (.int .u64 (m.zones : Int)) ∧ W.cell? ⟨u5.heap.size, 2, none⟩ = some (.int .u64 (m.lines : Int)) ∧ W.cell? ⟨u5.heap.size, 3, none⟩ = some (.int .u64 (m.days : Int)) ∧ W.cell? ⟨u5.heap.size, 4, none⟩ = some (.int .i64 m.lo) ∧ W.cell? ⟨u5.heap.size, 5, none⟩ = some (.int .i64 m.hi) ∧ W.cell? ⟨u5.heap.size, 6, none⟩ = some (.slice Am m.daily.length cm) ∧ W.cell? ⟨u5.heap.size, 7, none⟩ = some (.string (sof m.holder))) (by kernel_rfl) (hcc _ (Below.drew (Below.refl _ _))) (fun hHeld => ?_)
    apply wpAnyH_take (i := 0) rfl (by kernel_rfl) (by kernel_rfl) (by kernel_rfl)
    case hQ => exact fun _ _ _ h => h
    case hS => exact hHeld
    case hy => (refine Or.inl ⟨by rfl, ?_⟩; intro w hSw; go_split_ands; go_simp; (try with_reducible rfl))
    (try simp only [List.getElem_toArray, List.getElem_cons_zero, Act.put, List.setIfInBounds_toArray, List.set_cons_zero, List.set_cons_succ])
    apply wpAnyH_take (i := 1) rfl (by kernel_rfl) (by kernel_rfl) (by kernel_rfl)
    case hQ => exact fun _ _ _ h => h
    case hS => exact hHeld
    case hy => (refine Or.inl ⟨by rfl, ?_⟩; intro w hSw; go_split_ands; go_simp; (try with_reducible rfl))
    (try simp only [List.getElem_toArray, List.getElem_cons_succ, List.getElem_cons_zero, Act.put, List.setIfInBounds_toArray, List.set_cons_zero, List.set_cons_succ])
    apply wpAnyH_take (i := 3) rfl (by kernel_rfl) (by kernel_rfl) (by kernel_rfl)
    case hQ => exact fun _ _ _ h => h
    case hS => exact hHeld
    case hy => (refine Or.inl ⟨by rfl, ?_⟩; intro w hSw; go_split_ands; go_simp; (try with_reducible rfl))
    (try simp only [List.getElem_toArray, List.getElem_cons_succ, List.getElem_cons_zero, Act.put, List.setIfInBounds_toArray, List.set_cons_zero, List.set_cons_succ])
    apply wpAnyH_take (i := 4) rfl (by kernel_rfl) (by kernel_rfl) (by kernel_rfl)
    case hQ => exact fun _ _ _ h => h
    case hS => exact hHeld
    case hy => (refine Or.inl ⟨by rfl, ?_⟩; intro w hSw; go_split_ands; go_simp; (try with_reducible rfl))
    (try simp only [List.getElem_toArray, List.getElem_cons_succ, List.getElem_cons_zero, Act.put, List.setIfInBounds_toArray, List.set_cons_zero, List.set_cons_succ])
    apply wpAnyH_take (i := 6) rfl (by kernel_rfl) (by kernel_rfl) (by kernel_rfl)
    case hQ => exact fun _ _ _ h => h
    case hS => exact hHeld
    case hy => (refine Or.inl ⟨by rfl, ?_⟩; intro w hSw; go_split_ands; go_simp; (try with_reducible rfl))
    (try simp only [List.getElem_toArray, List.getElem_cons_succ, List.getElem_cons_zero, Act.put, List.setIfInBounds_toArray, List.set_cons_zero, List.set_cons_succ])
    refine wpAnyH_ready (rs := [2]) (by kernel_rfl) (by simp) ?_
    refine AllReadyH.cons rfl (fun K hK => ?_) AllReadyH.nil
    (try simp only [List.getElem_toArray, List.getElem_cons_succ, List.getElem_cons_zero])
    go_simp
    go_at_call 11
    refine (law_win (Below.drew (Below.refl _ _)) (Tab.below (Tab.below HT.out H48.out (Nat.le_refl _)) (Below.drew (Below.refl _ _)) (Nat.le_refl _)) (Av.below H51.out (Below.drew (Below.refl _ _)) (Nat.le_refl _)) (Av.below H52.out (Below.drew (Below.refl _ _)) (Nat.le_refl _)) JB1.out).mono ?_
    rintro e w1 ⟨rfl, c1⟩
    refine hK.out _ _ (hcc _ c1) (fun hHeld => ?_)
    clear hK K
    (try simp only [List.getElem_toArray, List.getElem_cons_succ, List.getElem_cons_zero, Act.put, List.setIfInBounds_toArray, List.set_cons_zero, List.set_cons_succ])
    refine wpAnyH_ready (rs := [5]) (by kernel_rfl) (by simp) ?_
    refine AllReadyH.cons rfl (fun K hK => ?_) AllReadyH.nil
    (try simp only [List.getElem_toArray, List.getElem_cons_succ, List.getElem_cons_zero])
    go_simp
    go_at_call 25
    refine (law_meet c1 (Av.below H51.out c1 (Nat.le_refl _)) (Av.below H52.out c1 (Nat.le_refl _))).mono ?_
    rintro e w2 ⟨⟨z2, m2, rfl, hz2, hm2⟩, c2, -⟩
    refine hK.out _ _ (hcc _ c2) (fun hHeld => ?_)
    clear hK K
    (try simp only [List.getElem_toArray, List.getElem_cons_succ, List.getElem_cons_zero, Act.put, List.setIfInBounds_toArray, List.set_cons_zero, List.set_cons_succ])
    refine wpAnyH_ready (rs := [7]) (by kernel_rfl) (by simp) ?_
    refine AllReadyH.cons rfl (fun K hK => ?_) AllReadyH.nil
    (try simp only [List.getElem_toArray, List.getElem_cons_succ, List.getElem_cons_zero])
    go_simp
    go_at_call 13
    refine (law_csam c2 hz2 (Av.below H51.out c2 (Nat.le_refl _)) (ord_meet HKa.out HKb.out hm2 JB1.out)).mono ?_
    rintro e w3 ⟨rfl, c3⟩
    refine hK.out _ _ (hcc _ c3) (fun hHeld => ?_)
    clear hK K
    (try simp only [List.getElem_toArray, List.getElem_cons_succ, List.getElem_cons_zero, Act.put, List.setIfInBounds_toArray, List.set_cons_zero, List.set_cons_succ])
    apply wpAnyH_take (i := 8) rfl (by kernel_rfl) (by kernel_rfl) (by kernel_rfl)
    case hQ => exact fun _ _ _ h => h
    case hS => exact hHeld
    case hy => (refine Or.inl ⟨by rfl, ?_⟩; intro w hSw; go_split_ands; go_simp; (try with_reducible rfl))
    (try simp only [List.getElem_toArray, List.getElem_cons_succ, List.getElem_cons_zero, Act.put, List.setIfInBounds_toArray, List.set_cons_zero, List.set_cons_succ])
    apply wpAnyH_take (i := 9) rfl (by kernel_rfl) (by kernel_rfl) (by kernel_rfl)
    case hQ => exact fun _ _ _ h => h
    case hS => exact hHeld
    case hy => (refine Or.inl ⟨by rfl, ?_⟩; intro w hSw; go_split_ands; go_simp; (try with_reducible rfl))
    (try simp only [List.getElem_toArray, List.getElem_cons_succ, List.getElem_cons_zero, Act.put, List.setIfInBounds_toArray, List.set_cons_zero, List.set_cons_succ])
    apply wpAnyH_take (i := 10) rfl (by kernel_rfl) (by kernel_rfl) (by kernel_rfl)
    case hQ => exact fun _ _ _ h => h
    case hS => exact hHeld
    case hy => (refine Or.inl ⟨by rfl, ?_⟩; intro w hSw; go_split_ands; go_simp; (try with_reducible rfl))
    (try simp only [List.getElem_toArray, List.getElem_cons_succ, List.getElem_cons_zero, Act.put, List.setIfInBounds_toArray, List.set_cons_zero, List.set_cons_succ])
    apply wpAnyH_take (i := 11) rfl (by kernel_rfl) (by kernel_rfl) (by kernel_rfl)
    case hQ => exact fun _ _ _ h => h
    case hS => exact hHeld
    case hy => (refine Or.inl ⟨by rfl, ?_⟩; intro w hSw; go_split_ands; go_simp; (try with_reducible rfl))
    (try simp only [List.getElem_toArray, List.getElem_cons_succ, List.getElem_cons_zero, Act.put, List.setIfInBounds_toArray, List.set_cons_zero, List.set_cons_succ])
    refine wpAnyH_ready (rs := [12]) (by kernel_rfl) (by simp) ?_
    refine AllReadyH.cons rfl (fun K hK => ?_) AllReadyH.nil
    (try simp only [List.getElem_toArray, List.getElem_cons_succ, List.getElem_cons_zero])
    go_simp
    go_at_call 11
    refine (law_win c3 (Tab.below (Tab.below HT.out H48.out (Nat.le_refl _)) c3 (Nat.le_refl _)) (Av.below H58.out c3 (Nat.le_refl _)) (Av.below H51.out c3 (Nat.le_refl _)) (ord_low HKa.out HKd.out HM.out).1).mono ?_
    rintro e w4 ⟨rfl, c4⟩
    refine hK.out _ _ (hcc _ c4) (fun hHeld => ?_)
    clear hK K
    (try simp only [List.getElem_toArray, List.getElem_cons_succ, List.getElem_cons_zero, Act.put, List.setIfInBounds_toArray, List.set_cons_zero, List.set_cons_succ])
    apply wpAnyH_take (i := 13) rfl (by kernel_rfl) (by kernel_rfl) (by kernel_rfl)
    case hQ => exact fun _ _ _ h => h
    case hS => exact hHeld
    case hy => (refine Or.inl ⟨by rfl, ?_⟩; intro w hSw; go_split_ands; go_simp; (try with_reducible rfl))
    (try simp only [List.getElem_toArray, List.getElem_cons_succ, List.getElem_cons_zero, Act.put, List.setIfInBounds_toArray, List.set_cons_zero, List.set_cons_succ])
    apply wpAnyH_take (i := 14) rfl (by kernel_rfl) (by kernel_rfl) (by kernel_rfl)
    case hQ => exact fun _ _ _ h => h
    case hS => exact hHeld
    case hy => (refine Or.inl ⟨by rfl, ?_⟩; intro w hSw; go_split_ands; go_simp; (try with_reducible rfl))
    (try simp only [List.getElem_toArray, List.getElem_cons_succ, List.getElem_cons_zero, Act.put, List.setIfInBounds_toArray, List.set_cons_zero, List.set_cons_succ])
    apply wpAnyH_take (i := 15) rfl (by kernel_rfl) (by kernel_rfl) (by kernel_rfl)
    case hQ => exact fun _ _ _ h => h
    case hS => exact hHeld
    case hy => (refine Or.inl ⟨by rfl, ?_⟩; intro w hSw; go_split_ands; go_simp; (try with_reducible rfl))
    (try simp only [List.getElem_toArray, List.getElem_cons_succ, List.getElem_cons_zero, Act.put, List.setIfInBounds_toArray, List.set_cons_zero, List.set_cons_succ])
    apply wpAnyH_take (i := 16) rfl (by kernel_rfl) (by kernel_rfl) (by kernel_rfl)
    case hQ => exact fun _ _ _ h => h
    case hS => exact hHeld
    case hy => (refine Or.inl ⟨by rfl, ?_⟩; intro w hSw; go_split_ands; go_simp; (try with_reducible rfl))
    (try simp only [List.getElem_toArray, List.getElem_cons_succ, List.getElem_cons_zero, Act.put, List.setIfInBounds_toArray, List.set_cons_zero, List.set_cons_succ])
    refine wpAnyH_ready (rs := [17]) (by kernel_rfl) (by simp) ?_
    refine AllReadyH.cons rfl (fun K hK => ?_) AllReadyH.nil
    (try simp only [List.getElem_toArray, List.getElem_cons_succ, List.getElem_cons_zero])
    go_simp
    go_at_call 11
    refine (law_win c4 (Tab.below (Tab.below HT.out H48.out (Nat.le_refl _)) c4 (Nat.le_refl _)) (Av.below H58.out c4 (Nat.le_refl _)) (Av.below H56.out c4 (Nat.le_refl _)) (ord_low HKa.out HKd.out HM.out).2).mono ?_
    rintro e w5 ⟨rfl, c5⟩
    refine hK.out _ _ (hcc _ c5) (fun hHeld => ?_)
    clear hK K
    (try simp only [List.getElem_toArray, List.getElem_cons_succ, List.getElem_cons_zero, Act.put, List.setIfInBounds_toArray, List.set_cons_zero, List.set_cons_succ])
    apply wpAnyH_take (i := 18) rfl (by kernel_rfl) (by kernel_rfl) (by kernel_rfl)
    case hQ => exact fun _ _ _ h => h
    case hS => exact hHeld
    case hy => (refine Or.inl ⟨by rfl, ?_⟩; intro w hSw; go_split_ands; go_simp; (try with_reducible rfl))
    (try simp only [List.getElem_toArray, List.getElem_cons_succ, List.getElem_cons_zero, Act.put, List.setIfInBounds_toArray, List.set_cons_zero, List.set_cons_succ])
    apply wpAnyH_take (i := 19) rfl (by kernel_rfl) (by kernel_rfl) (by kernel_rfl)
    case hQ => exact fun _ _ _ h => h
    case hS => exact hHeld
    case hy => (refine Or.inl ⟨by rfl, ?_⟩; intro w hSw; go_split_ands; go_simp; (try with_reducible rfl))
    (try simp only [List.getElem_toArray, List.getElem_cons_succ, List.getElem_cons_zero, Act.put, List.setIfInBounds_toArray, List.set_cons_zero, List.set_cons_succ])
    refine wpAnyH_ready (rs := [20]) (by kernel_rfl) (by simp) ?_
    refine AllReadyH.cons rfl (fun K hK => ?_) AllReadyH.nil
    (try simp only [List.getElem_toArray, List.getElem_cons_succ, List.getElem_cons_zero])
    go_simp
    go_at_call 9
    refine (law_cawk c5 (Tab.below (Tab.below HT.out H48.out (Nat.le_refl _)) c5 (Nat.le_refl _))).mono ?_
    rintro e w6 ⟨rfl, c6⟩
    refine hK.out _ _ (hcc _ c6) (fun hHeld => ?_)
    clear hK K
    (try simp only [List.getElem_toArray, List.getElem_cons_succ, List.getElem_cons_zero, Act.put, List.setIfInBounds_toArray, List.set_cons_zero, List.set_cons_succ])
    apply wpAnyH_take (i := 21) rfl (by kernel_rfl) (by kernel_rfl) (by kernel_rfl)
    case hQ => exact fun _ _ _ h => h
    case hS => exact hHeld
    case hy => (refine Or.inl ⟨by rfl, ?_⟩; intro w hSw; go_split_ands; go_simp; (try with_reducible rfl))
    (try simp only [List.getElem_toArray, List.getElem_cons_succ, List.getElem_cons_zero, Act.put, List.setIfInBounds_toArray, List.set_cons_zero, List.set_cons_succ])
    apply wpAnyH_take (i := 22) rfl (by kernel_rfl) (by kernel_rfl) (by kernel_rfl)
    case hQ => exact fun _ _ _ h => h
    case hS => exact hHeld
    case hy => (refine Or.inl ⟨by rfl, ?_⟩; intro w hSw; go_split_ands; go_simp; (try with_reducible rfl))
    (try simp only [List.getElem_toArray, List.getElem_cons_succ, List.getElem_cons_zero, Act.put, List.setIfInBounds_toArray, List.set_cons_zero, List.set_cons_succ])
    refine wpAnyH_done (by kernel_rfl) ?_ _
    have HG := Lib.hid (Below.trans H48.out (Below.mono c6 (Below.size H48.out)))
    go_wp2
    go_ret
    exact ⟨rfl, HG.out⟩
  · skip
    obtain ⟨kb0, kb1, kb2, kb3, kb4, kb5, kb6, kb7⟩ := ARow.cells (Whole.below H39.out b10 (Whole.lt H39.out))
    obtain ⟨kc0, kc1, kc2, kc3, kc4, kc5, kc6, kc7⟩ := ARow.cells (Whole.below H42.out b10 (Whole.lt H42.out))
    have hcl := law_win b10 (Tab.below (Tab.below HT.out H37.out (Nat.le_refl _)) b10 (Nat.le_refl _)) (Av.below H41.out b10 (Nat.le_refl _)) (Av.below H43.out b10 (Nat.le_refl _)) JB2.out
    go_wp2_with fail
    refine hcl.mono ?_
    rintro e y11 ⟨rfl, b11⟩
    clear hcl kb0 kb1 kb2 kb3 kb4 kb5 kb6 kb7 kc0 kc1 kc2 kc3 kc4 kc5 kc6 kc7
    cases B2
    · skip
      obtain ⟨ka0, ka1, ka2, ka3, ka4, ka5, ka6, ka7⟩ := ARow.cells (Whole.below H38.out b11 (Whole.lt H38.out))
      obtain ⟨kb0, kb1, kb2, kb3, kb4, kb5, kb6, kb7⟩ := ARow.cells (Whole.below H39.out b11 (Whole.lt H39.out))
      have hcl := law_win b11 (Tab.below (Tab.below HT.out H37.out (Nat.le_refl _)) b11 (Nat.le_refl _)) (Av.below H40.out b11 (Nat.le_refl _)) (Av.below H41.out b11 (Nat.le_refl _)) JB1.out
      go_wp2_with fail
      refine hcl.mono ?_
      rintro e y13 ⟨rfl, b13⟩
      clear hcl ka0 ka1 ka2 ka3 ka4 ka5 ka6 ka7 kb0 kb1 kb2 kb3 kb4 kb5 kb6 kb7
      obtain ⟨kb0, kb1, kb2, kb3, kb4, kb5, kb6, kb7⟩ := ARow.cells (Whole.below H39.out b13 (Whole.lt H39.out))
      obtain ⟨ka0, ka1, ka2, ka3, ka4, ka5, ka6, ka7⟩ := ARow.cells (Whole.below H38.out b13 (Whole.lt H38.out))
      have hcl := law_win b13 (Tab.below (Tab.below HT.out H37.out (Nat.le_refl _)) b13 (Nat.le_refl _)) (Av.below H41.out b13 (Nat.le_refl _)) (Av.below H40.out b13 (Nat.le_refl _)) JB4.out
      go_wp2_with fail
      refine hcl.mono ?_
      rintro e y14 ⟨rfl, b14⟩
      clear hcl kb0 kb1 kb2 kb3 kb4 kb5 kb6 kb7 ka0 ka1 ka2 ka3 ka4 ka5 ka6 ka7
      cases B4
      · skip
        have H59 : Hid (Below w.heap.size w y14) := Lib.hid (Below.trans H37.out (Below.mono b14 (Below.size H37.out)))
        have H60 : Hid (ARow y14 u1.heap.size a.none a.zones a.lines a.days a.lo a.hi (.slice Aa a.daily.length ca) a.holder) := Lib.hid (Whole.below H38.out b14 (Whole.lt H38.out))
        have H61 : Hid (ARow y14 (u1.heap.size + 1) b.none b.zones b.lines b.days b.lo b.hi (.slice Ab b.daily.length cb) b.holder) := Lib.hid (Whole.below H39.out b14 (Whole.lt H39.out))
        have H62 : Hid (Av y14 (fun k => k ≠ g1) (.agg (arow a.none a.zones a.lines a.days a.lo a.hi (.slice Aa a.daily.length ca) a.holder)) a) := Lib.hid (Av.below H40.out b14 (Nat.le_refl _))
        have H63 : Hid (Av y14 (fun k => k ≠ g1) (.agg (arow b.none b.zones b.lines b.days b.lo b.hi (.slice Ab b.daily.length cb) b.holder)) b) := Lib.hid (Av.below H41.out b14 (Nat.le_refl _))
        have H64 : Hid (ARow y14 u3.heap.size c.none c.zones c.lines c.days c.lo c.hi (.slice Ac c.daily.length cc) c.holder) := Lib.hid (Whole.below H42.out b14 (Whole.lt H42.out))
        have H65 : Hid (Av y14 (fun _ => True) (.agg (arow c.none c.zones c.lines c.days c.lo c.hi (.slice Ac c.daily.length cc) c.holder)) c) := Lib.hid (Av.below H43.out b14 (Nat.le_refl _))
        have H66 : Hid (ARow y14 u4.heap.size d.none d.zones d.lines d.days d.lo d.hi (.slice Ad d.daily.length cd) d.holder) := Lib.hid (Whole.below H44.out b14 (Whole.lt H44.out))
        have H67 : Hid (Av y14 (fun _ => True) (.agg (arow d.none d.zones d.lines d.days d.lo d.hi (.slice Ad d.daily.length cd) d.holder)) d) := Lib.hid (Av.below H45.out b14 (Nat.le_refl _))
        have H68 : Hid (ARow y14 u5.heap.size m.none m.zones m.lines m.days m.lo m.hi (.slice Am m.daily.length cm) m.holder) := Lib.hid (Whole.below H46.out b14 (Whole.lt H46.out))
        have H69 : Hid (Av y14 (fun _ => True) (.agg (arow m.none m.zones m.lines m.days m.lo m.hi (.slice Am m.daily.length cm) m.holder)) m) := Lib.hid (Av.below H47.out b14 (Nat.le_refl _))
        clear H37 H38 H39 H40 H41 H42 H43 H44 H45 H46 H47
        go_upto_region 8 with fail
        have hcc : ∀ W, Below y14.heap.size y14 W → W.cell? ⟨u1.heap.size, 0, none⟩ = some (.bool a.none) ∧ W.cell? ⟨u1.heap.size, 1, none⟩ = some (.int .u64 (a.zones : Int)) ∧ W.cell? ⟨u1.heap.size, 2, none⟩ = some (.int .u64 (a.lines : Int)) ∧ W.cell? ⟨u1.heap.size, 3, none⟩ = some (.int .u64 (a.days : Int)) ∧ W.cell? ⟨u1.heap.size, 4, none⟩ = some (.int .i64 a.lo) ∧ W.cell? ⟨u1.heap.size, 5, none⟩ = some (.int .i64 a.hi) ∧ W.cell? ⟨u1.heap.size, 6, none⟩ = some (.slice Aa a.daily.length ca) ∧ W.cell? ⟨u1.heap.size, 7, none⟩ = some (.string (sof a.holder)) ∧ W.cell? ⟨(u1.heap.size + 1), 0, none⟩ = some (.bool b.none) ∧ W.cell? ⟨(u1.heap.size + 1), 1, none⟩ = some (.int .u64 (b.zones : Int)) ∧ W.cell? ⟨(u1.heap.size + 1), 2, none⟩ = some (.int .u64 (b.lines : Int)) ∧ W.cell? ⟨(u1.heap.size + 1), 3, none⟩ = some (.int .u64 (b.days : Int)) ∧ W.cell? ⟨(u1.heap.size + 1), 4, none⟩ = some (.int .i64 b.lo) ∧ W.cell? ⟨(u1.heap.size + 1), 5, none⟩ = some (.int .i64 b.hi) ∧ W.cell? ⟨(u1.heap.size + 1), 6, none⟩ = some (.slice Ab b.daily.length cb) ∧ W.cell? ⟨(u1.heap.size + 1), 7, none⟩ = some (.string (sof b.holder)) ∧ W.cell? ⟨u4.heap.size, 0, none⟩ = some (.bool d.none) ∧ W.cell? ⟨u4.heap.size, 1, none⟩ = some (.int .u64 (d.zones : Int)) ∧ W.cell? ⟨u4.heap.size, 2, none⟩ = some (.int .u64 (d.lines : Int)) ∧ W.cell? ⟨u4.heap.size, 3, none⟩ = some (.int .u64 (d.days : Int)) ∧ W.cell? ⟨u4.heap.size, 4, none⟩ = some (.int .i64 d.lo) ∧ W.cell? ⟨u4.heap.size, 5, none⟩ = some (.int .i64 d.hi) ∧ W.cell? ⟨u4.heap.size, 6, none⟩ = some (.slice Ad d.daily.length cd) ∧ W.cell? ⟨u4.heap.size, 7, none⟩ = some (.string (sof d.holder)) ∧ W.cell? ⟨u5.heap.size, 0, none⟩ = some (.bool m.none) ∧ W.cell? ⟨u5.heap.size, 1, none⟩ = some (.int .u64 (m.zones : Int)) ∧ W.cell? ⟨u5.heap.size, 2, none⟩ = some (.int .u64 (m.lines : Int)) ∧ W.cell? ⟨u5.heap.size, 3, none⟩ = some (.int .u64 (m.days : Int)) ∧ W.cell? ⟨u5.heap.size, 4, none⟩ = some (.int .i64 m.lo) ∧ W.cell? ⟨u5.heap.size, 5, none⟩ = some (.int .i64 m.hi) ∧ W.cell? ⟨u5.heap.size, 6, none⟩ = some (.slice Am m.daily.length cm) ∧ W.cell? ⟨u5.heap.size, 7, none⟩ = some (.string (sof m.holder)) := fun W hb => by
          obtain ⟨x0_0, x0_1, x0_2, x0_3, x0_4, x0_5, x0_6, x0_7⟩ := ARow.cells (Whole.below H60.out hb (Whole.lt H60.out))
          obtain ⟨x1_0, x1_1, x1_2, x1_3, x1_4, x1_5, x1_6, x1_7⟩ := ARow.cells (Whole.below H61.out hb (Whole.lt H61.out))
          obtain ⟨x2_0, x2_1, x2_2, x2_3, x2_4, x2_5, x2_6, x2_7⟩ := ARow.cells (Whole.below H66.out hb (Whole.lt H66.out))
          obtain ⟨x3_0, x3_1, x3_2, x3_3, x3_4, x3_5, x3_6, x3_7⟩ := ARow.cells (Whole.below H68.out hb (Whole.lt H68.out))
          exact ⟨x0_0, x0_1, x0_2, x0_3, x0_4, x0_5, x0_6, x0_7, x1_0, x1_1, x1_2, x1_3, x1_4, x1_5, x1_6, x1_7, x2_0, x2_1, x2_2, x2_3, x2_4, x2_5, x2_6, x2_7, x3_0, x3_1, x3_2, x3_3, x3_4, x3_5, x3_6, x3_7⟩
        refine wp_region_held_drew (S := fun W => W.cell? ⟨u1.heap.size, 0, none⟩ = some (.bool a.none) ∧ W.cell? ⟨u1.heap.size, 1, none⟩ = some (.int .u64 (a.zones : Int)) ∧ W.cell? ⟨u1.heap.size, 2, none⟩ = some (.int .u64 (a.lines : Int)) ∧ W.cell? ⟨u1.heap.size, 3, none⟩ = some (.int .u64 (a.days : Int)) ∧ W.cell? ⟨u1.heap.size, 4, none⟩ = some (.int .i64 a.lo) ∧ W.cell? ⟨u1.heap.size, 5, none⟩ = some (.int .i64 a.hi) ∧ W.cell? ⟨u1.heap.size, 6, none⟩ = some (.slice Aa a.daily.length ca) ∧ W.cell? ⟨u1.heap.size, 7, none⟩ = some (.string (sof a.holder)) ∧ W.cell? ⟨(u1.heap.size + 1), 0, none⟩ = some (.bool b.none) ∧ W.cell? ⟨(u1.heap.size + 1), 1, none⟩ = some (.int .u64 (b.zones : Int)) ∧ W.cell? ⟨(u1.heap.size + 1), 2, none⟩ = some (.int .u64 (b.lines : Int)) ∧ W.cell? ⟨(u1.heap.size + 1), 3, none⟩ = some (.int .u64 (b.days : Int)) ∧ W.cell? ⟨(u1.heap.size + 1), 4, none⟩ = some (.int .i64 b.lo) ∧ W.cell? ⟨(u1.heap.size + 1), 5, none⟩ = some (.int .i64 b.hi) ∧ W.cell? ⟨(u1.heap.size + 1), 6, none⟩ = some (.slice Ab b.daily.length cb) ∧ W.cell? ⟨(u1.heap.size + 1), 7, none⟩ = some (.string (sof b.holder)) ∧ W.cell? ⟨u4.heap.size, 0, none⟩ = some (.bool d.none) ∧ W.cell? ⟨u4.heap.size, 1, none⟩ = some (.int .u64 (d.zones : Int)) ∧ W.cell? ⟨u4.heap.size, 2, none⟩ = some (.int .u64 (d.lines : Int)) ∧ W.cell? ⟨u4.heap.size, 3, none⟩ = some (.int .u64 (d.days : Int)) ∧ W.cell? ⟨u4.heap.size, 4, none⟩ = some (.int .i64 d.lo) ∧ W.cell? ⟨u4.heap.size, 5, none⟩ = some (.int .i64 d.hi) ∧ W.cell? ⟨u4.heap.size, 6, none⟩ = some (.slice Ad d.daily.length cd) ∧ W.cell? ⟨u4.heap.size, 7, none⟩ = some (.string (sof d.holder)) ∧ W.cell? ⟨u5.heap.size, 0, none⟩ = some (.bool m.none) ∧ W.cell? ⟨u5.heap.size, 1, none⟩ = some (.int .u64 (m.zones : Int)) ∧ W.cell? ⟨u5.heap.size, 2, none⟩ = some (.int .u64 (m.lines : Int)) ∧ W.cell? ⟨u5.heap.size, 3, none⟩ = some (.int .u64 (m.days : Int)) ∧ W.cell? ⟨u5.heap.size, 4, none⟩ = some (.int .i64 m.lo) ∧ W.cell? ⟨u5.heap.size, 5, none⟩ = some (.int .i64 m.hi) ∧ W.cell? ⟨u5.heap.size, 6, none⟩ = some (.slice Am m.daily.length cm) ∧ W.cell? ⟨u5.heap.size, 7, none⟩ = some (.string (sof m.holder))) (by kernel_rfl) (hcc _ (Below.drew (Below.refl _ _))) (fun hHeld => ?_)
        apply wpAnyH_take (i := 0) rfl (by kernel_rfl) (by kernel_rfl) (by kernel_rfl)
        case hQ => exact fun _ _ _ h => h
        case hS => exact hHeld
        case hy => (refine Or.inl ⟨by rfl, ?_⟩; intro w hSw; go_split_ands; go_simp; (try with_reducible rfl))
        (try simp only [List.getElem_toArray, List.getElem_cons_zero, Act.put, List.setIfInBounds_toArray, List.set_cons_zero, List.set_cons_succ])
        apply wpAnyH_take (i := 1) rfl (by kernel_rfl) (by kernel_rfl) (by kernel_rfl)
        case hQ => exact fun _ _ _ h => h
        case hS => exact hHeld
        case hy => (refine Or.inl ⟨by rfl, ?_⟩; intro w hSw; go_split_ands; go_simp; (try with_reducible rfl))
        (try simp only [List.getElem_toArray, List.getElem_cons_succ, List.getElem_cons_zero, Act.put, List.setIfInBounds_toArray, List.set_cons_zero, List.set_cons_succ])
        apply wpAnyH_take (i := 3) rfl (by kernel_rfl) (by kernel_rfl) (by kernel_rfl)
        case hQ => exact fun _ _ _ h => h
        case hS => exact hHeld
        case hy => (refine Or.inl ⟨by rfl, ?_⟩; intro w hSw; go_split_ands; go_simp; (try with_reducible rfl))
        (try simp only [List.getElem_toArray, List.getElem_cons_succ, List.getElem_cons_zero, Act.put, List.setIfInBounds_toArray, List.set_cons_zero, List.set_cons_succ])
        apply wpAnyH_take (i := 4) rfl (by kernel_rfl) (by kernel_rfl) (by kernel_rfl)
        case hQ => exact fun _ _ _ h => h
        case hS => exact hHeld
        case hy => (refine Or.inl ⟨by rfl, ?_⟩; intro w hSw; go_split_ands; go_simp; (try with_reducible rfl))
        (try simp only [List.getElem_toArray, List.getElem_cons_succ, List.getElem_cons_zero, Act.put, List.setIfInBounds_toArray, List.set_cons_zero, List.set_cons_succ])
        apply wpAnyH_take (i := 6) rfl (by kernel_rfl) (by kernel_rfl) (by kernel_rfl)
        case hQ => exact fun _ _ _ h => h
        case hS => exact hHeld
        case hy => (refine Or.inl ⟨by rfl, ?_⟩; intro w hSw; go_split_ands; go_simp; (try with_reducible rfl))
        (try simp only [List.getElem_toArray, List.getElem_cons_succ, List.getElem_cons_zero, Act.put, List.setIfInBounds_toArray, List.set_cons_zero, List.set_cons_succ])
        refine wpAnyH_ready (rs := [2]) (by kernel_rfl) (by simp) ?_
        refine AllReadyH.cons rfl (fun K hK => ?_) AllReadyH.nil
        (try simp only [List.getElem_toArray, List.getElem_cons_succ, List.getElem_cons_zero])
        go_simp
        go_at_call 11
        refine (law_win (Below.drew (Below.refl _ _)) (Tab.below (Tab.below HT.out H59.out (Nat.le_refl _)) (Below.drew (Below.refl _ _)) (Nat.le_refl _)) (Av.below H62.out (Below.drew (Below.refl _ _)) (Nat.le_refl _)) (Av.below H63.out (Below.drew (Below.refl _ _)) (Nat.le_refl _)) JB1.out).mono ?_
        rintro e w1 ⟨rfl, c1⟩
        refine hK.out _ _ (hcc _ c1) (fun hHeld => ?_)
        clear hK K
        (try simp only [List.getElem_toArray, List.getElem_cons_succ, List.getElem_cons_zero, Act.put, List.setIfInBounds_toArray, List.set_cons_zero, List.set_cons_succ])
        refine wpAnyH_ready (rs := [5]) (by kernel_rfl) (by simp) ?_
        refine AllReadyH.cons rfl (fun K hK => ?_) AllReadyH.nil
        (try simp only [List.getElem_toArray, List.getElem_cons_succ, List.getElem_cons_zero])
        go_simp
        go_at_call 25
        refine (law_meet c1 (Av.below H62.out c1 (Nat.le_refl _)) (Av.below H63.out c1 (Nat.le_refl _))).mono ?_
        rintro e w2 ⟨⟨z2, m2, rfl, hz2, hm2⟩, c2, -⟩
        refine hK.out _ _ (hcc _ c2) (fun hHeld => ?_)
        clear hK K
        (try simp only [List.getElem_toArray, List.getElem_cons_succ, List.getElem_cons_zero, Act.put, List.setIfInBounds_toArray, List.set_cons_zero, List.set_cons_succ])
        refine wpAnyH_ready (rs := [7]) (by kernel_rfl) (by simp) ?_
        refine AllReadyH.cons rfl (fun K hK => ?_) AllReadyH.nil
        (try simp only [List.getElem_toArray, List.getElem_cons_succ, List.getElem_cons_zero])
        go_simp
        go_at_call 13
        refine (law_csam c2 hz2 (Av.below H62.out c2 (Nat.le_refl _)) (ord_meet HKa.out HKb.out hm2 JB1.out)).mono ?_
        rintro e w3 ⟨rfl, c3⟩
        refine hK.out _ _ (hcc _ c3) (fun hHeld => ?_)
        clear hK K
        (try simp only [List.getElem_toArray, List.getElem_cons_succ, List.getElem_cons_zero, Act.put, List.setIfInBounds_toArray, List.set_cons_zero, List.set_cons_succ])
        apply wpAnyH_take (i := 8) rfl (by kernel_rfl) (by kernel_rfl) (by kernel_rfl)
        case hQ => exact fun _ _ _ h => h
        case hS => exact hHeld
        case hy => (refine Or.inl ⟨by rfl, ?_⟩; intro w hSw; go_split_ands; go_simp; (try with_reducible rfl))
        (try simp only [List.getElem_toArray, List.getElem_cons_succ, List.getElem_cons_zero, Act.put, List.setIfInBounds_toArray, List.set_cons_zero, List.set_cons_succ])
        apply wpAnyH_take (i := 9) rfl (by kernel_rfl) (by kernel_rfl) (by kernel_rfl)
        case hQ => exact fun _ _ _ h => h
        case hS => exact hHeld
        case hy => (refine Or.inl ⟨by rfl, ?_⟩; intro w hSw; go_split_ands; go_simp; (try with_reducible rfl))
        (try simp only [List.getElem_toArray, List.getElem_cons_succ, List.getElem_cons_zero, Act.put, List.setIfInBounds_toArray, List.set_cons_zero, List.set_cons_succ])
        apply wpAnyH_take (i := 10) rfl (by kernel_rfl) (by kernel_rfl) (by kernel_rfl)
        case hQ => exact fun _ _ _ h => h
        case hS => exact hHeld
        case hy => (refine Or.inl ⟨by rfl, ?_⟩; intro w hSw; go_split_ands; go_simp; (try with_reducible rfl))
        (try simp only [List.getElem_toArray, List.getElem_cons_succ, List.getElem_cons_zero, Act.put, List.setIfInBounds_toArray, List.set_cons_zero, List.set_cons_succ])
        apply wpAnyH_take (i := 11) rfl (by kernel_rfl) (by kernel_rfl) (by kernel_rfl)
        case hQ => exact fun _ _ _ h => h
        case hS => exact hHeld
        case hy => (refine Or.inl ⟨by rfl, ?_⟩; intro w hSw; go_split_ands; go_simp; (try with_reducible rfl))
        (try simp only [List.getElem_toArray, List.getElem_cons_succ, List.getElem_cons_zero, Act.put, List.setIfInBounds_toArray, List.set_cons_zero, List.set_cons_succ])
        refine wpAnyH_ready (rs := [12]) (by kernel_rfl) (by simp) ?_
        refine AllReadyH.cons rfl (fun K hK => ?_) AllReadyH.nil
        (try simp only [List.getElem_toArray, List.getElem_cons_succ, List.getElem_cons_zero])
        go_simp
        go_at_call 11
        refine (law_win c3 (Tab.below (Tab.below HT.out H59.out (Nat.le_refl _)) c3 (Nat.le_refl _)) (Av.below H69.out c3 (Nat.le_refl _)) (Av.below H62.out c3 (Nat.le_refl _)) (ord_low HKa.out HKd.out HM.out).1).mono ?_
        rintro e w4 ⟨rfl, c4⟩
        refine hK.out _ _ (hcc _ c4) (fun hHeld => ?_)
        clear hK K
        (try simp only [List.getElem_toArray, List.getElem_cons_succ, List.getElem_cons_zero, Act.put, List.setIfInBounds_toArray, List.set_cons_zero, List.set_cons_succ])
        apply wpAnyH_take (i := 13) rfl (by kernel_rfl) (by kernel_rfl) (by kernel_rfl)
        case hQ => exact fun _ _ _ h => h
        case hS => exact hHeld
        case hy => (refine Or.inl ⟨by rfl, ?_⟩; intro w hSw; go_split_ands; go_simp; (try with_reducible rfl))
        (try simp only [List.getElem_toArray, List.getElem_cons_succ, List.getElem_cons_zero, Act.put, List.setIfInBounds_toArray, List.set_cons_zero, List.set_cons_succ])
        apply wpAnyH_take (i := 14) rfl (by kernel_rfl) (by kernel_rfl) (by kernel_rfl)
        case hQ => exact fun _ _ _ h => h
        case hS => exact hHeld
        case hy => (refine Or.inl ⟨by rfl, ?_⟩; intro w hSw; go_split_ands; go_simp; (try with_reducible rfl))
        (try simp only [List.getElem_toArray, List.getElem_cons_succ, List.getElem_cons_zero, Act.put, List.setIfInBounds_toArray, List.set_cons_zero, List.set_cons_succ])
        apply wpAnyH_take (i := 15) rfl (by kernel_rfl) (by kernel_rfl) (by kernel_rfl)
        case hQ => exact fun _ _ _ h => h
        case hS => exact hHeld
        case hy => (refine Or.inl ⟨by rfl, ?_⟩; intro w hSw; go_split_ands; go_simp; (try with_reducible rfl))
        (try simp only [List.getElem_toArray, List.getElem_cons_succ, List.getElem_cons_zero, Act.put, List.setIfInBounds_toArray, List.set_cons_zero, List.set_cons_succ])
        apply wpAnyH_take (i := 16) rfl (by kernel_rfl) (by kernel_rfl) (by kernel_rfl)
        case hQ => exact fun _ _ _ h => h
        case hS => exact hHeld
        case hy => (refine Or.inl ⟨by rfl, ?_⟩; intro w hSw; go_split_ands; go_simp; (try with_reducible rfl))
        (try simp only [List.getElem_toArray, List.getElem_cons_succ, List.getElem_cons_zero, Act.put, List.setIfInBounds_toArray, List.set_cons_zero, List.set_cons_succ])
        refine wpAnyH_ready (rs := [17]) (by kernel_rfl) (by simp) ?_
        refine AllReadyH.cons rfl (fun K hK => ?_) AllReadyH.nil
        (try simp only [List.getElem_toArray, List.getElem_cons_succ, List.getElem_cons_zero])
        go_simp
        go_at_call 11
        refine (law_win c4 (Tab.below (Tab.below HT.out H59.out (Nat.le_refl _)) c4 (Nat.le_refl _)) (Av.below H69.out c4 (Nat.le_refl _)) (Av.below H67.out c4 (Nat.le_refl _)) (ord_low HKa.out HKd.out HM.out).2).mono ?_
        rintro e w5 ⟨rfl, c5⟩
        refine hK.out _ _ (hcc _ c5) (fun hHeld => ?_)
        clear hK K
        (try simp only [List.getElem_toArray, List.getElem_cons_succ, List.getElem_cons_zero, Act.put, List.setIfInBounds_toArray, List.set_cons_zero, List.set_cons_succ])
        apply wpAnyH_take (i := 18) rfl (by kernel_rfl) (by kernel_rfl) (by kernel_rfl)
        case hQ => exact fun _ _ _ h => h
        case hS => exact hHeld
        case hy => (refine Or.inl ⟨by rfl, ?_⟩; intro w hSw; go_split_ands; go_simp; (try with_reducible rfl))
        (try simp only [List.getElem_toArray, List.getElem_cons_succ, List.getElem_cons_zero, Act.put, List.setIfInBounds_toArray, List.set_cons_zero, List.set_cons_succ])
        apply wpAnyH_take (i := 19) rfl (by kernel_rfl) (by kernel_rfl) (by kernel_rfl)
        case hQ => exact fun _ _ _ h => h
        case hS => exact hHeld
        case hy => (refine Or.inl ⟨by rfl, ?_⟩; intro w hSw; go_split_ands; go_simp; (try with_reducible rfl))
        (try simp only [List.getElem_toArray, List.getElem_cons_succ, List.getElem_cons_zero, Act.put, List.setIfInBounds_toArray, List.set_cons_zero, List.set_cons_succ])
        refine wpAnyH_ready (rs := [20]) (by kernel_rfl) (by simp) ?_
        refine AllReadyH.cons rfl (fun K hK => ?_) AllReadyH.nil
        (try simp only [List.getElem_toArray, List.getElem_cons_succ, List.getElem_cons_zero])
        go_simp
        go_at_call 9
        refine (law_cawk c5 (Tab.below (Tab.below HT.out H59.out (Nat.le_refl _)) c5 (Nat.le_refl _))).mono ?_
        rintro e w6 ⟨rfl, c6⟩
        refine hK.out _ _ (hcc _ c6) (fun hHeld => ?_)
        clear hK K
        (try simp only [List.getElem_toArray, List.getElem_cons_succ, List.getElem_cons_zero, Act.put, List.setIfInBounds_toArray, List.set_cons_zero, List.set_cons_succ])
        apply wpAnyH_take (i := 21) rfl (by kernel_rfl) (by kernel_rfl) (by kernel_rfl)
        case hQ => exact fun _ _ _ h => h
        case hS => exact hHeld
        case hy => (refine Or.inl ⟨by rfl, ?_⟩; intro w hSw; go_split_ands; go_simp; (try with_reducible rfl))
        (try simp only [List.getElem_toArray, List.getElem_cons_succ, List.getElem_cons_zero, Act.put, List.setIfInBounds_toArray, List.set_cons_zero, List.set_cons_succ])
        apply wpAnyH_take (i := 22) rfl (by kernel_rfl) (by kernel_rfl) (by kernel_rfl)
        case hQ => exact fun _ _ _ h => h
        case hS => exact hHeld
        case hy => (refine Or.inl ⟨by rfl, ?_⟩; intro w hSw; go_split_ands; go_simp; (try with_reducible rfl))
        (try simp only [List.getElem_toArray, List.getElem_cons_succ, List.getElem_cons_zero, Act.put, List.setIfInBounds_toArray, List.set_cons_zero, List.set_cons_succ])
        refine wpAnyH_done (by kernel_rfl) ?_ _
        have HG := Lib.hid (Below.trans H59.out (Below.mono c6 (Below.size H59.out)))
        go_wp2
        go_ret
        exact ⟨rfl, HG.out⟩
      · skip
        obtain ⟨ka0, ka1, ka2, ka3, ka4, ka5, ka6, ka7⟩ := ARow.cells (Whole.below H38.out b14 (Whole.lt H38.out))
        obtain ⟨kb0, kb1, kb2, kb3, kb4, kb5, kb6, kb7⟩ := ARow.cells (Whole.below H39.out b14 (Whole.lt H39.out))
        have hcl := law_csam b14 (Av.below H40.out b14 (Nat.le_refl _)) (Av.below H41.out b14 (Nat.le_refl _)) (JB5.out (by simp) (by simp))
        go_wp2_with fail
        refine hcl.mono ?_
        rintro e y15 ⟨rfl, b15⟩
        clear hcl ka0 ka1 ka2 ka3 ka4 ka5 ka6 ka7 kb0 kb1 kb2 kb3 kb4 kb5 kb6 kb7
        have H70 : Hid (Below w.heap.size w y15) := Lib.hid (Below.trans H37.out (Below.mono b15 (Below.size H37.out)))
        have H71 : Hid (ARow y15 u1.heap.size a.none a.zones a.lines a.days a.lo a.hi (.slice Aa a.daily.length ca) a.holder) := Lib.hid (Whole.below H38.out b15 (Whole.lt H38.out))
        have H72 : Hid (ARow y15 (u1.heap.size + 1) b.none b.zones b.lines b.days b.lo b.hi (.slice Ab b.daily.length cb) b.holder) := Lib.hid (Whole.below H39.out b15 (Whole.lt H39.out))
        have H73 : Hid (Av y15 (fun k => k ≠ g1) (.agg (arow a.none a.zones a.lines a.days a.lo a.hi (.slice Aa a.daily.length ca) a.holder)) a) := Lib.hid (Av.below H40.out b15 (Nat.le_refl _))
        have H74 : Hid (Av y15 (fun k => k ≠ g1) (.agg (arow b.none b.zones b.lines b.days b.lo b.hi (.slice Ab b.daily.length cb) b.holder)) b) := Lib.hid (Av.below H41.out b15 (Nat.le_refl _))
        have H75 : Hid (ARow y15 u3.heap.size c.none c.zones c.lines c.days c.lo c.hi (.slice Ac c.daily.length cc) c.holder) := Lib.hid (Whole.below H42.out b15 (Whole.lt H42.out))
        have H76 : Hid (Av y15 (fun _ => True) (.agg (arow c.none c.zones c.lines c.days c.lo c.hi (.slice Ac c.daily.length cc) c.holder)) c) := Lib.hid (Av.below H43.out b15 (Nat.le_refl _))
        have H77 : Hid (ARow y15 u4.heap.size d.none d.zones d.lines d.days d.lo d.hi (.slice Ad d.daily.length cd) d.holder) := Lib.hid (Whole.below H44.out b15 (Whole.lt H44.out))
        have H78 : Hid (Av y15 (fun _ => True) (.agg (arow d.none d.zones d.lines d.days d.lo d.hi (.slice Ad d.daily.length cd) d.holder)) d) := Lib.hid (Av.below H45.out b15 (Nat.le_refl _))
        have H79 : Hid (ARow y15 u5.heap.size m.none m.zones m.lines m.days m.lo m.hi (.slice Am m.daily.length cm) m.holder) := Lib.hid (Whole.below H46.out b15 (Whole.lt H46.out))
        have H80 : Hid (Av y15 (fun _ => True) (.agg (arow m.none m.zones m.lines m.days m.lo m.hi (.slice Am m.daily.length cm) m.holder)) m) := Lib.hid (Av.below H47.out b15 (Nat.le_refl _))
        clear H37 H38 H39 H40 H41 H42 H43 H44 H45 H46 H47
        go_upto_region 8 with fail
        have hcc : ∀ W, Below y15.heap.size y15 W → W.cell? ⟨u1.heap.size, 0, none⟩ = some (.bool a.none) ∧ W.cell? ⟨u1.heap.size, 1, none⟩ = some (.int .u64 (a.zones : Int)) ∧ W.cell? ⟨u1.heap.size, 2, none⟩ = some (.int .u64 (a.lines : Int)) ∧ W.cell? ⟨u1.heap.size, 3, none⟩ = some (.int .u64 (a.days : Int)) ∧ W.cell? ⟨u1.heap.size, 4, none⟩ = some (.int .i64 a.lo) ∧ W.cell? ⟨u1.heap.size, 5, none⟩ = some (.int .i64 a.hi) ∧ W.cell? ⟨u1.heap.size, 6, none⟩ = some (.slice Aa a.daily.length ca) ∧ W.cell? ⟨u1.heap.size, 7, none⟩ = some (.string (sof a.holder)) ∧ W.cell? ⟨(u1.heap.size + 1), 0, none⟩ = some (.bool b.none) ∧ W.cell? ⟨(u1.heap.size + 1), 1, none⟩ = some (.int .u64 (b.zones : Int)) ∧ W.cell? ⟨(u1.heap.size + 1), 2, none⟩ = some (.int .u64 (b.lines : Int)) ∧ W.cell? ⟨(u1.heap.size + 1), 3, none⟩ = some (.int .u64 (b.days : Int)) ∧ W.cell? ⟨(u1.heap.size + 1), 4, none⟩ = some (.int .i64 b.lo) ∧ W.cell? ⟨(u1.heap.size + 1), 5, none⟩ = some (.int .i64 b.hi) ∧ W.cell? ⟨(u1.heap.size + 1), 6, none⟩ = some (.slice Ab b.daily.length cb) ∧ W.cell? ⟨(u1.heap.size + 1), 7, none⟩ = some (.string (sof b.holder)) ∧ W.cell? ⟨u4.heap.size, 0, none⟩ = some (.bool d.none) ∧ W.cell? ⟨u4.heap.size, 1, none⟩ = some (.int .u64 (d.zones : Int)) ∧ W.cell? ⟨u4.heap.size, 2, none⟩ = some (.int .u64 (d.lines : Int)) ∧ W.cell? ⟨u4.heap.size, 3, none⟩ = some (.int .u64 (d.days : Int)) ∧ W.cell? ⟨u4.heap.size, 4, none⟩ = some (.int .i64 d.lo) ∧ W.cell? ⟨u4.heap.size, 5, none⟩ = some (.int .i64 d.hi) ∧ W.cell? ⟨u4.heap.size, 6, none⟩ = some (.slice Ad d.daily.length cd) ∧ W.cell? ⟨u4.heap.size, 7, none⟩ = some (.string (sof d.holder)) ∧ W.cell? ⟨u5.heap.size, 0, none⟩ = some (.bool m.none) ∧ W.cell? ⟨u5.heap.size, 1, none⟩ = some (.int .u64 (m.zones : Int)) ∧ W.cell? ⟨u5.heap.size, 2, none⟩ = some (.int .u64 (m.lines : Int)) ∧ W.cell? ⟨u5.heap.size, 3, none⟩ = some (.int .u64 (m.days : Int)) ∧ W.cell? ⟨u5.heap.size, 4, none⟩ = some (.int .i64 m.lo) ∧ W.cell? ⟨u5.heap.size, 5, none⟩ = some (.int .i64 m.hi) ∧ W.cell? ⟨u5.heap.size, 6, none⟩ = some (.slice Am m.daily.length cm) ∧ W.cell? ⟨u5.heap.size, 7, none⟩ = some (.string (sof m.holder)) := fun W hb => by
          obtain ⟨x0_0, x0_1, x0_2, x0_3, x0_4, x0_5, x0_6, x0_7⟩ := ARow.cells (Whole.below H71.out hb (Whole.lt H71.out))
          obtain ⟨x1_0, x1_1, x1_2, x1_3, x1_4, x1_5, x1_6, x1_7⟩ := ARow.cells (Whole.below H72.out hb (Whole.lt H72.out))
          obtain ⟨x2_0, x2_1, x2_2, x2_3, x2_4, x2_5, x2_6, x2_7⟩ := ARow.cells (Whole.below H77.out hb (Whole.lt H77.out))
          obtain ⟨x3_0, x3_1, x3_2, x3_3, x3_4, x3_5, x3_6, x3_7⟩ := ARow.cells (Whole.below H79.out hb (Whole.lt H79.out))
          exact ⟨x0_0, x0_1, x0_2, x0_3, x0_4, x0_5, x0_6, x0_7, x1_0, x1_1, x1_2, x1_3, x1_4, x1_5, x1_6, x1_7, x2_0, x2_1, x2_2, x2_3, x2_4, x2_5, x2_6, x2_7, x3_0, x3_1, x3_2, x3_3, x3_4, x3_5, x3_6, x3_7⟩
        refine wp_region_held_drew (S := fun W => W.cell? ⟨u1.heap.size, 0, none⟩ = some (.bool a.none) ∧ W.cell? ⟨u1.heap.size, 1, none⟩ = some (.int .u64 (a.zones : Int)) ∧ W.cell? ⟨u1.heap.size, 2, none⟩ = some (.int .u64 (a.lines : Int)) ∧ W.cell? ⟨u1.heap.size, 3, none⟩ = some (.int .u64 (a.days : Int)) ∧ W.cell? ⟨u1.heap.size, 4, none⟩ = some (.int .i64 a.lo) ∧ W.cell? ⟨u1.heap.size, 5, none⟩ = some (.int .i64 a.hi) ∧ W.cell? ⟨u1.heap.size, 6, none⟩ = some (.slice Aa a.daily.length ca) ∧ W.cell? ⟨u1.heap.size, 7, none⟩ = some (.string (sof a.holder)) ∧ W.cell? ⟨(u1.heap.size + 1), 0, none⟩ = some (.bool b.none) ∧ W.cell? ⟨(u1.heap.size + 1), 1, none⟩ = some (.int .u64 (b.zones : Int)) ∧ W.cell? ⟨(u1.heap.size + 1), 2, none⟩ = some (.int .u64 (b.lines : Int)) ∧ W.cell? ⟨(u1.heap.size + 1), 3, none⟩ = some (.int .u64 (b.days : Int)) ∧ W.cell? ⟨(u1.heap.size + 1), 4, none⟩ = some (.int .i64 b.lo) ∧ W.cell? ⟨(u1.heap.size + 1), 5, none⟩ = some (.int .i64 b.hi) ∧ W.cell? ⟨(u1.heap.size + 1), 6, none⟩ = some (.slice Ab b.daily.length cb) ∧ W.cell? ⟨(u1.heap.size + 1), 7, none⟩ = some (.string (sof b.holder)) ∧ W.cell? ⟨u4.heap.size, 0, none⟩ = some (.bool d.none) ∧ W.cell? ⟨u4.heap.size, 1, none⟩ = some (.int .u64 (d.zones : Int)) ∧ W.cell? ⟨u4.heap.size, 2, none⟩ = some (.int .u64 (d.lines : Int)) ∧ W.cell? ⟨u4.heap.size, 3, none⟩ = some (.int .u64 (d.days : Int)) ∧ W.cell? ⟨u4.heap.size, 4, none⟩ = some (.int .i64 d.lo) ∧ W.cell? ⟨u4.heap.size, 5, none⟩ = some (.int .i64 d.hi) ∧ W.cell? ⟨u4.heap.size, 6, none⟩ = some (.slice Ad d.daily.length cd) ∧ W.cell? ⟨u4.heap.size, 7, none⟩ = some (.string (sof d.holder)) ∧ W.cell? ⟨u5.heap.size, 0, none⟩ = some (.bool m.none) ∧ W.cell? ⟨u5.heap.size, 1, none⟩ = some (.int .u64 (m.zones : Int)) ∧ W.cell? ⟨u5.heap.size, 2, none⟩ = some (.int .u64 (m.lines : Int)) ∧ W.cell? ⟨u5.heap.size, 3, none⟩ = some (.int .u64 (m.days : Int)) ∧ W.cell? ⟨u5.heap.size, 4, none⟩ = some (.int .i64 m.lo) ∧ W.cell? ⟨u5.heap.size, 5, none⟩ = some (.int .i64 m.hi) ∧ W.cell? ⟨u5.heap.size, 6, none⟩ = some (.slice Am m.daily.length cm) ∧ W.cell? ⟨u5.heap.size, 7, none⟩ = some (.string (sof m.holder))) (by kernel_rfl) (hcc _ (Below.drew (Below.refl _ _))) (fun hHeld => ?_)
        apply wpAnyH_take (i := 0) rfl (by kernel_rfl) (by kernel_rfl) (by kernel_rfl)
        case hQ => exact fun _ _ _ h => h
        case hS => exact hHeld
        case hy => (refine Or.inl ⟨by rfl, ?_⟩; intro w hSw; go_split_ands; go_simp; (try with_reducible rfl))
        (try simp only [List.getElem_toArray, List.getElem_cons_zero, Act.put, List.setIfInBounds_toArray, List.set_cons_zero, List.set_cons_succ])
        apply wpAnyH_take (i := 1) rfl (by kernel_rfl) (by kernel_rfl) (by kernel_rfl)
        case hQ => exact fun _ _ _ h => h
        case hS => exact hHeld
        case hy => (refine Or.inl ⟨by rfl, ?_⟩; intro w hSw; go_split_ands; go_simp; (try with_reducible rfl))
        (try simp only [List.getElem_toArray, List.getElem_cons_succ, List.getElem_cons_zero, Act.put, List.setIfInBounds_toArray, List.set_cons_zero, List.set_cons_succ])
        apply wpAnyH_take (i := 3) rfl (by kernel_rfl) (by kernel_rfl) (by kernel_rfl)
        case hQ => exact fun _ _ _ h => h
        case hS => exact hHeld
        case hy => (refine Or.inl ⟨by rfl, ?_⟩; intro w hSw; go_split_ands; go_simp; (try with_reducible rfl))
        (try simp only [List.getElem_toArray, List.getElem_cons_succ, List.getElem_cons_zero, Act.put, List.setIfInBounds_toArray, List.set_cons_zero, List.set_cons_succ])
        apply wpAnyH_take (i := 4) rfl (by kernel_rfl) (by kernel_rfl) (by kernel_rfl)
        case hQ => exact fun _ _ _ h => h
        case hS => exact hHeld
        case hy => (refine Or.inl ⟨by rfl, ?_⟩; intro w hSw; go_split_ands; go_simp; (try with_reducible rfl))
        (try simp only [List.getElem_toArray, List.getElem_cons_succ, List.getElem_cons_zero, Act.put, List.setIfInBounds_toArray, List.set_cons_zero, List.set_cons_succ])
        apply wpAnyH_take (i := 6) rfl (by kernel_rfl) (by kernel_rfl) (by kernel_rfl)
        case hQ => exact fun _ _ _ h => h
        case hS => exact hHeld
        case hy => (refine Or.inl ⟨by rfl, ?_⟩; intro w hSw; go_split_ands; go_simp; (try with_reducible rfl))
        (try simp only [List.getElem_toArray, List.getElem_cons_succ, List.getElem_cons_zero, Act.put, List.setIfInBounds_toArray, List.set_cons_zero, List.set_cons_succ])
        refine wpAnyH_ready (rs := [2]) (by kernel_rfl) (by simp) ?_
        refine AllReadyH.cons rfl (fun K hK => ?_) AllReadyH.nil
        (try simp only [List.getElem_toArray, List.getElem_cons_succ, List.getElem_cons_zero])
        go_simp
        go_at_call 11
        refine (law_win (Below.drew (Below.refl _ _)) (Tab.below (Tab.below HT.out H70.out (Nat.le_refl _)) (Below.drew (Below.refl _ _)) (Nat.le_refl _)) (Av.below H73.out (Below.drew (Below.refl _ _)) (Nat.le_refl _)) (Av.below H74.out (Below.drew (Below.refl _ _)) (Nat.le_refl _)) JB1.out).mono ?_
        rintro e w1 ⟨rfl, c1⟩
        refine hK.out _ _ (hcc _ c1) (fun hHeld => ?_)
        clear hK K
        (try simp only [List.getElem_toArray, List.getElem_cons_succ, List.getElem_cons_zero, Act.put, List.setIfInBounds_toArray, List.set_cons_zero, List.set_cons_succ])
        refine wpAnyH_ready (rs := [5]) (by kernel_rfl) (by simp) ?_
        refine AllReadyH.cons rfl (fun K hK => ?_) AllReadyH.nil
        (try simp only [List.getElem_toArray, List.getElem_cons_succ, List.getElem_cons_zero])
        go_simp
        go_at_call 25
        refine (law_meet c1 (Av.below H73.out c1 (Nat.le_refl _)) (Av.below H74.out c1 (Nat.le_refl _))).mono ?_
        rintro e w2 ⟨⟨z2, m2, rfl, hz2, hm2⟩, c2, -⟩
        refine hK.out _ _ (hcc _ c2) (fun hHeld => ?_)
        clear hK K
        (try simp only [List.getElem_toArray, List.getElem_cons_succ, List.getElem_cons_zero, Act.put, List.setIfInBounds_toArray, List.set_cons_zero, List.set_cons_succ])
        refine wpAnyH_ready (rs := [7]) (by kernel_rfl) (by simp) ?_
        refine AllReadyH.cons rfl (fun K hK => ?_) AllReadyH.nil
        (try simp only [List.getElem_toArray, List.getElem_cons_succ, List.getElem_cons_zero])
        go_simp
        go_at_call 13
        refine (law_csam c2 hz2 (Av.below H73.out c2 (Nat.le_refl _)) (ord_meet HKa.out HKb.out hm2 JB1.out)).mono ?_
        rintro e w3 ⟨rfl, c3⟩
        refine hK.out _ _ (hcc _ c3) (fun hHeld => ?_)
        clear hK K
        (try simp only [List.getElem_toArray, List.getElem_cons_succ, List.getElem_cons_zero, Act.put, List.setIfInBounds_toArray, List.set_cons_zero, List.set_cons_succ])
        apply wpAnyH_take (i := 8) rfl (by kernel_rfl) (by kernel_rfl) (by kernel_rfl)
        case hQ => exact fun _ _ _ h => h
        case hS => exact hHeld
        case hy => (refine Or.inl ⟨by rfl, ?_⟩; intro w hSw; go_split_ands; go_simp; (try with_reducible rfl))
        (try simp only [List.getElem_toArray, List.getElem_cons_succ, List.getElem_cons_zero, Act.put, List.setIfInBounds_toArray, List.set_cons_zero, List.set_cons_succ])
        apply wpAnyH_take (i := 9) rfl (by kernel_rfl) (by kernel_rfl) (by kernel_rfl)
        case hQ => exact fun _ _ _ h => h
        case hS => exact hHeld
        case hy => (refine Or.inl ⟨by rfl, ?_⟩; intro w hSw; go_split_ands; go_simp; (try with_reducible rfl))
        (try simp only [List.getElem_toArray, List.getElem_cons_succ, List.getElem_cons_zero, Act.put, List.setIfInBounds_toArray, List.set_cons_zero, List.set_cons_succ])
        apply wpAnyH_take (i := 10) rfl (by kernel_rfl) (by kernel_rfl) (by kernel_rfl)
        case hQ => exact fun _ _ _ h => h
        case hS => exact hHeld
        case hy => (refine Or.inl ⟨by rfl, ?_⟩; intro w hSw; go_split_ands; go_simp; (try with_reducible rfl))
        (try simp only [List.getElem_toArray, List.getElem_cons_succ, List.getElem_cons_zero, Act.put, List.setIfInBounds_toArray, List.set_cons_zero, List.set_cons_succ])
        apply wpAnyH_take (i := 11) rfl (by kernel_rfl) (by kernel_rfl) (by kernel_rfl)
        case hQ => exact fun _ _ _ h => h
        case hS => exact hHeld
        case hy => (refine Or.inl ⟨by rfl, ?_⟩; intro w hSw; go_split_ands; go_simp; (try with_reducible rfl))
        (try simp only [List.getElem_toArray, List.getElem_cons_succ, List.getElem_cons_zero, Act.put, List.setIfInBounds_toArray, List.set_cons_zero, List.set_cons_succ])
        refine wpAnyH_ready (rs := [12]) (by kernel_rfl) (by simp) ?_
        refine AllReadyH.cons rfl (fun K hK => ?_) AllReadyH.nil
        (try simp only [List.getElem_toArray, List.getElem_cons_succ, List.getElem_cons_zero])
        go_simp
        go_at_call 11
        refine (law_win c3 (Tab.below (Tab.below HT.out H70.out (Nat.le_refl _)) c3 (Nat.le_refl _)) (Av.below H80.out c3 (Nat.le_refl _)) (Av.below H73.out c3 (Nat.le_refl _)) (ord_low HKa.out HKd.out HM.out).1).mono ?_
        rintro e w4 ⟨rfl, c4⟩
        refine hK.out _ _ (hcc _ c4) (fun hHeld => ?_)
        clear hK K
        (try simp only [List.getElem_toArray, List.getElem_cons_succ, List.getElem_cons_zero, Act.put, List.setIfInBounds_toArray, List.set_cons_zero, List.set_cons_succ])
        apply wpAnyH_take (i := 13) rfl (by kernel_rfl) (by kernel_rfl) (by kernel_rfl)
        case hQ => exact fun _ _ _ h => h
        case hS => exact hHeld
        case hy => (refine Or.inl ⟨by rfl, ?_⟩; intro w hSw; go_split_ands; go_simp; (try with_reducible rfl))
        (try simp only [List.getElem_toArray, List.getElem_cons_succ, List.getElem_cons_zero, Act.put, List.setIfInBounds_toArray, List.set_cons_zero, List.set_cons_succ])
        apply wpAnyH_take (i := 14) rfl (by kernel_rfl) (by kernel_rfl) (by kernel_rfl)
        case hQ => exact fun _ _ _ h => h
        case hS => exact hHeld
        case hy => (refine Or.inl ⟨by rfl, ?_⟩; intro w hSw; go_split_ands; go_simp; (try with_reducible rfl))
        (try simp only [List.getElem_toArray, List.getElem_cons_succ, List.getElem_cons_zero, Act.put, List.setIfInBounds_toArray, List.set_cons_zero, List.set_cons_succ])
        apply wpAnyH_take (i := 15) rfl (by kernel_rfl) (by kernel_rfl) (by kernel_rfl)
        case hQ => exact fun _ _ _ h => h
        case hS => exact hHeld
        case hy => (refine Or.inl ⟨by rfl, ?_⟩; intro w hSw; go_split_ands; go_simp; (try with_reducible rfl))
        (try simp only [List.getElem_toArray, List.getElem_cons_succ, List.getElem_cons_zero, Act.put, List.setIfInBounds_toArray, List.set_cons_zero, List.set_cons_succ])
        apply wpAnyH_take (i := 16) rfl (by kernel_rfl) (by kernel_rfl) (by kernel_rfl)
        case hQ => exact fun _ _ _ h => h
        case hS => exact hHeld
        case hy => (refine Or.inl ⟨by rfl, ?_⟩; intro w hSw; go_split_ands; go_simp; (try with_reducible rfl))
        (try simp only [List.getElem_toArray, List.getElem_cons_succ, List.getElem_cons_zero, Act.put, List.setIfInBounds_toArray, List.set_cons_zero, List.set_cons_succ])
        refine wpAnyH_ready (rs := [17]) (by kernel_rfl) (by simp) ?_
        refine AllReadyH.cons rfl (fun K hK => ?_) AllReadyH.nil
        (try simp only [List.getElem_toArray, List.getElem_cons_succ, List.getElem_cons_zero])
        go_simp
        go_at_call 11
        refine (law_win c4 (Tab.below (Tab.below HT.out H70.out (Nat.le_refl _)) c4 (Nat.le_refl _)) (Av.below H80.out c4 (Nat.le_refl _)) (Av.below H78.out c4 (Nat.le_refl _)) (ord_low HKa.out HKd.out HM.out).2).mono ?_
        rintro e w5 ⟨rfl, c5⟩
        refine hK.out _ _ (hcc _ c5) (fun hHeld => ?_)
        clear hK K
        (try simp only [List.getElem_toArray, List.getElem_cons_succ, List.getElem_cons_zero, Act.put, List.setIfInBounds_toArray, List.set_cons_zero, List.set_cons_succ])
        apply wpAnyH_take (i := 18) rfl (by kernel_rfl) (by kernel_rfl) (by kernel_rfl)
        case hQ => exact fun _ _ _ h => h
        case hS => exact hHeld
        case hy => (refine Or.inl ⟨by rfl, ?_⟩; intro w hSw; go_split_ands; go_simp; (try with_reducible rfl))
        (try simp only [List.getElem_toArray, List.getElem_cons_succ, List.getElem_cons_zero, Act.put, List.setIfInBounds_toArray, List.set_cons_zero, List.set_cons_succ])
        apply wpAnyH_take (i := 19) rfl (by kernel_rfl) (by kernel_rfl) (by kernel_rfl)
        case hQ => exact fun _ _ _ h => h
        case hS => exact hHeld
        case hy => (refine Or.inl ⟨by rfl, ?_⟩; intro w hSw; go_split_ands; go_simp; (try with_reducible rfl))
        (try simp only [List.getElem_toArray, List.getElem_cons_succ, List.getElem_cons_zero, Act.put, List.setIfInBounds_toArray, List.set_cons_zero, List.set_cons_succ])
        refine wpAnyH_ready (rs := [20]) (by kernel_rfl) (by simp) ?_
        refine AllReadyH.cons rfl (fun K hK => ?_) AllReadyH.nil
        (try simp only [List.getElem_toArray, List.getElem_cons_succ, List.getElem_cons_zero])
        go_simp
        go_at_call 9
        refine (law_cawk c5 (Tab.below (Tab.below HT.out H70.out (Nat.le_refl _)) c5 (Nat.le_refl _))).mono ?_
        rintro e w6 ⟨rfl, c6⟩
        refine hK.out _ _ (hcc _ c6) (fun hHeld => ?_)
        clear hK K
        (try simp only [List.getElem_toArray, List.getElem_cons_succ, List.getElem_cons_zero, Act.put, List.setIfInBounds_toArray, List.set_cons_zero, List.set_cons_succ])
        apply wpAnyH_take (i := 21) rfl (by kernel_rfl) (by kernel_rfl) (by kernel_rfl)
        case hQ => exact fun _ _ _ h => h
        case hS => exact hHeld
        case hy => (refine Or.inl ⟨by rfl, ?_⟩; intro w hSw; go_split_ands; go_simp; (try with_reducible rfl))
        (try simp only [List.getElem_toArray, List.getElem_cons_succ, List.getElem_cons_zero, Act.put, List.setIfInBounds_toArray, List.set_cons_zero, List.set_cons_succ])
        apply wpAnyH_take (i := 22) rfl (by kernel_rfl) (by kernel_rfl) (by kernel_rfl)
        case hQ => exact fun _ _ _ h => h
        case hS => exact hHeld
        case hy => (refine Or.inl ⟨by rfl, ?_⟩; intro w hSw; go_split_ands; go_simp; (try with_reducible rfl))
        (try simp only [List.getElem_toArray, List.getElem_cons_succ, List.getElem_cons_zero, Act.put, List.setIfInBounds_toArray, List.set_cons_zero, List.set_cons_succ])
        refine wpAnyH_done (by kernel_rfl) ?_ _
        have HG := Lib.hid (Below.trans H70.out (Below.mono c6 (Below.size H70.out)))
        go_wp2
        go_ret
        exact ⟨rfl, HG.out⟩
    · skip
      obtain ⟨ka0, ka1, ka2, ka3, ka4, ka5, ka6, ka7⟩ := ARow.cells (Whole.below H38.out b11 (Whole.lt H38.out))
      obtain ⟨kc0, kc1, kc2, kc3, kc4, kc5, kc6, kc7⟩ := ARow.cells (Whole.below H42.out b11 (Whole.lt H42.out))
      have hcl := law_win b11 (Tab.below (Tab.below HT.out H37.out (Nat.le_refl _)) b11 (Nat.le_refl _)) (Av.below H40.out b11 (Nat.le_refl _)) (Av.below H43.out b11 (Nat.le_refl _)) (JB3.out (by simp) (by simp))
      go_wp2_with fail
      refine hcl.mono ?_
      rintro e y12 ⟨rfl, b12⟩
      clear hcl ka0 ka1 ka2 ka3 ka4 ka5 ka6 ka7 kc0 kc1 kc2 kc3 kc4 kc5 kc6 kc7
      obtain ⟨ka0, ka1, ka2, ka3, ka4, ka5, ka6, ka7⟩ := ARow.cells (Whole.below H38.out b12 (Whole.lt H38.out))
      obtain ⟨kb0, kb1, kb2, kb3, kb4, kb5, kb6, kb7⟩ := ARow.cells (Whole.below H39.out b12 (Whole.lt H39.out))
      have hcl := law_win b12 (Tab.below (Tab.below HT.out H37.out (Nat.le_refl _)) b12 (Nat.le_refl _)) (Av.below H40.out b12 (Nat.le_refl _)) (Av.below H41.out b12 (Nat.le_refl _)) JB1.out
      go_wp2_with fail
      refine hcl.mono ?_
      rintro e y13 ⟨rfl, b13⟩
      clear hcl ka0 ka1 ka2 ka3 ka4 ka5 ka6 ka7 kb0 kb1 kb2 kb3 kb4 kb5 kb6 kb7
      obtain ⟨kb0, kb1, kb2, kb3, kb4, kb5, kb6, kb7⟩ := ARow.cells (Whole.below H39.out b13 (Whole.lt H39.out))
      obtain ⟨ka0, ka1, ka2, ka3, ka4, ka5, ka6, ka7⟩ := ARow.cells (Whole.below H38.out b13 (Whole.lt H38.out))
      have hcl := law_win b13 (Tab.below (Tab.below HT.out H37.out (Nat.le_refl _)) b13 (Nat.le_refl _)) (Av.below H41.out b13 (Nat.le_refl _)) (Av.below H40.out b13 (Nat.le_refl _)) JB4.out
      go_wp2_with fail
      refine hcl.mono ?_
      rintro e y14 ⟨rfl, b14⟩
      clear hcl kb0 kb1 kb2 kb3 kb4 kb5 kb6 kb7 ka0 ka1 ka2 ka3 ka4 ka5 ka6 ka7
      cases B4
      · skip
        have H81 : Hid (Below w.heap.size w y14) := Lib.hid (Below.trans H37.out (Below.mono b14 (Below.size H37.out)))
        have H82 : Hid (ARow y14 u1.heap.size a.none a.zones a.lines a.days a.lo a.hi (.slice Aa a.daily.length ca) a.holder) := Lib.hid (Whole.below H38.out b14 (Whole.lt H38.out))
        have H83 : Hid (ARow y14 (u1.heap.size + 1) b.none b.zones b.lines b.days b.lo b.hi (.slice Ab b.daily.length cb) b.holder) := Lib.hid (Whole.below H39.out b14 (Whole.lt H39.out))
        have H84 : Hid (Av y14 (fun k => k ≠ g1) (.agg (arow a.none a.zones a.lines a.days a.lo a.hi (.slice Aa a.daily.length ca) a.holder)) a) := Lib.hid (Av.below H40.out b14 (Nat.le_refl _))
        have H85 : Hid (Av y14 (fun k => k ≠ g1) (.agg (arow b.none b.zones b.lines b.days b.lo b.hi (.slice Ab b.daily.length cb) b.holder)) b) := Lib.hid (Av.below H41.out b14 (Nat.le_refl _))
        have H86 : Hid (ARow y14 u3.heap.size c.none c.zones c.lines c.days c.lo c.hi (.slice Ac c.daily.length cc) c.holder) := Lib.hid (Whole.below H42.out b14 (Whole.lt H42.out))
        have H87 : Hid (Av y14 (fun _ => True) (.agg (arow c.none c.zones c.lines c.days c.lo c.hi (.slice Ac c.daily.length cc) c.holder)) c) := Lib.hid (Av.below H43.out b14 (Nat.le_refl _))
        have H88 : Hid (ARow y14 u4.heap.size d.none d.zones d.lines d.days d.lo d.hi (.slice Ad d.daily.length cd) d.holder) := Lib.hid (Whole.below H44.out b14 (Whole.lt H44.out))
        have H89 : Hid (Av y14 (fun _ => True) (.agg (arow d.none d.zones d.lines d.days d.lo d.hi (.slice Ad d.daily.length cd) d.holder)) d) := Lib.hid (Av.below H45.out b14 (Nat.le_refl _))
        have H90 : Hid (ARow y14 u5.heap.size m.none m.zones m.lines m.days m.lo m.hi (.slice Am m.daily.length cm) m.holder) := Lib.hid (Whole.below H46.out b14 (Whole.lt H46.out))
        have H91 : Hid (Av y14 (fun _ => True) (.agg (arow m.none m.zones m.lines m.days m.lo m.hi (.slice Am m.daily.length cm) m.holder)) m) := Lib.hid (Av.below H47.out b14 (Nat.le_refl _))
        clear H37 H38 H39 H40 H41 H42 H43 H44 H45 H46 H47
        go_upto_region 8 with fail
        have hcc : ∀ W, Below y14.heap.size y14 W → W.cell? ⟨u1.heap.size, 0, none⟩ = some (.bool a.none) ∧ W.cell? ⟨u1.heap.size, 1, none⟩ = some (.int .u64 (a.zones : Int)) ∧ W.cell? ⟨u1.heap.size, 2, none⟩ = some (.int .u64 (a.lines : Int)) ∧ W.cell? ⟨u1.heap.size, 3, none⟩ = some (.int .u64 (a.days : Int)) ∧ W.cell? ⟨u1.heap.size, 4, none⟩ = some (.int .i64 a.lo) ∧ W.cell? ⟨u1.heap.size, 5, none⟩ = some (.int .i64 a.hi) ∧ W.cell? ⟨u1.heap.size, 6, none⟩ = some (.slice Aa a.daily.length ca) ∧ W.cell? ⟨u1.heap.size, 7, none⟩ = some (.string (sof a.holder)) ∧ W.cell? ⟨(u1.heap.size + 1), 0, none⟩ = some (.bool b.none) ∧ W.cell? ⟨(u1.heap.size + 1), 1, none⟩ = some (.int .u64 (b.zones : Int)) ∧ W.cell? ⟨(u1.heap.size + 1), 2, none⟩ = some (.int .u64 (b.lines : Int)) ∧ W.cell? ⟨(u1.heap.size + 1), 3, none⟩ = some (.int .u64 (b.days : Int)) ∧ W.cell? ⟨(u1.heap.size + 1), 4, none⟩ = some (.int .i64 b.lo) ∧ W.cell? ⟨(u1.heap.size + 1), 5, none⟩ = some (.int .i64 b.hi) ∧ W.cell? ⟨(u1.heap.size + 1), 6, none⟩ = some (.slice Ab b.daily.length cb) ∧ W.cell? ⟨(u1.heap.size + 1), 7, none⟩ = some (.string (sof b.holder)) ∧ W.cell? ⟨u4.heap.size, 0, none⟩ = some (.bool d.none) ∧ W.cell? ⟨u4.heap.size, 1, none⟩ = some (.int .u64 (d.zones : Int)) ∧ W.cell? ⟨u4.heap.size, 2, none⟩ = some (.int .u64 (d.lines : Int)) ∧ W.cell? ⟨u4.heap.size, 3, none⟩ = some (.int .u64 (d.days : Int)) ∧ W.cell? ⟨u4.heap.size, 4, none⟩ = some (.int .i64 d.lo) ∧ W.cell? ⟨u4.heap.size, 5, none⟩ = some (.int .i64 d.hi) ∧ W.cell? ⟨u4.heap.size, 6, none⟩ = some (.slice Ad d.daily.length cd) ∧ W.cell? ⟨u4.heap.size, 7, none⟩ = some (.string (sof d.holder)) ∧ W.cell? ⟨u5.heap.size, 0, none⟩ = some (.bool m.none) ∧ W.cell? ⟨u5.heap.size, 1, none⟩ = some (.int .u64 (m.zones : Int)) ∧ W.cell? ⟨u5.heap.size, 2, none⟩ = some (.int .u64 (m.lines : Int)) ∧ W.cell? ⟨u5.heap.size, 3, none⟩ = some (.int .u64 (m.days : Int)) ∧ W.cell? ⟨u5.heap.size, 4, none⟩ = some (.int .i64 m.lo) ∧ W.cell? ⟨u5.heap.size, 5, none⟩ = some (.int .i64 m.hi) ∧ W.cell? ⟨u5.heap.size, 6, none⟩ = some (.slice Am m.daily.length cm) ∧ W.cell? ⟨u5.heap.size, 7, none⟩ = some (.string (sof m.holder)) := fun W hb => by
          obtain ⟨x0_0, x0_1, x0_2, x0_3, x0_4, x0_5, x0_6, x0_7⟩ := ARow.cells (Whole.below H82.out hb (Whole.lt H82.out))
          obtain ⟨x1_0, x1_1, x1_2, x1_3, x1_4, x1_5, x1_6, x1_7⟩ := ARow.cells (Whole.below H83.out hb (Whole.lt H83.out))
          obtain ⟨x2_0, x2_1, x2_2, x2_3, x2_4, x2_5, x2_6, x2_7⟩ := ARow.cells (Whole.below H88.out hb (Whole.lt H88.out))
          obtain ⟨x3_0, x3_1, x3_2, x3_3, x3_4, x3_5, x3_6, x3_7⟩ := ARow.cells (Whole.below H90.out hb (Whole.lt H90.out))
          exact ⟨x0_0, x0_1, x0_2, x0_3, x0_4, x0_5, x0_6, x0_7, x1_0, x1_1, x1_2, x1_3, x1_4, x1_5, x1_6, x1_7, x2_0, x2_1, x2_2, x2_3, x2_4, x2_5, x2_6, x2_7, x3_0, x3_1, x3_2, x3_3, x3_4, x3_5, x3_6, x3_7⟩
        refine wp_region_held_drew (S := fun W => W.cell? ⟨u1.heap.size, 0, none⟩ = some (.bool a.none) ∧ W.cell? ⟨u1.heap.size, 1, none⟩ = some (.int .u64 (a.zones : Int)) ∧ W.cell? ⟨u1.heap.size, 2, none⟩ = some (.int .u64 (a.lines : Int)) ∧ W.cell? ⟨u1.heap.size, 3, none⟩ = some (.int .u64 (a.days : Int)) ∧ W.cell? ⟨u1.heap.size, 4, none⟩ = some (.int .i64 a.lo) ∧ W.cell? ⟨u1.heap.size, 5, none⟩ = some (.int .i64 a.hi) ∧ W.cell? ⟨u1.heap.size, 6, none⟩ = some (.slice Aa a.daily.length ca) ∧ W.cell? ⟨u1.heap.size, 7, none⟩ = some (.string (sof a.holder)) ∧ W.cell? ⟨(u1.heap.size + 1), 0, none⟩ = some (.bool b.none) ∧ W.cell? ⟨(u1.heap.size + 1), 1, none⟩ = some (.int .u64 (b.zones : Int)) ∧ W.cell? ⟨(u1.heap.size + 1), 2, none⟩ = some (.int .u64 (b.lines : Int)) ∧ W.cell? ⟨(u1.heap.size + 1), 3, none⟩ = some (.int .u64 (b.days : Int)) ∧ W.cell? ⟨(u1.heap.size + 1), 4, none⟩ = some (.int .i64 b.lo) ∧ W.cell? ⟨(u1.heap.size + 1), 5, none⟩ = some (.int .i64 b.hi) ∧ W.cell? ⟨(u1.heap.size + 1), 6, none⟩ = some (.slice Ab b.daily.length cb) ∧ W.cell? ⟨(u1.heap.size + 1), 7, none⟩ = some (.string (sof b.holder)) ∧ W.cell? ⟨u4.heap.size, 0, none⟩ = some (.bool d.none) ∧ W.cell? ⟨u4.heap.size, 1, none⟩ = some (.int .u64 (d.zones : Int)) ∧ W.cell? ⟨u4.heap.size, 2, none⟩ = some (.int .u64 (d.lines : Int)) ∧ W.cell? ⟨u4.heap.size, 3, none⟩ = some (.int .u64 (d.days : Int)) ∧ W.cell? ⟨u4.heap.size, 4, none⟩ = some (.int .i64 d.lo) ∧ W.cell? ⟨u4.heap.size, 5, none⟩ = some (.int .i64 d.hi) ∧ W.cell? ⟨u4.heap.size, 6, none⟩ = some (.slice Ad d.daily.length cd) ∧ W.cell? ⟨u4.heap.size, 7, none⟩ = some (.string (sof d.holder)) ∧ W.cell? ⟨u5.heap.size, 0, none⟩ = some (.bool m.none) ∧ W.cell? ⟨u5.heap.size, 1, none⟩ = some (.int .u64 (m.zones : Int)) ∧ W.cell? ⟨u5.heap.size, 2, none⟩ = some (.int .u64 (m.lines : Int)) ∧ W.cell? ⟨u5.heap.size, 3, none⟩ = some (.int .u64 (m.days : Int)) ∧ W.cell? ⟨u5.heap.size, 4, none⟩ = some (.int .i64 m.lo) ∧ W.cell? ⟨u5.heap.size, 5, none⟩ = some (.int .i64 m.hi) ∧ W.cell? ⟨u5.heap.size, 6, none⟩ = some (.slice Am m.daily.length cm) ∧ W.cell? ⟨u5.heap.size, 7, none⟩ = some (.string (sof m.holder))) (by kernel_rfl) (hcc _ (Below.drew (Below.refl _ _))) (fun hHeld => ?_)
        apply wpAnyH_take (i := 0) rfl (by kernel_rfl) (by kernel_rfl) (by kernel_rfl)
        case hQ => exact fun _ _ _ h => h
        case hS => exact hHeld
        case hy => (refine Or.inl ⟨by rfl, ?_⟩; intro w hSw; go_split_ands; go_simp; (try with_reducible rfl))
        (try simp only [List.getElem_toArray, List.getElem_cons_zero, Act.put, List.setIfInBounds_toArray, List.set_cons_zero, List.set_cons_succ])
        apply wpAnyH_take (i := 1) rfl (by kernel_rfl) (by kernel_rfl) (by kernel_rfl)
        case hQ => exact fun _ _ _ h => h
        case hS => exact hHeld
        case hy => (refine Or.inl ⟨by rfl, ?_⟩; intro w hSw; go_split_ands; go_simp; (try with_reducible rfl))
        (try simp only [List.getElem_toArray, List.getElem_cons_succ, List.getElem_cons_zero, Act.put, List.setIfInBounds_toArray, List.set_cons_zero, List.set_cons_succ])
        apply wpAnyH_take (i := 3) rfl (by kernel_rfl) (by kernel_rfl) (by kernel_rfl)
        case hQ => exact fun _ _ _ h => h
        case hS => exact hHeld
        case hy => (refine Or.inl ⟨by rfl, ?_⟩; intro w hSw; go_split_ands; go_simp; (try with_reducible rfl))
        (try simp only [List.getElem_toArray, List.getElem_cons_succ, List.getElem_cons_zero, Act.put, List.setIfInBounds_toArray, List.set_cons_zero, List.set_cons_succ])
        apply wpAnyH_take (i := 4) rfl (by kernel_rfl) (by kernel_rfl) (by kernel_rfl)
        case hQ => exact fun _ _ _ h => h
        case hS => exact hHeld
        case hy => (refine Or.inl ⟨by rfl, ?_⟩; intro w hSw; go_split_ands; go_simp; (try with_reducible rfl))
        (try simp only [List.getElem_toArray, List.getElem_cons_succ, List.getElem_cons_zero, Act.put, List.setIfInBounds_toArray, List.set_cons_zero, List.set_cons_succ])
        apply wpAnyH_take (i := 6) rfl (by kernel_rfl) (by kernel_rfl) (by kernel_rfl)
        case hQ => exact fun _ _ _ h => h
        case hS => exact hHeld
        case hy => (refine Or.inl ⟨by rfl, ?_⟩; intro w hSw; go_split_ands; go_simp; (try with_reducible rfl))
        (try simp only [List.getElem_toArray, List.getElem_cons_succ, List.getElem_cons_zero, Act.put, List.setIfInBounds_toArray, List.set_cons_zero, List.set_cons_succ])
        refine wpAnyH_ready (rs := [2]) (by kernel_rfl) (by simp) ?_
        refine AllReadyH.cons rfl (fun K hK => ?_) AllReadyH.nil
        (try simp only [List.getElem_toArray, List.getElem_cons_succ, List.getElem_cons_zero])
        go_simp
        go_at_call 11
        refine (law_win (Below.drew (Below.refl _ _)) (Tab.below (Tab.below HT.out H81.out (Nat.le_refl _)) (Below.drew (Below.refl _ _)) (Nat.le_refl _)) (Av.below H84.out (Below.drew (Below.refl _ _)) (Nat.le_refl _)) (Av.below H85.out (Below.drew (Below.refl _ _)) (Nat.le_refl _)) JB1.out).mono ?_
        rintro e w1 ⟨rfl, c1⟩
        refine hK.out _ _ (hcc _ c1) (fun hHeld => ?_)
        clear hK K
        (try simp only [List.getElem_toArray, List.getElem_cons_succ, List.getElem_cons_zero, Act.put, List.setIfInBounds_toArray, List.set_cons_zero, List.set_cons_succ])
        refine wpAnyH_ready (rs := [5]) (by kernel_rfl) (by simp) ?_
        refine AllReadyH.cons rfl (fun K hK => ?_) AllReadyH.nil
        (try simp only [List.getElem_toArray, List.getElem_cons_succ, List.getElem_cons_zero])
        go_simp
        go_at_call 25
        refine (law_meet c1 (Av.below H84.out c1 (Nat.le_refl _)) (Av.below H85.out c1 (Nat.le_refl _))).mono ?_
        rintro e w2 ⟨⟨z2, m2, rfl, hz2, hm2⟩, c2, -⟩
        refine hK.out _ _ (hcc _ c2) (fun hHeld => ?_)
        clear hK K
        (try simp only [List.getElem_toArray, List.getElem_cons_succ, List.getElem_cons_zero, Act.put, List.setIfInBounds_toArray, List.set_cons_zero, List.set_cons_succ])
        refine wpAnyH_ready (rs := [7]) (by kernel_rfl) (by simp) ?_
        refine AllReadyH.cons rfl (fun K hK => ?_) AllReadyH.nil
        (try simp only [List.getElem_toArray, List.getElem_cons_succ, List.getElem_cons_zero])
        go_simp
        go_at_call 13
        refine (law_csam c2 hz2 (Av.below H84.out c2 (Nat.le_refl _)) (ord_meet HKa.out HKb.out hm2 JB1.out)).mono ?_
        rintro e w3 ⟨rfl, c3⟩
        refine hK.out _ _ (hcc _ c3) (fun hHeld => ?_)
        clear hK K
        (try simp only [List.getElem_toArray, List.getElem_cons_succ, List.getElem_cons_zero, Act.put, List.setIfInBounds_toArray, List.set_cons_zero, List.set_cons_succ])
        apply wpAnyH_take (i := 8) rfl (by kernel_rfl) (by kernel_rfl) (by kernel_rfl)
        case hQ => exact fun _ _ _ h => h
        case hS => exact hHeld
        case hy => (refine Or.inl ⟨by rfl, ?_⟩; intro w hSw; go_split_ands; go_simp; (try with_reducible rfl))
        (try simp only [List.getElem_toArray, List.getElem_cons_succ, List.getElem_cons_zero, Act.put, List.setIfInBounds_toArray, List.set_cons_zero, List.set_cons_succ])
        apply wpAnyH_take (i := 9) rfl (by kernel_rfl) (by kernel_rfl) (by kernel_rfl)
        case hQ => exact fun _ _ _ h => h
        case hS => exact hHeld
        case hy => (refine Or.inl ⟨by rfl, ?_⟩; intro w hSw; go_split_ands; go_simp; (try with_reducible rfl))
        (try simp only [List.getElem_toArray, List.getElem_cons_succ, List.getElem_cons_zero, Act.put, List.setIfInBounds_toArray, List.set_cons_zero, List.set_cons_succ])
        apply wpAnyH_take (i := 10) rfl (by kernel_rfl) (by kernel_rfl) (by kernel_rfl)
        case hQ => exact fun _ _ _ h => h
        case hS => exact hHeld
        case hy => (refine Or.inl ⟨by rfl, ?_⟩; intro w hSw; go_split_ands; go_simp; (try with_reducible rfl))
        (try simp only [List.getElem_toArray, List.getElem_cons_succ, List.getElem_cons_zero, Act.put, List.setIfInBounds_toArray, List.set_cons_zero, List.set_cons_succ])
        apply wpAnyH_take (i := 11) rfl (by kernel_rfl) (by kernel_rfl) (by kernel_rfl)
        case hQ => exact fun _ _ _ h => h
        case hS => exact hHeld
        case hy => (refine Or.inl ⟨by rfl, ?_⟩; intro w hSw; go_split_ands; go_simp; (try with_reducible rfl))
        (try simp only [List.getElem_toArray, List.getElem_cons_succ, List.getElem_cons_zero, Act.put, List.setIfInBounds_toArray, List.set_cons_zero, List.set_cons_succ])
        refine wpAnyH_ready (rs := [12]) (by kernel_rfl) (by simp) ?_
        refine AllReadyH.cons rfl (fun K hK => ?_) AllReadyH.nil
        (try simp only [List.getElem_toArray, List.getElem_cons_succ, List.getElem_cons_zero])
        go_simp
        go_at_call 11
        refine (law_win c3 (Tab.below (Tab.below HT.out H81.out (Nat.le_refl _)) c3 (Nat.le_refl _)) (Av.below H91.out c3 (Nat.le_refl _)) (Av.below H84.out c3 (Nat.le_refl _)) (ord_low HKa.out HKd.out HM.out).1).mono ?_
        rintro e w4 ⟨rfl, c4⟩
        refine hK.out _ _ (hcc _ c4) (fun hHeld => ?_)
        clear hK K
        (try simp only [List.getElem_toArray, List.getElem_cons_succ, List.getElem_cons_zero, Act.put, List.setIfInBounds_toArray, List.set_cons_zero, List.set_cons_succ])
        apply wpAnyH_take (i := 13) rfl (by kernel_rfl) (by kernel_rfl) (by kernel_rfl)
        case hQ => exact fun _ _ _ h => h
        case hS => exact hHeld
        case hy => (refine Or.inl ⟨by rfl, ?_⟩; intro w hSw; go_split_ands; go_simp; (try with_reducible rfl))
        (try simp only [List.getElem_toArray, List.getElem_cons_succ, List.getElem_cons_zero, Act.put, List.setIfInBounds_toArray, List.set_cons_zero, List.set_cons_succ])
        apply wpAnyH_take (i := 14) rfl (by kernel_rfl) (by kernel_rfl) (by kernel_rfl)
        case hQ => exact fun _ _ _ h => h
        case hS => exact hHeld
        case hy => (refine Or.inl ⟨by rfl, ?_⟩; intro w hSw; go_split_ands; go_simp; (try with_reducible rfl))
        (try simp only [List.getElem_toArray, List.getElem_cons_succ, List.getElem_cons_zero, Act.put, List.setIfInBounds_toArray, List.set_cons_zero, List.set_cons_succ])
        apply wpAnyH_take (i := 15) rfl (by kernel_rfl) (by kernel_rfl) (by kernel_rfl)
        case hQ => exact fun _ _ _ h => h
        case hS => exact hHeld
        case hy => (refine Or.inl ⟨by rfl, ?_⟩; intro w hSw; go_split_ands; go_simp; (try with_reducible rfl))
        (try simp only [List.getElem_toArray, List.getElem_cons_succ, List.getElem_cons_zero, Act.put, List.setIfInBounds_toArray, List.set_cons_zero, List.set_cons_succ])
        apply wpAnyH_take (i := 16) rfl (by kernel_rfl) (by kernel_rfl) (by kernel_rfl)
        case hQ => exact fun _ _ _ h => h
        case hS => exact hHeld
        case hy => (refine Or.inl ⟨by rfl, ?_⟩; intro w hSw; go_split_ands; go_simp; (try with_reducible rfl))
        (try simp only [List.getElem_toArray, List.getElem_cons_succ, List.getElem_cons_zero, Act.put, List.setIfInBounds_toArray, List.set_cons_zero, List.set_cons_succ])
        refine wpAnyH_ready (rs := [17]) (by kernel_rfl) (by simp) ?_
        refine AllReadyH.cons rfl (fun K hK => ?_) AllReadyH.nil
        (try simp only [List.getElem_toArray, List.getElem_cons_succ, List.getElem_cons_zero])
        go_simp
        go_at_call 11
        refine (law_win c4 (Tab.below (Tab.below HT.out H81.out (Nat.le_refl _)) c4 (Nat.le_refl _)) (Av.below H91.out c4 (Nat.le_refl _)) (Av.below H89.out c4 (Nat.le_refl _)) (ord_low HKa.out HKd.out HM.out).2).mono ?_
        rintro e w5 ⟨rfl, c5⟩
        refine hK.out _ _ (hcc _ c5) (fun hHeld => ?_)
        clear hK K
        (try simp only [List.getElem_toArray, List.getElem_cons_succ, List.getElem_cons_zero, Act.put, List.setIfInBounds_toArray, List.set_cons_zero, List.set_cons_succ])
        apply wpAnyH_take (i := 18) rfl (by kernel_rfl) (by kernel_rfl) (by kernel_rfl)
        case hQ => exact fun _ _ _ h => h
        case hS => exact hHeld
        case hy => (refine Or.inl ⟨by rfl, ?_⟩; intro w hSw; go_split_ands; go_simp; (try with_reducible rfl))
        (try simp only [List.getElem_toArray, List.getElem_cons_succ, List.getElem_cons_zero, Act.put, List.setIfInBounds_toArray, List.set_cons_zero, List.set_cons_succ])
        apply wpAnyH_take (i := 19) rfl (by kernel_rfl) (by kernel_rfl) (by kernel_rfl)
        case hQ => exact fun _ _ _ h => h
        case hS => exact hHeld
        case hy => (refine Or.inl ⟨by rfl, ?_⟩; intro w hSw; go_split_ands; go_simp; (try with_reducible rfl))
        (try simp only [List.getElem_toArray, List.getElem_cons_succ, List.getElem_cons_zero, Act.put, List.setIfInBounds_toArray, List.set_cons_zero, List.set_cons_succ])
        refine wpAnyH_ready (rs := [20]) (by kernel_rfl) (by simp) ?_
        refine AllReadyH.cons rfl (fun K hK => ?_) AllReadyH.nil
        (try simp only [List.getElem_toArray, List.getElem_cons_succ, List.getElem_cons_zero])
        go_simp
        go_at_call 9
        refine (law_cawk c5 (Tab.below (Tab.below HT.out H81.out (Nat.le_refl _)) c5 (Nat.le_refl _))).mono ?_
        rintro e w6 ⟨rfl, c6⟩
        refine hK.out _ _ (hcc _ c6) (fun hHeld => ?_)
        clear hK K
        (try simp only [List.getElem_toArray, List.getElem_cons_succ, List.getElem_cons_zero, Act.put, List.setIfInBounds_toArray, List.set_cons_zero, List.set_cons_succ])
        apply wpAnyH_take (i := 21) rfl (by kernel_rfl) (by kernel_rfl) (by kernel_rfl)
        case hQ => exact fun _ _ _ h => h
        case hS => exact hHeld
        case hy => (refine Or.inl ⟨by rfl, ?_⟩; intro w hSw; go_split_ands; go_simp; (try with_reducible rfl))
        (try simp only [List.getElem_toArray, List.getElem_cons_succ, List.getElem_cons_zero, Act.put, List.setIfInBounds_toArray, List.set_cons_zero, List.set_cons_succ])
        apply wpAnyH_take (i := 22) rfl (by kernel_rfl) (by kernel_rfl) (by kernel_rfl)
        case hQ => exact fun _ _ _ h => h
        case hS => exact hHeld
        case hy => (refine Or.inl ⟨by rfl, ?_⟩; intro w hSw; go_split_ands; go_simp; (try with_reducible rfl))
        (try simp only [List.getElem_toArray, List.getElem_cons_succ, List.getElem_cons_zero, Act.put, List.setIfInBounds_toArray, List.set_cons_zero, List.set_cons_succ])
        refine wpAnyH_done (by kernel_rfl) ?_ _
        have HG := Lib.hid (Below.trans H81.out (Below.mono c6 (Below.size H81.out)))
        go_wp2
        go_ret
        exact ⟨rfl, HG.out⟩
      · skip
        obtain ⟨ka0, ka1, ka2, ka3, ka4, ka5, ka6, ka7⟩ := ARow.cells (Whole.below H38.out b14 (Whole.lt H38.out))
        obtain ⟨kb0, kb1, kb2, kb3, kb4, kb5, kb6, kb7⟩ := ARow.cells (Whole.below H39.out b14 (Whole.lt H39.out))
        have hcl := law_csam b14 (Av.below H40.out b14 (Nat.le_refl _)) (Av.below H41.out b14 (Nat.le_refl _)) (JB5.out (by simp) (by simp))
        go_wp2_with fail
        refine hcl.mono ?_
        rintro e y15 ⟨rfl, b15⟩
        clear hcl ka0 ka1 ka2 ka3 ka4 ka5 ka6 ka7 kb0 kb1 kb2 kb3 kb4 kb5 kb6 kb7
        have H92 : Hid (Below w.heap.size w y15) := Lib.hid (Below.trans H37.out (Below.mono b15 (Below.size H37.out)))
        have H93 : Hid (ARow y15 u1.heap.size a.none a.zones a.lines a.days a.lo a.hi (.slice Aa a.daily.length ca) a.holder) := Lib.hid (Whole.below H38.out b15 (Whole.lt H38.out))
        have H94 : Hid (ARow y15 (u1.heap.size + 1) b.none b.zones b.lines b.days b.lo b.hi (.slice Ab b.daily.length cb) b.holder) := Lib.hid (Whole.below H39.out b15 (Whole.lt H39.out))
        have H95 : Hid (Av y15 (fun k => k ≠ g1) (.agg (arow a.none a.zones a.lines a.days a.lo a.hi (.slice Aa a.daily.length ca) a.holder)) a) := Lib.hid (Av.below H40.out b15 (Nat.le_refl _))
        have H96 : Hid (Av y15 (fun k => k ≠ g1) (.agg (arow b.none b.zones b.lines b.days b.lo b.hi (.slice Ab b.daily.length cb) b.holder)) b) := Lib.hid (Av.below H41.out b15 (Nat.le_refl _))
        have H97 : Hid (ARow y15 u3.heap.size c.none c.zones c.lines c.days c.lo c.hi (.slice Ac c.daily.length cc) c.holder) := Lib.hid (Whole.below H42.out b15 (Whole.lt H42.out))
        have H98 : Hid (Av y15 (fun _ => True) (.agg (arow c.none c.zones c.lines c.days c.lo c.hi (.slice Ac c.daily.length cc) c.holder)) c) := Lib.hid (Av.below H43.out b15 (Nat.le_refl _))
        have H99 : Hid (ARow y15 u4.heap.size d.none d.zones d.lines d.days d.lo d.hi (.slice Ad d.daily.length cd) d.holder) := Lib.hid (Whole.below H44.out b15 (Whole.lt H44.out))
        have H100 : Hid (Av y15 (fun _ => True) (.agg (arow d.none d.zones d.lines d.days d.lo d.hi (.slice Ad d.daily.length cd) d.holder)) d) := Lib.hid (Av.below H45.out b15 (Nat.le_refl _))
        have H101 : Hid (ARow y15 u5.heap.size m.none m.zones m.lines m.days m.lo m.hi (.slice Am m.daily.length cm) m.holder) := Lib.hid (Whole.below H46.out b15 (Whole.lt H46.out))
        have H102 : Hid (Av y15 (fun _ => True) (.agg (arow m.none m.zones m.lines m.days m.lo m.hi (.slice Am m.daily.length cm) m.holder)) m) := Lib.hid (Av.below H47.out b15 (Nat.le_refl _))
        clear H37 H38 H39 H40 H41 H42 H43 H44 H45 H46 H47
        go_upto_region 8 with fail
        have hcc : ∀ W, Below y15.heap.size y15 W → W.cell? ⟨u1.heap.size, 0, none⟩ = some (.bool a.none) ∧ W.cell? ⟨u1.heap.size, 1, none⟩ = some (.int .u64 (a.zones : Int)) ∧ W.cell? ⟨u1.heap.size, 2, none⟩ = some (.int .u64 (a.lines : Int)) ∧ W.cell? ⟨u1.heap.size, 3, none⟩ = some (.int .u64 (a.days : Int)) ∧ W.cell? ⟨u1.heap.size, 4, none⟩ = some (.int .i64 a.lo) ∧ W.cell? ⟨u1.heap.size, 5, none⟩ = some (.int .i64 a.hi) ∧ W.cell? ⟨u1.heap.size, 6, none⟩ = some (.slice Aa a.daily.length ca) ∧ W.cell? ⟨u1.heap.size, 7, none⟩ = some (.string (sof a.holder)) ∧ W.cell? ⟨(u1.heap.size + 1), 0, none⟩ = some (.bool b.none) ∧ W.cell? ⟨(u1.heap.size + 1), 1, none⟩ = some (.int .u64 (b.zones : Int)) ∧ W.cell? ⟨(u1.heap.size + 1), 2, none⟩ = some (.int .u64 (b.lines : Int)) ∧ W.cell? ⟨(u1.heap.size + 1), 3, none⟩ = some (.int .u64 (b.days : Int)) ∧ W.cell? ⟨(u1.heap.size + 1), 4, none⟩ = some (.int .i64 b.lo) ∧ W.cell? ⟨(u1.heap.size + 1), 5, none⟩ = some (.int .i64 b.hi) ∧ W.cell? ⟨(u1.heap.size + 1), 6, none⟩ = some (.slice Ab b.daily.length cb) ∧ W.cell? ⟨(u1.heap.size + 1), 7, none⟩ = some (.string (sof b.holder)) ∧ W.cell? ⟨u4.heap.size, 0, none⟩ = some (.bool d.none) ∧ W.cell? ⟨u4.heap.size, 1, none⟩ = some (.int .u64 (d.zones : Int)) ∧ W.cell? ⟨u4.heap.size, 2, none⟩ = some (.int .u64 (d.lines : Int)) ∧ W.cell? ⟨u4.heap.size, 3, none⟩ = some (.int .u64 (d.days : Int)) ∧ W.cell? ⟨u4.heap.size, 4, none⟩ = some (.int .i64 d.lo) ∧ W.cell? ⟨u4.heap.size, 5, none⟩ = some (.int .i64 d.hi) ∧ W.cell? ⟨u4.heap.size, 6, none⟩ = some (.slice Ad d.daily.length cd) ∧ W.cell? ⟨u4.heap.size, 7, none⟩ = some (.string (sof d.holder)) ∧ W.cell? ⟨u5.heap.size, 0, none⟩ = some (.bool m.none) ∧ W.cell? ⟨u5.heap.size, 1, none⟩ = some (.int .u64 (m.zones : Int)) ∧ W.cell? ⟨u5.heap.size, 2, none⟩ = some (.int .u64 (m.lines : Int)) ∧ W.cell? ⟨u5.heap.size, 3, none⟩ = some (.int .u64 (m.days : Int)) ∧ W.cell? ⟨u5.heap.size, 4, none⟩ = some (.int .i64 m.lo) ∧ W.cell? ⟨u5.heap.size, 5, none⟩ = some (.int .i64 m.hi) ∧ W.cell? ⟨u5.heap.size, 6, none⟩ = some (.slice Am m.daily.length cm) ∧ W.cell? ⟨u5.heap.size, 7, none⟩ = some (.string (sof m.holder)) := fun W hb => by
          obtain ⟨x0_0, x0_1, x0_2, x0_3, x0_4, x0_5, x0_6, x0_7⟩ := ARow.cells (Whole.below H93.out hb (Whole.lt H93.out))
          obtain ⟨x1_0, x1_1, x1_2, x1_3, x1_4, x1_5, x1_6, x1_7⟩ := ARow.cells (Whole.below H94.out hb (Whole.lt H94.out))
          obtain ⟨x2_0, x2_1, x2_2, x2_3, x2_4, x2_5, x2_6, x2_7⟩ := ARow.cells (Whole.below H99.out hb (Whole.lt H99.out))
          obtain ⟨x3_0, x3_1, x3_2, x3_3, x3_4, x3_5, x3_6, x3_7⟩ := ARow.cells (Whole.below H101.out hb (Whole.lt H101.out))
          exact ⟨x0_0, x0_1, x0_2, x0_3, x0_4, x0_5, x0_6, x0_7, x1_0, x1_1, x1_2, x1_3, x1_4, x1_5, x1_6, x1_7, x2_0, x2_1, x2_2, x2_3, x2_4, x2_5, x2_6, x2_7, x3_0, x3_1, x3_2, x3_3, x3_4, x3_5, x3_6, x3_7⟩
        refine wp_region_held_drew (S := fun W => W.cell? ⟨u1.heap.size, 0, none⟩ = some (.bool a.none) ∧ W.cell? ⟨u1.heap.size, 1, none⟩ = some (.int .u64 (a.zones : Int)) ∧ W.cell? ⟨u1.heap.size, 2, none⟩ = some (.int .u64 (a.lines : Int)) ∧ W.cell? ⟨u1.heap.size, 3, none⟩ = some (.int .u64 (a.days : Int)) ∧ W.cell? ⟨u1.heap.size, 4, none⟩ = some (.int .i64 a.lo) ∧ W.cell? ⟨u1.heap.size, 5, none⟩ = some (.int .i64 a.hi) ∧ W.cell? ⟨u1.heap.size, 6, none⟩ = some (.slice Aa a.daily.length ca) ∧ W.cell? ⟨u1.heap.size, 7, none⟩ = some (.string (sof a.holder)) ∧ W.cell? ⟨(u1.heap.size + 1), 0, none⟩ = some (.bool b.none) ∧ W.cell? ⟨(u1.heap.size + 1), 1, none⟩ = some (.int .u64 (b.zones : Int)) ∧ W.cell? ⟨(u1.heap.size + 1), 2, none⟩ = some (.int .u64 (b.lines : Int)) ∧ W.cell? ⟨(u1.heap.size + 1), 3, none⟩ = some (.int .u64 (b.days : Int)) ∧ W.cell? ⟨(u1.heap.size + 1), 4, none⟩ = some (.int .i64 b.lo) ∧ W.cell? ⟨(u1.heap.size + 1), 5, none⟩ = some (.int .i64 b.hi) ∧ W.cell? ⟨(u1.heap.size + 1), 6, none⟩ = some (.slice Ab b.daily.length cb) ∧ W.cell? ⟨(u1.heap.size + 1), 7, none⟩ = some (.string (sof b.holder)) ∧ W.cell? ⟨u4.heap.size, 0, none⟩ = some (.bool d.none) ∧ W.cell? ⟨u4.heap.size, 1, none⟩ = some (.int .u64 (d.zones : Int)) ∧ W.cell? ⟨u4.heap.size, 2, none⟩ = some (.int .u64 (d.lines : Int)) ∧ W.cell? ⟨u4.heap.size, 3, none⟩ = some (.int .u64 (d.days : Int)) ∧ W.cell? ⟨u4.heap.size, 4, none⟩ = some (.int .i64 d.lo) ∧ W.cell? ⟨u4.heap.size, 5, none⟩ = some (.int .i64 d.hi) ∧ W.cell? ⟨u4.heap.size, 6, none⟩ = some (.slice Ad d.daily.length cd) ∧ W.cell? ⟨u4.heap.size, 7, none⟩ = some (.string (sof d.holder)) ∧ W.cell? ⟨u5.heap.size, 0, none⟩ = some (.bool m.none) ∧ W.cell? ⟨u5.heap.size, 1, none⟩ = some (.int .u64 (m.zones : Int)) ∧ W.cell? ⟨u5.heap.size, 2, none⟩ = some (.int .u64 (m.lines : Int)) ∧ W.cell? ⟨u5.heap.size, 3, none⟩ = some (.int .u64 (m.days : Int)) ∧ W.cell? ⟨u5.heap.size, 4, none⟩ = some (.int .i64 m.lo) ∧ W.cell? ⟨u5.heap.size, 5, none⟩ = some (.int .i64 m.hi) ∧ W.cell? ⟨u5.heap.size, 6, none⟩ = some (.slice Am m.daily.length cm) ∧ W.cell? ⟨u5.heap.size, 7, none⟩ = some (.string (sof m.holder))) (by kernel_rfl) (hcc _ (Below.drew (Below.refl _ _))) (fun hHeld => ?_)
        apply wpAnyH_take (i := 0) rfl (by kernel_rfl) (by kernel_rfl) (by kernel_rfl)
        case hQ => exact fun _ _ _ h => h
        case hS => exact hHeld
        case hy => (refine Or.inl ⟨by rfl, ?_⟩; intro w hSw; go_split_ands; go_simp; (try with_reducible rfl))
        (try simp only [List.getElem_toArray, List.getElem_cons_zero, Act.put, List.setIfInBounds_toArray, List.set_cons_zero, List.set_cons_succ])
        apply wpAnyH_take (i := 1) rfl (by kernel_rfl) (by kernel_rfl) (by kernel_rfl)
        case hQ => exact fun _ _ _ h => h
        case hS => exact hHeld
        case hy => (refine Or.inl ⟨by rfl, ?_⟩; intro w hSw; go_split_ands; go_simp; (try with_reducible rfl))
        (try simp only [List.getElem_toArray, List.getElem_cons_succ, List.getElem_cons_zero, Act.put, List.setIfInBounds_toArray, List.set_cons_zero, List.set_cons_succ])
        apply wpAnyH_take (i := 3) rfl (by kernel_rfl) (by kernel_rfl) (by kernel_rfl)
        case hQ => exact fun _ _ _ h => h
        case hS => exact hHeld
        case hy => (refine Or.inl ⟨by rfl, ?_⟩; intro w hSw; go_split_ands; go_simp; (try with_reducible rfl))
        (try simp only [List.getElem_toArray, List.getElem_cons_succ, List.getElem_cons_zero, Act.put, List.setIfInBounds_toArray, List.set_cons_zero, List.set_cons_succ])
        apply wpAnyH_take (i := 4) rfl (by kernel_rfl) (by kernel_rfl) (by kernel_rfl)
        case hQ => exact fun _ _ _ h => h
        case hS => exact hHeld
        case hy => (refine Or.inl ⟨by rfl, ?_⟩; intro w hSw; go_split_ands; go_simp; (try with_reducible rfl))
        (try simp only [List.getElem_toArray, List.getElem_cons_succ, List.getElem_cons_zero, Act.put, List.setIfInBounds_toArray, List.set_cons_zero, List.set_cons_succ])
        apply wpAnyH_take (i := 6) rfl (by kernel_rfl) (by kernel_rfl) (by kernel_rfl)
        case hQ => exact fun _ _ _ h => h
        case hS => exact hHeld
        case hy => (refine Or.inl ⟨by rfl, ?_⟩; intro w hSw; go_split_ands; go_simp; (try with_reducible rfl))
        (try simp only [List.getElem_toArray, List.getElem_cons_succ, List.getElem_cons_zero, Act.put, List.setIfInBounds_toArray, List.set_cons_zero, List.set_cons_succ])
        refine wpAnyH_ready (rs := [2]) (by kernel_rfl) (by simp) ?_
        refine AllReadyH.cons rfl (fun K hK => ?_) AllReadyH.nil
        (try simp only [List.getElem_toArray, List.getElem_cons_succ, List.getElem_cons_zero])
        go_simp
        go_at_call 11
        refine (law_win (Below.drew (Below.refl _ _)) (Tab.below (Tab.below HT.out H92.out (Nat.le_refl _)) (Below.drew (Below.refl _ _)) (Nat.le_refl _)) (Av.below H95.out (Below.drew (Below.refl _ _)) (Nat.le_refl _)) (Av.below H96.out (Below.drew (Below.refl _ _)) (Nat.le_refl _)) JB1.out).mono ?_
        rintro e w1 ⟨rfl, c1⟩
        refine hK.out _ _ (hcc _ c1) (fun hHeld => ?_)
        clear hK K
        (try simp only [List.getElem_toArray, List.getElem_cons_succ, List.getElem_cons_zero, Act.put, List.setIfInBounds_toArray, List.set_cons_zero, List.set_cons_succ])
        refine wpAnyH_ready (rs := [5]) (by kernel_rfl) (by simp) ?_
        refine AllReadyH.cons rfl (fun K hK => ?_) AllReadyH.nil
        (try simp only [List.getElem_toArray, List.getElem_cons_succ, List.getElem_cons_zero])
        go_simp
        go_at_call 25
        refine (law_meet c1 (Av.below H95.out c1 (Nat.le_refl _)) (Av.below H96.out c1 (Nat.le_refl _))).mono ?_
        rintro e w2 ⟨⟨z2, m2, rfl, hz2, hm2⟩, c2, -⟩
        refine hK.out _ _ (hcc _ c2) (fun hHeld => ?_)
        clear hK K
        (try simp only [List.getElem_toArray, List.getElem_cons_succ, List.getElem_cons_zero, Act.put, List.setIfInBounds_toArray, List.set_cons_zero, List.set_cons_succ])
        refine wpAnyH_ready (rs := [7]) (by kernel_rfl) (by simp) ?_
        refine AllReadyH.cons rfl (fun K hK => ?_) AllReadyH.nil
        (try simp only [List.getElem_toArray, List.getElem_cons_succ, List.getElem_cons_zero])
        go_simp
        go_at_call 13
        refine (law_csam c2 hz2 (Av.below H95.out c2 (Nat.le_refl _)) (ord_meet HKa.out HKb.out hm2 JB1.out)).mono ?_
        rintro e w3 ⟨rfl, c3⟩
        refine hK.out _ _ (hcc _ c3) (fun hHeld => ?_)
        clear hK K
        (try simp only [List.getElem_toArray, List.getElem_cons_succ, List.getElem_cons_zero, Act.put, List.setIfInBounds_toArray, List.set_cons_zero, List.set_cons_succ])
        apply wpAnyH_take (i := 8) rfl (by kernel_rfl) (by kernel_rfl) (by kernel_rfl)
        case hQ => exact fun _ _ _ h => h
        case hS => exact hHeld
        case hy => (refine Or.inl ⟨by rfl, ?_⟩; intro w hSw; go_split_ands; go_simp; (try with_reducible rfl))
        (try simp only [List.getElem_toArray, List.getElem_cons_succ, List.getElem_cons_zero, Act.put, List.setIfInBounds_toArray, List.set_cons_zero, List.set_cons_succ])
        apply wpAnyH_take (i := 9) rfl (by kernel_rfl) (by kernel_rfl) (by kernel_rfl)
        case hQ => exact fun _ _ _ h => h
        case hS => exact hHeld
        case hy => (refine Or.inl ⟨by rfl, ?_⟩; intro w hSw; go_split_ands; go_simp; (try with_reducible rfl))
        (try simp only [List.getElem_toArray, List.getElem_cons_succ, List.getElem_cons_zero, Act.put, List.setIfInBounds_toArray, List.set_cons_zero, List.set_cons_succ])
        apply wpAnyH_take (i := 10) rfl (by kernel_rfl) (by kernel_rfl) (by kernel_rfl)
        case hQ => exact fun _ _ _ h => h
        case hS => exact hHeld
        case hy => (refine Or.inl ⟨by rfl, ?_⟩; intro w hSw; go_split_ands; go_simp; (try with_reducible rfl))
        (try simp only [List.getElem_toArray, List.getElem_cons_succ, List.getElem_cons_zero, Act.put, List.setIfInBounds_toArray, List.set_cons_zero, List.set_cons_succ])
        apply wpAnyH_take (i := 11) rfl (by kernel_rfl) (by kernel_rfl) (by kernel_rfl)
        case hQ => exact fun _ _ _ h => h
        case hS => exact hHeld
        case hy => (refine Or.inl ⟨by rfl, ?_⟩; intro w hSw; go_split_ands; go_simp; (try with_reducible rfl))
        (try simp only [List.getElem_toArray, List.getElem_cons_succ, List.getElem_cons_zero, Act.put, List.setIfInBounds_toArray, List.set_cons_zero, List.set_cons_succ])
        refine wpAnyH_ready (rs := [12]) (by kernel_rfl) (by simp) ?_
        refine AllReadyH.cons rfl (fun K hK => ?_) AllReadyH.nil
        (try simp only [List.getElem_toArray, List.getElem_cons_succ, List.getElem_cons_zero])
        go_simp
        go_at_call 11
        refine (law_win c3 (Tab.below (Tab.below HT.out H92.out (Nat.le_refl _)) c3 (Nat.le_refl _)) (Av.below H102.out c3 (Nat.le_refl _)) (Av.below H95.out c3 (Nat.le_refl _)) (ord_low HKa.out HKd.out HM.out).1).mono ?_
        rintro e w4 ⟨rfl, c4⟩
        refine hK.out _ _ (hcc _ c4) (fun hHeld => ?_)
        clear hK K
        (try simp only [List.getElem_toArray, List.getElem_cons_succ, List.getElem_cons_zero, Act.put, List.setIfInBounds_toArray, List.set_cons_zero, List.set_cons_succ])
        apply wpAnyH_take (i := 13) rfl (by kernel_rfl) (by kernel_rfl) (by kernel_rfl)
        case hQ => exact fun _ _ _ h => h
        case hS => exact hHeld
        case hy => (refine Or.inl ⟨by rfl, ?_⟩; intro w hSw; go_split_ands; go_simp; (try with_reducible rfl))
        (try simp only [List.getElem_toArray, List.getElem_cons_succ, List.getElem_cons_zero, Act.put, List.setIfInBounds_toArray, List.set_cons_zero, List.set_cons_succ])
        apply wpAnyH_take (i := 14) rfl (by kernel_rfl) (by kernel_rfl) (by kernel_rfl)
        case hQ => exact fun _ _ _ h => h
        case hS => exact hHeld
        case hy => (refine Or.inl ⟨by rfl, ?_⟩; intro w hSw; go_split_ands; go_simp; (try with_reducible rfl))
        (try simp only [List.getElem_toArray, List.getElem_cons_succ, List.getElem_cons_zero, Act.put, List.setIfInBounds_toArray, List.set_cons_zero, List.set_cons_succ])
        apply wpAnyH_take (i := 15) rfl (by kernel_rfl) (by kernel_rfl) (by kernel_rfl)
        case hQ => exact fun _ _ _ h => h
        case hS => exact hHeld
        case hy => (refine Or.inl ⟨by rfl, ?_⟩; intro w hSw; go_split_ands; go_simp; (try with_reducible rfl))
        (try simp only [List.getElem_toArray, List.getElem_cons_succ, List.getElem_cons_zero, Act.put, List.setIfInBounds_toArray, List.set_cons_zero, List.set_cons_succ])
        apply wpAnyH_take (i := 16) rfl (by kernel_rfl) (by kernel_rfl) (by kernel_rfl)
        case hQ => exact fun _ _ _ h => h
        case hS => exact hHeld
        case hy => (refine Or.inl ⟨by rfl, ?_⟩; intro w hSw; go_split_ands; go_simp; (try with_reducible rfl))
        (try simp only [List.getElem_toArray, List.getElem_cons_succ, List.getElem_cons_zero, Act.put, List.setIfInBounds_toArray, List.set_cons_zero, List.set_cons_succ])
        refine wpAnyH_ready (rs := [17]) (by kernel_rfl) (by simp) ?_
        refine AllReadyH.cons rfl (fun K hK => ?_) AllReadyH.nil
        (try simp only [List.getElem_toArray, List.getElem_cons_succ, List.getElem_cons_zero])
        go_simp
        go_at_call 11
        refine (law_win c4 (Tab.below (Tab.below HT.out H92.out (Nat.le_refl _)) c4 (Nat.le_refl _)) (Av.below H102.out c4 (Nat.le_refl _)) (Av.below H100.out c4 (Nat.le_refl _)) (ord_low HKa.out HKd.out HM.out).2).mono ?_
        rintro e w5 ⟨rfl, c5⟩
        refine hK.out _ _ (hcc _ c5) (fun hHeld => ?_)
        clear hK K
        (try simp only [List.getElem_toArray, List.getElem_cons_succ, List.getElem_cons_zero, Act.put, List.setIfInBounds_toArray, List.set_cons_zero, List.set_cons_succ])
        apply wpAnyH_take (i := 18) rfl (by kernel_rfl) (by kernel_rfl) (by kernel_rfl)
        case hQ => exact fun _ _ _ h => h
        case hS => exact hHeld
        case hy => (refine Or.inl ⟨by rfl, ?_⟩; intro w hSw; go_split_ands; go_simp; (try with_reducible rfl))
        (try simp only [List.getElem_toArray, List.getElem_cons_succ, List.getElem_cons_zero, Act.put, List.setIfInBounds_toArray, List.set_cons_zero, List.set_cons_succ])
        apply wpAnyH_take (i := 19) rfl (by kernel_rfl) (by kernel_rfl) (by kernel_rfl)
        case hQ => exact fun _ _ _ h => h
        case hS => exact hHeld
        case hy => (refine Or.inl ⟨by rfl, ?_⟩; intro w hSw; go_split_ands; go_simp; (try with_reducible rfl))
        (try simp only [List.getElem_toArray, List.getElem_cons_succ, List.getElem_cons_zero, Act.put, List.setIfInBounds_toArray, List.set_cons_zero, List.set_cons_succ])
        refine wpAnyH_ready (rs := [20]) (by kernel_rfl) (by simp) ?_
        refine AllReadyH.cons rfl (fun K hK => ?_) AllReadyH.nil
        (try simp only [List.getElem_toArray, List.getElem_cons_succ, List.getElem_cons_zero])
        go_simp
        go_at_call 9
        refine (law_cawk c5 (Tab.below (Tab.below HT.out H92.out (Nat.le_refl _)) c5 (Nat.le_refl _))).mono ?_
        rintro e w6 ⟨rfl, c6⟩
        refine hK.out _ _ (hcc _ c6) (fun hHeld => ?_)
        clear hK K
        (try simp only [List.getElem_toArray, List.getElem_cons_succ, List.getElem_cons_zero, Act.put, List.setIfInBounds_toArray, List.set_cons_zero, List.set_cons_succ])
        apply wpAnyH_take (i := 21) rfl (by kernel_rfl) (by kernel_rfl) (by kernel_rfl)
        case hQ => exact fun _ _ _ h => h
        case hS => exact hHeld
        case hy => (refine Or.inl ⟨by rfl, ?_⟩; intro w hSw; go_split_ands; go_simp; (try with_reducible rfl))
        (try simp only [List.getElem_toArray, List.getElem_cons_succ, List.getElem_cons_zero, Act.put, List.setIfInBounds_toArray, List.set_cons_zero, List.set_cons_succ])
        apply wpAnyH_take (i := 22) rfl (by kernel_rfl) (by kernel_rfl) (by kernel_rfl)
        case hQ => exact fun _ _ _ h => h
        case hS => exact hHeld
        case hy => (refine Or.inl ⟨by rfl, ?_⟩; intro w hSw; go_split_ands; go_simp; (try with_reducible rfl))
        (try simp only [List.getElem_toArray, List.getElem_cons_succ, List.getElem_cons_zero, Act.put, List.setIfInBounds_toArray, List.set_cons_zero, List.set_cons_succ])
        refine wpAnyH_done (by kernel_rfl) ?_ _
        have HG := Lib.hid (Below.trans H92.out (Below.mono c6 (Below.size H92.out)))
        go_wp2
        go_ret
        exact ⟨rfl, HG.out⟩
end Go.Proofs.YtedjbjplnjnnlaaDoor
