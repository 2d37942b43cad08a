/-
  The law ContainLeast.
-/
import Derived.Test.YtedjbjplnjnnlaaDoorPk32
import Derived.Test.YtedjbjplnjnnlaaDoorPk35
import Derived.Test.YtedjbjplnjnnlaaDoorPk20
import Derived.Test.YtedjbjplnjnnlaaDoorPk46
import Derived.Test.YtedjbjplnjnnlaaDoorPk50
import Derived.Test.YtedjbjplnjnnlaaDoorPk8
namespace Go.Proofs.YtedjbjplnjnnlaaDoor
open Go Go.RowKit Sh Leaf

theorem run_neq_ctx (z l m : Int) (n : List B8) (w : World) : (binOp .neq 34 (.agg #[.int .i64 z, .int .i64 l, .int .i64 m, .string (sof n)]) (.agg #[.int .i64 z, .int .i64 l, .int .i64 m, .string (sof n)])).run Tryd.prog w = .ok (.bool false) w := by
  simp [go_sem]
theorem least_in {a : Aut} {c : Ctx} (h : LeastR a c true) : decide (aok a ∧ cok c ∧ ina a c) = true :=
  decide_eq_true ⟨(LeastR.true h).1, (LeastR.true h).2.1, (LeastR.true h).2.2.1⟩
set_option linter.unusedSimpArgs false in
set_option linter.unusedVariables false in
set_option maxRecDepth 100000 in
set_option maxHeartbeats 8000000 in
theorem cleast_law {x : Value} {f : Aut} (A1 : Option Addr) (l1 : List Int) (c1 : Nat) (w : World) (hT : Tab w) (hx : Av w (fun _ => True) x f) (hI1 : Ints w (fun b => b < w.heap.size) A1 c1 l1) :
    Calls Tryd.prog 4 #[x, .slice A1 l1.length c1] w fun e w' => e = .returned (.bool true) ∧ Below w.heap.size w w' := by
  obtain ⟨n1, hn1⟩ : ∃ n, n = l1.length := ⟨_, rfl⟩
  rw [← hn1]
  have HT := Lib.hid hT
  have HI1 := Lib.hid hI1
  have HN1 := Lib.hid hn1
  obtain ⟨Af, cf, rfl, hSf, hff⟩ := hx
  obtain ⟨p0, hp⟩ : ∃ p, p = w.alloc (.cells (avl f Af cf) 25) := ⟨_, rfl⟩
  have hb0 : Below w.heap.size w p0 := by rw [hp]; exact (Below.refl _ _).alloc (Nat.le_refl _) _
  clear hI1 hn1 hT
  go_enter Tryd.func4, Tryd.ntmps4
  go_upto_region 1 with fail
  rw [← hp]
  have H0 : Hid (Below w.heap.size w p0) := Lib.hid (hb0)
  have H1 : Hid (ARow p0 w.heap.size f.none f.zones f.lines f.days f.lo f.hi (.slice Af f.daily.length cf) f.holder) := Lib.hid (by rw [hp]; exact Whole.here _ _ _)
  have H2 : Hid (Av p0 (fun _ => True) (.agg (arow f.none f.zones f.lines f.days f.lo f.hi (.slice Af f.daily.length cf) f.holder)) f) := Lib.hid (⟨Af, cf, rfl, (hSf.below hb0 (Nat.le_refl _)).mono fun _ _ _ => trivial, hff⟩)
  have hw0 : w.heap.size < p0.heap.size := Whole.lt H1.out
  clear hSf hff hb0 hp
  obtain ⟨n, hn⟩ : ∃ n, n = f.daily.length := ⟨_, rfl⟩
  by_cases h60 : (60 : Int) < (n : Int)
  · obtain ⟨k0, k1, k2, k3, k4, k5, k6, k7⟩ := ARow.cells H1.out
    rw [← hn] at k6
    have hcl := law_cawk (Below.refl _ _) (Tab.below HT.out H0.out (Nat.le_refl _))
    go_wp2_with fail
    refine hcl.mono ?_
    rintro e w1 ⟨rfl, hb⟩
    have HB := Lib.hid (Below.trans H0.out (Below.mono hb (Below.size H0.out)))
    clear hb hcl k0 k1 k2 k3 k4 k5 k6 k7
    go_wp2
    go_ret
    exact ⟨rfl, HB.out⟩
  obtain ⟨k0, k1, k2, k3, k4, k5, k6, k7⟩ := ARow.cells H1.out
  rw [← hn] at k6
  go_upto_region 3 with fail
  clear k0 k1 k2 k3 k4 k5 k6 k7 h60 hn
  have hmd := cmade A1 l1 c1 p0 ((HI1.out.below H0.out).mono (Below.size H0.out))
  rw [← HN1.out] at hmd
  go_wp2_with fail
  refine hmd.mono ?_
  rintro e u1 ⟨⟨xx, yy, a, b, g1, rfl, hx, hy, ha, hb, hdk, hgl⟩, hbl⟩
  obtain ⟨Aa, ca, rfl, hSa, haa⟩ := hx
  obtain ⟨Ab, cb, rfl, hSb, hbb⟩ := hy
  obtain ⟨p1, hp⟩ : ∃ p, p = (u1.alloc (.cells (avl a Aa ca) 25)).alloc (.cells (avl b Ab cb) 25) := ⟨_, rfl⟩
  have hup : Below u1.heap.size u1 p1 := by rw [hp]; exact ab_below _ _ _
  have hle : Below p0.heap.size p0 p1 := hbl.trans (hup.mono hbl.size)
  have hgu1 : g1 < u1.heap.size := hdk.lt
  have hgw1 : p0.heap.size ≤ g1 := hgl
  have H3 : Hid (Below w.heap.size w p1) := Lib.hid (Below.trans H0.out (Below.mono hle (Below.size H0.out)))
  have H4 : Hid (ARow p1 w.heap.size f.none f.zones f.lines f.days f.lo f.hi (.slice Af f.daily.length cf) f.holder) := Lib.hid (Whole.below H1.out hle (Whole.lt H1.out))
  have H5 : Hid (Av p1 (fun _ => True) (.agg (arow f.none f.zones f.lines f.days f.lo f.hi (.slice Af f.daily.length cf) f.holder)) f) := Lib.hid (Av.below H2.out hle (Nat.le_refl _))
  clear H0 H1 H2
  have H6 : Hid (ARow p1 u1.heap.size a.none a.zones a.lines a.days a.lo a.hi (.slice Aa a.daily.length ca) a.holder) := Lib.hid (by rw [hp]; exact (Whole.here _ _ _).alloc _)
  have H7 : Hid (ARow p1 (u1.heap.size + 1) b.none b.zones b.lines b.days b.lo b.hi (.slice Ab b.daily.length cb) b.holder) := Lib.hid (by rw [hp]; exact Whole.at_ _ _ _ _ (by simp))
  have H8 : Hid (Av p1 (fun k => k ≠ g1) (.agg (arow a.none a.zones a.lines a.days a.lo a.hi (.slice Aa a.daily.length ca) a.holder)) a) := Lib.hid (⟨Aa, ca, rfl, (hSa.below hup (Nat.le_refl _)).mono fun k _ hk => hk.2, haa⟩)
  have H9 : Hid (Av p1 (fun k => k ≠ g1) (.agg (arow b.none b.zones b.lines b.days b.lo b.hi (.slice Ab b.daily.length cb) b.holder)) b) := Lib.hid (⟨Ab, cb, rfl, (hSb.below hup (Nat.le_refl _)).mono fun k _ hk => hk.2, hbb⟩)
  have H10 : Hid (Deck g1 p1) := Lib.hid (hdk.below hup hgu1)
  have HKa : Hid (aok a) := Lib.hid ha
  have HKb : Hid (aok b) := Lib.hid hb
  clear hmd hSa hSb haa hbb ha hb hdk hgl hbl hup hle
  go_upto_region 4 with fail
  rw [← hp]
  clear hp
  clear H7
  clear H9
  have hgp1 : g1 < p1.heap.size := Nat.lt_trans hgu1 (Whole.lt H6.out)
  have hsz1 : p1.heap.size ≤ p1.heap.size := Nat.le_refl _
  obtain ⟨k0, k1, k2, k3, k4, k5, k6, k7⟩ := ARow.cells H6.out
  have hcl := cLeast (Tab.below HT.out H3.out (Nat.le_refl _)) H8.out
  go_wp2_with fail
  refine hcl.mono ?_
  rintro e v2 ⟨⟨oz, ol, om, on, oko, rfl, hWo⟩, hbb⟩
  clear hcl k0 k1 k2 k3 k4 k5 k6 k7
  have HWo := Lib.hid hWo
  clear hWo
  obtain ⟨q2, hp⟩ : ∃ p, p = v2.alloc (.cells (crow oz ol om on) 34) := ⟨_, rfl⟩
  have hup : Below v2.heap.size v2 q2 := by rw [hp]; exact (Below.refl _ _).alloc (Nat.le_refl _) _
  have hle := Below.trans hbb (Below.mono hup (Below.size hbb))
  have hsu2 : p1.heap.size ≤ v2.heap.size := Nat.le_trans hsz1 (Below.size hbb)
  have hsz2 : p1.heap.size ≤ q2.heap.size := Nat.le_trans hsu2 (Below.size hup)
  have H11 : Hid (Below w.heap.size w q2) := Lib.hid (Below.trans H3.out (Below.mono hle (Below.size H3.out)))
  have H12 : Hid (ARow q2 w.heap.size f.none f.zones f.lines f.days f.lo f.hi (.slice Af f.daily.length cf) f.holder) := Lib.hid (Whole.below H4.out hle (Whole.lt H4.out))
  have H13 : Hid (Av q2 (fun _ => True) (.agg (arow f.none f.zones f.lines f.days f.lo f.hi (.slice Af f.daily.length cf) f.holder)) f) := Lib.hid (Av.below H5.out hle (Nat.le_refl _))
  have H14 : Hid (ARow q2 u1.heap.size a.none a.zones a.lines a.days a.lo a.hi (.slice Aa a.daily.length ca) a.holder) := Lib.hid (Whole.below H6.out hle (Whole.lt H6.out))
  have H15 : Hid (Av q2 (fun k => k ≠ g1) (.agg (arow a.none a.zones a.lines a.days a.lo a.hi (.slice Aa a.daily.length ca) a.holder)) a) := Lib.hid (Av.below H8.out hle (Nat.le_refl _))
  have H16 : Hid (Deck g1 q2) := Lib.hid (Deck.below H10.out hle (Deck.lt H10.out))
  clear H3 H4 H5 H6 H8 H10
  have H17 : Hid (CRow q2 v2.heap.size oz ol om on) := Lib.hid (by rw [hp]; exact Whole.here _ _ _)
  clear hup hle hbb
  go_upto_region 5 with fail
  rw [← hp]
  clear hp
  obtain ⟨k0, k1, k2, k3, k4, k5, k6, k7⟩ := ARow.cells H14.out
  have hcl := rLeast H15.out
  go_wp2_with fail
  refine hcl.mono ?_
  rintro e v3 ⟨⟨ooz, ool, oom, oon, okoo, rfl, hWoo⟩, hbb⟩
  clear hcl k0 k1 k2 k3 k4 k5 k6 k7
  obtain ⟨e1, rfl⟩ := LeastR.unique HWo.out hWoo
  injection e1 with e1 e2 e3 e4
  subst e1 e2 e3 e4
  clear hWoo
  obtain ⟨q3, hp⟩ : ∃ p, p = v3.alloc (.cells (crow oz ol om on) 34) := ⟨_, rfl⟩
  have hup : Below v3.heap.size v3 q3 := by rw [hp]; exact (Below.refl _ _).alloc (Nat.le_refl _) _
  have hle := Below.trans hbb (Below.mono hup (Below.size hbb))
  have hsu3 : p1.heap.size ≤ v3.heap.size := Nat.le_trans hsz2 (Below.size hbb)
  have hsz3 : p1.heap.size ≤ q3.heap.size := Nat.le_trans hsu3 (Below.size hup)
  have H18 : Hid (Below w.heap.size w q3) := Lib.hid (Below.trans H11.out (Below.mono hle (Below.size H11.out)))
  have H19 : Hid (ARow q3 w.heap.size f.none f.zones f.lines f.days f.lo f.hi (.slice Af f.daily.length cf) f.holder) := Lib.hid (Whole.below H12.out hle (Whole.lt H12.out))
  have H20 : Hid (Av q3 (fun _ => True) (.agg (arow f.none f.zones f.lines f.days f.lo f.hi (.slice Af f.daily.length cf) f.holder)) f) := Lib.hid (Av.below H13.out hle (Nat.le_refl _))
  have H21 : Hid (ARow q3 u1.heap.size a.none a.zones a.lines a.days a.lo a.hi (.slice Aa a.daily.length ca) a.holder) := Lib.hid (Whole.below H14.out hle (Whole.lt H14.out))
  have H22 : Hid (Av q3 (fun k => k ≠ g1) (.agg (arow a.none a.zones a.lines a.days a.lo a.hi (.slice Aa a.daily.length ca) a.holder)) a) := Lib.hid (Av.below H15.out hle (Nat.le_refl _))
  have H23 : Hid (Deck g1 q3) := Lib.hid (Deck.below H16.out hle (Deck.lt H16.out))
  have H24 : Hid (CRow q3 v2.heap.size oz ol om on) := Lib.hid (Whole.below H17.out hle (Whole.lt H17.out))
  clear H11 H12 H13 H14 H15 H16 H17
  have H25 : Hid (CRow q3 v3.heap.size oz ol om on) := Lib.hid (by rw [hp]; exact Whole.here _ _ _)
  clear hup hle hbb
  go_upto_region 6 with fail
  rw [← hp]
  clear hp
  obtain ⟨k0, k1, k2, k3, k4, k5, k6, k7⟩ := ARow.cells H19.out
  have hcl := cLeast (Tab.below HT.out H18.out (Nat.le_refl _)) H20.out
  go_wp2_with fail
  refine hcl.mono ?_
  rintro e v4 ⟨⟨sz, sl, sm, sn, oks, rfl, hWs⟩, hbb⟩
  clear hcl k0 k1 k2 k3 k4 k5 k6 k7
  have HWs := Lib.hid hWs
  clear hWs
  obtain ⟨q4, hp⟩ : ∃ p, p = v4.alloc (.cells (crow sz sl sm sn) 34) := ⟨_, rfl⟩
  have hup : Below v4.heap.size v4 q4 := by rw [hp]; exact (Below.refl _ _).alloc (Nat.le_refl _) _
  have hle := Below.trans hbb (Below.mono hup (Below.size hbb))
  have hsu4 : p1.heap.size ≤ v4.heap.size := Nat.le_trans hsz3 (Below.size hbb)
  have hsz4 : p1.heap.size ≤ q4.heap.size := Nat.le_trans hsu4 (Below.size hup)
  have H26 : Hid (Below w.heap.size w q4) := Lib.hid (Below.trans H18.out (Below.mono hle (Below.size H18.out)))
  have H27 : Hid (ARow q4 w.heap.size f.none f.zones f.lines f.days f.lo f.hi (.slice Af f.daily.length cf) f.holder) := Lib.hid (Whole.below H19.out hle (Whole.lt H19.out))
  have H28 : Hid (Av q4 (fun _ => True) (.agg (arow f.none f.zones f.lines f.days f.lo f.hi (.slice Af f.daily.length cf) f.holder)) f) := Lib.hid (Av.below H20.out hle (Nat.le_refl _))
  have H29 : Hid (ARow q4 u1.heap.size a.none a.zones a.lines a.days a.lo a.hi (.slice Aa a.daily.length ca) a.holder) := Lib.hid (Whole.below H21.out hle (Whole.lt H21.out))
  have H30 : Hid (Av q4 (fun k => k ≠ g1) (.agg (arow a.none a.zones a.lines a.days a.lo a.hi (.slice Aa a.daily.length ca) a.holder)) a) := Lib.hid (Av.below H22.out hle (Nat.le_refl _))
  have H31 : Hid (Deck g1 q4) := Lib.hid (Deck.below H23.out hle (Deck.lt H23.out))
  have H32 : Hid (CRow q4 v2.heap.size oz ol om on) := Lib.hid (Whole.below H24.out hle (Whole.lt H24.out))
  have H33 : Hid (CRow q4 v3.heap.size oz ol om on) := Lib.hid (Whole.below H25.out hle (Whole.lt H25.out))
  clear H18 H19 H20 H21 H22 H23 H24 H25
  have H34 : Hid (CRow q4 v4.heap.size sz sl sm sn) := Lib.hid (by rw [hp]; exact Whole.here _ _ _)
  clear hup hle hbb
  go_upto_region 7 with fail
  rw [← hp]
  clear hp
  obtain ⟨k0, k1, k2, k3, k4, k5, k6, k7⟩ := ARow.cells H27.out
  have hcl := rLeast H28.out
  go_wp2_with fail
  refine hcl.mono ?_
  rintro e v5 ⟨⟨ssz, ssl, ssm, ssn, okss, rfl, hWss⟩, hbb⟩
  clear hcl k0 k1 k2 k3 k4 k5 k6 k7
  obtain ⟨e1, rfl⟩ := LeastR.unique HWs.out hWss
  injection e1 with e1 e2 e3 e4
  subst e1 e2 e3 e4
  clear hWss
  obtain ⟨q5, hp⟩ : ∃ p, p = v5.alloc (.cells (crow sz sl sm sn) 34) := ⟨_, rfl⟩
  have hup : Below v5.heap.size v5 q5 := by rw [hp]; exact (Below.refl _ _).alloc (Nat.le_refl _) _
  have hle := Below.trans hbb (Below.mono hup (Below.size hbb))
  have hsu5 : p1.heap.size ≤ v5.heap.size := Nat.le_trans hsz4 (Below.size hbb)
  have hsz5 : p1.heap.size ≤ q5.heap.size := Nat.le_trans hsu5 (Below.size hup)
  have H35 : Hid (Below w.heap.size w q5) := Lib.hid (Below.trans H26.out (Below.mono hle (Below.size H26.out)))
  have H36 : Hid (ARow q5 w.heap.size f.none f.zones f.lines f.days f.lo f.hi (.slice Af f.daily.length cf) f.holder) := Lib.hid (Whole.below H27.out hle (Whole.lt H27.out))
  have H37 : Hid (Av q5 (fun _ => True) (.agg (arow f.none f.zones f.lines f.days f.lo f.hi (.slice Af f.daily.length cf) f.holder)) f) := Lib.hid (Av.below H28.out hle (Nat.le_refl _))
  have H38 : Hid (ARow q5 u1.heap.size a.none a.zones a.lines a.days a.lo a.hi (.slice Aa a.daily.length ca) a.holder) := Lib.hid (Whole.below H29.out hle (Whole.lt H29.out))
  have H39 : Hid (Av q5 (fun k => k ≠ g1) (.agg (arow a.none a.zones a.lines a.days a.lo a.hi (.slice Aa a.daily.length ca) a.holder)) a) := Lib.hid (Av.below H30.out hle (Nat.le_refl _))
  have H40 : Hid (Deck g1 q5) := Lib.hid (Deck.below H31.out hle (Deck.lt H31.out))
  have H41 : Hid (CRow q5 v2.heap.size oz ol om on) := Lib.hid (Whole.below H32.out hle (Whole.lt H32.out))
  have H42 : Hid (CRow q5 v3.heap.size oz ol om on) := Lib.hid (Whole.below H33.out hle (Whole.lt H33.out))
  have H43 : Hid (CRow q5 v4.heap.size sz sl sm sn) := Lib.hid (Whole.below H34.out hle (Whole.lt H34.out))
  clear H26 H27 H28 H29 H30 H31 H32 H33 H34
  have H44 : Hid (CRow q5 v5.heap.size sz sl sm sn) := Lib.hid (by rw [hp]; exact Whole.here _ _ _)
  clear hup hle hbb
  go_upto_region 8 with fail
  rw [← hp]
  clear hp
  clear H36
  clear H37
  go_wp2_with fail
  refine (dctx g1 _ H40.out).mono ?_
  rintro e v6 ⟨cc, hcc, rfl, ht⟩
  have H45 : Hid (Below w.heap.size w v6) := Lib.hid (Below.trans H35.out (Below.mono (ht).2.1 (by omega)))
  have H46 : Hid (ARow v6 u1.heap.size a.none a.zones a.lines a.days a.lo a.hi (.slice Aa a.daily.length ca) a.holder) := Lib.hid ((ht).2.2.oth _ _ _ (by omega) H38.out)
  have H47 : Hid (Av v6 (fun k => k ≠ g1) (.agg (arow a.none a.zones a.lines a.days a.lo a.hi (.slice Aa a.daily.length ca) a.holder)) a) := Lib.hid (Av.oth H39.out (ht).2.2 (ht).2.1.size (fun k _ hk => hk))
  have H48 : Hid (Deck g1 v6) := Lib.hid ((ht).1)
  have H49 : Hid (CRow v6 v2.heap.size oz ol om on) := Lib.hid ((ht).2.2.oth _ _ _ (by omega) H41.out)
  have H50 : Hid (CRow v6 v3.heap.size oz ol om on) := Lib.hid ((ht).2.2.oth _ _ _ (by omega) H42.out)
  have H51 : Hid (CRow v6 v4.heap.size sz sl sm sn) := Lib.hid ((ht).2.2.oth _ _ _ (by omega) H43.out)
  have H52 : Hid (CRow v6 v5.heap.size sz sl sm sn) := Lib.hid ((ht).2.2.oth _ _ _ (by omega) H44.out)
  clear H35 H38 H39 H40 H41 H42 H43 H44
  have HKj : Hid (cok cc) := Lib.hid hcc
  have HLj : Hid (cc.holder.length ≤ 9223372036854775807) := Lib.hid (by have := hcc.2.2.2.2.1; omega)
  rw [cv_row]
  obtain ⟨jz, jl, jm, jn⟩ := cc
  simp only
  obtain ⟨q6, hp⟩ : ∃ p, p = v6.alloc (.cells (crow jz jl jm jn) 34) := ⟨_, rfl⟩
  have hle : Below v6.heap.size v6 q6 := by rw [hp]; exact (Below.refl _ _).alloc (Nat.le_refl _) _
  have H53 : Hid (Below w.heap.size w q6) := Lib.hid (Below.trans H45.out (Below.mono hle (Below.size H45.out)))
  have H54 : Hid (ARow q6 u1.heap.size a.none a.zones a.lines a.days a.lo a.hi (.slice Aa a.daily.length ca) a.holder) := Lib.hid (Whole.below H46.out hle (Whole.lt H46.out))
  have H55 : Hid (Av q6 (fun k => k ≠ g1) (.agg (arow a.none a.zones a.lines a.days a.lo a.hi (.slice Aa a.daily.length ca) a.holder)) a) := Lib.hid (Av.below H47.out hle (Nat.le_refl _))
  have H56 : Hid (Deck g1 q6) := Lib.hid (Deck.below H48.out hle (Deck.lt H48.out))
  have H57 : Hid (CRow q6 v2.heap.size oz ol om on) := Lib.hid (Whole.below H49.out hle (Whole.lt H49.out))
  have H58 : Hid (CRow q6 v3.heap.size oz ol om on) := Lib.hid (Whole.below H50.out hle (Whole.lt H50.out))
  have H59 : Hid (CRow q6 v4.heap.size sz sl sm sn) := Lib.hid (Whole.below H51.out hle (Whole.lt H51.out))
  have H60 : Hid (CRow q6 v5.heap.size sz sl sm sn) := Lib.hid (Whole.below H52.out hle (Whole.lt H52.out))
  clear H45 H46 H47 H48 H49 H50 H51 H52
  have H61 : Hid (CRow q6 v6.heap.size jz jl jm jn) := Lib.hid (by rw [hp]; exact Whole.here _ _ _)
  clear hcc ht hle
  go_upto_region 9 with fail
  rw [← hp]
  clear hp
  obtain ⟨Va, hVa⟩ : ∃ v, decide (aok a ∧ cok ⟨jz, jl, jm, jn⟩ ∧ ina a ⟨jz, jl, jm, jn⟩) = v := ⟨_, rfl⟩
  have HVa := Lib.hid hVa
  have hne1 := fun W => run_neq_ctx oz ol om on W
  have hne2 := fun W => run_neq_ctx sz sl sm sn W
  clear hVa
  obtain ⟨ko0, ko1, ko2, ko3⟩ := CRow.cells H57.out
  obtain ⟨kp0, kp1, kp2, kp3⟩ := CRow.cells H58.out
  obtain ⟨ks0, ks1, ks2, ks3⟩ := CRow.cells H59.out
  obtain ⟨kt0, kt1, kt2, kt3⟩ := CRow.cells H60.out
  have eks : (oks != oks) = false := by simp
  have eko : (oko != oko) = false := by simp
  cases oko
  · skip
    go_upto_region 11 with fail
    clear ko0 ko1 ko2 ko3 kp0 kp1 kp2 kp3 ks0 ks1 ks2 ks3 kt0 kt1 kt2 kt3
    obtain ⟨ka0, ka1, ka2, ka3, ka4, ka5, ka6, ka7⟩ := ARow.cells (Whole.below H54.out (Below.refl _ _) (Whole.lt H54.out))
    obtain ⟨kj0, kj1, kj2, kj3⟩ := CRow.cells (Whole.below H61.out (Below.refl _ _) (Whole.lt H61.out))
    have hcl := law_con (Below.refl _ _) (Av.below H55.out (Below.refl _ _) (Nat.le_refl _)) HLj.out HVa.out
    go_wp2_with fail
    refine hcl.mono ?_
    rintro e y11 ⟨rfl, b11, -⟩
    clear hcl ka0 ka1 ka2 ka3 ka4 ka5 ka6 ka7 kj0 kj1 kj2 kj3
    cases Va
    · skip
      have hcl := law_cawk b11 (Tab.below (Tab.below HT.out H53.out (Nat.le_refl _)) b11 (Nat.le_refl _))
      go_wp2_with fail
      refine hcl.mono ?_
      rintro e y12 ⟨rfl, b12⟩
      clear hcl 
      have HG := Lib.hid (Below.trans H53.out (Below.mono b12 (Below.size H53.out)))
      go_wp2
      go_ret
      exact ⟨rfl, HG.out⟩
    · skip
      exact absurd (of_decide_eq_true HVa.out).2.2 (LeastR.false HWo.out (of_decide_eq_true HVa.out).1 _)
  · skip
    have HX := Lib.hid (least_in HWo.out)
    have HLo : Hid (on.length ≤ 9223372036854775807) := Lib.hid (by have := (LeastR.true HWo.out).2.1.2.2.2.2.1; simp only at this; omega)
    obtain ⟨ka0, ka1, ka2, ka3, ka4, ka5, ka6, ka7⟩ := ARow.cells H54.out
    have hcl := law_con (Below.refl _ _) (Av.below H55.out (Below.refl _ _) (Nat.le_refl _)) HLo.out HX.out
    go_wp2_with fail
    refine hcl.mono ?_
    rintro e y10 ⟨rfl, b10, -⟩
    clear hcl ka0 ka1 ka2 ka3 ka4 ka5 ka6 ka7 ko0 ko1 ko2 ko3 kp0 kp1 kp2 kp3 ks0 ks1 ks2 ks3 kt0 kt1 kt2 kt3
    go_upto_region 11 with fail
    obtain ⟨ka0, ka1, ka2, ka3, ka4, ka5, ka6, ka7⟩ := ARow.cells (Whole.below H54.out b10 (Whole.lt H54.out))
    obtain ⟨kj0, kj1, kj2, kj3⟩ := CRow.cells (Whole.below H61.out b10 (Whole.lt H61.out))
    have hcl := law_con b10 (Av.below H55.out b10 (Nat.le_refl _)) HLj.out HVa.out
    go_wp2_with fail
    refine hcl.mono ?_
    rintro e y11 ⟨rfl, b11, -⟩
    clear hcl ka0 ka1 ka2 ka3 ka4 ka5 ka6 ka7 kj0 kj1 kj2 kj3
    cases Va
    · skip
      have hcl := law_cawk b11 (Tab.below (Tab.below HT.out H53.out (Nat.le_refl _)) b11 (Nat.le_refl _))
      go_wp2_with fail
      refine hcl.mono ?_
      rintro e y12 ⟨rfl, b12⟩
      clear hcl 
      have HG := Lib.hid (Below.trans H53.out (Below.mono b12 (Below.size H53.out)))
      go_wp2
      go_ret
      exact ⟨rfl, HG.out⟩
    · skip
      have hle : oz ≤ jz := (LeastR.true HWo.out).2.2.2 _ (of_decide_eq_true HVa.out).2.1 (of_decide_eq_true HVa.out).2.2
      obtain ⟨ko0, ko1, ko2, ko3⟩ := CRow.cells (Whole.below H57.out b11 (Whole.lt H57.out))
      obtain ⟨kj0, kj1, kj2, kj3⟩ := CRow.cells (Whole.below H61.out b11 (Whole.lt H61.out))
      have hcl := law_cawk b11 (Tab.below (Tab.below HT.out H53.out (Nat.le_refl _)) b11 (Nat.le_refl _))
      go_wp2_with fail
      refine hcl.mono ?_
      rintro e y12 ⟨rfl, b12⟩
      clear hcl 
      have HG := Lib.hid (Below.trans H53.out (Below.mono b12 (Below.size H53.out)))
      go_wp2
      go_ret
      exact ⟨rfl, HG.out⟩
end Go.Proofs.YtedjbjplnjnnlaaDoor
