/-
  The law ContainFirst.
-/
import Derived.Test.YtedjbjplnjnnlaaDoorPk32
import Derived.Test.YtedjbjplnjnnlaaDoorPk35
import Derived.Test.YtedjbjplnjnnlaaDoorPk20
import Derived.Test.YtedjbjplnjnnlaaDoorPk8
namespace Go.Proofs.YtedjbjplnjnnlaaDoor
open Go Go.RowKit Sh Leaf

theorem one_less {x y : B8} (h : x.toNat < y.toNat) : Op.bytesLess [UInt8.ofBitVec x] [UInt8.ofBitVec y] = true := by
  have e : UInt8.ofBitVec x < UInt8.ofBitVec y := h
  simp [Op.bytesLess, e]
theorem cle_cases {z l m z' l' m' : Int} {n n' : List B8} (h : cle ⟨z, l, m, n⟩ ⟨z', l', m', n'⟩) : ((z != z') = true ∧ z < z') ∨ (z = z' ∧ (((l != l') = true ∧ l < l') ∨ (l = l' ∧ (((m != m') = true ∧ m < m') ∨ (m = m' ∧ (((((sof n).size : Int) != ((sof n').size : Int)) = true ∧ ¬ ((((sof n).size : Int) != ((sof n').size : Int)) = false) ∧ (sof n).size < (sof n').size) ∨ n = n' ∨ ((((sof n).size : Int) != ((sof n').size : Int)) = false ∧ ¬ ((((sof n).size : Int) != ((sof n').size : Int)) = true) ∧ (Op.bytesLess (sof n).toList (sof n').toList = true ∨ (sof n).toList = (sof n').toList)))))))) := by
  rcases h with h | ⟨h, h0⟩
  · exact .inl ⟨by simp only [bne_iff_ne, ne_eq]; simp only at h; omega, h⟩
  · refine .inr ⟨h, ?_⟩
    rcases h0 with h | ⟨h, h0⟩
    · exact .inl ⟨by simp only [bne_iff_ne, ne_eq]; simp only at h; omega, h⟩
    · refine .inr ⟨h, ?_⟩
      rcases h0 with h | ⟨h, h0⟩
      · exact .inl ⟨by simp only [bne_iff_ne, ne_eq]; simp only at h; omega, h⟩
      · refine .inr ⟨h, ?_⟩
        rcases h0 with h | h | ⟨x, y, h, k, h1⟩
        · simp only at h
          have e : (((sof n).size : Int) != ((sof n').size : Int)) = true := by rw [sof_size, sof_size]; simp only [bne_iff_ne, ne_eq]; omega
          exact .inl ⟨e, by rw [e]; simp, by rw [sof_size, sof_size]; exact h⟩
        · exact .inr (.inl h)
        · simp only at h k
          subst h k
          have e : (((sof [x]).size : Int) != ((sof [y]).size : Int)) = false := by rw [sof_size, sof_size]; rfl
          exact .inr (.inr ⟨e, by rw [e]; simp, .inl (by rw [sof_toList, sof_toList]; exact one_less h1)⟩)
theorem first_wit {a b : Aut} {c d : Ctx} {ok : Bool} (ha : aok a) (hb : aok b) (h : aok a ∧ cok d ∧ ina a d) (k : ¬ (aok b ∧ cok d ∧ ina b d)) (hw : WitR a b c ok) : ok = true ∧ cle c d := by
  rcases wit_main hw ha hb with ⟨h1, h2⟩ | ⟨_, _, h2⟩
  · exact ⟨h1, h2.2.2.2 d h.2.1 h.2.2 fun hd => k ⟨hb, h.2.1, hd⟩⟩
  · exact absurd ⟨hb, h.2.1, h2 d h.2.1 h.2.2⟩ k
set_option linter.unusedSimpArgs false in
set_option linter.unusedVariables false in
set_option maxRecDepth 100000 in
set_option maxHeartbeats 8000000 in
theorem cfirst_law (A0 : Option Addr) (l0 : List Int) (c0 : Nat) (A1 : Option Addr) (l1 : List Int) (c1 : Nat) (w : World) (hT : Tab w) (hI0 : Ints w (fun b => b < w.heap.size) A0 c0 l0) (hI1 : Ints w (fun b => b < w.heap.size) A1 c1 l1) :
    Calls Tryd.prog 7 #[.slice A0 l0.length c0, .slice A1 l1.length c1] w fun e w' => e = .returned (.bool true) ∧ Below w.heap.size w w' := by
  obtain ⟨n0, hn0⟩ : ∃ n, n = l0.length := ⟨_, rfl⟩
  obtain ⟨n1, hn1⟩ : ∃ n, n = l1.length := ⟨_, rfl⟩
  rw [← hn0, ← hn1]
  have HT := Lib.hid hT
  have HI0 := Lib.hid hI0
  have HI1 := Lib.hid hI1
  have HN0 := Lib.hid hn0
  have HN1 := Lib.hid hn1
  clear hI0 hI1 hn0 hn1 hT
  go_enter Tryd.func7, Tryd.ntmps7
  have H0 : Hid (Below w.heap.size w w) := Lib.hid (Below.refl _ _)
  have hmd := cmade A0 l0 c0 w ((HI0.out.below H0.out).mono (Below.size H0.out))
  rw [← HN0.out] at hmd
  go_wp2_with fail
  refine hmd.mono ?_
  rintro e u1 ⟨⟨xx, yy, a, b, g1, rfl, hx, hy, ha, hb, hdk, hgl⟩, hbl⟩
  obtain ⟨Aa, ca, rfl, hSa, haa⟩ := hx
  obtain ⟨Ab, cb, rfl, hSb, hbb⟩ := hy
  obtain ⟨p1, hp⟩ : ∃ p, p = (u1.alloc (.cells (avl a Aa ca) 25)).alloc (.cells (avl b Ab cb) 25) := ⟨_, rfl⟩
  have hup : Below u1.heap.size u1 p1 := by rw [hp]; exact ab_below _ _ _
  have hle : Below w.heap.size w p1 := hbl.trans (hup.mono hbl.size)
  have hgu1 : g1 < u1.heap.size := hdk.lt
  have hgw1 : w.heap.size ≤ g1 := hgl
  have H1 : Hid (Below w.heap.size w p1) := Lib.hid (Below.trans H0.out (Below.mono hle (Below.size H0.out)))
  clear H0
  have H2 : Hid (ARow p1 u1.heap.size a.none a.zones a.lines a.days a.lo a.hi (.slice Aa a.daily.length ca) a.holder) := Lib.hid (by rw [hp]; exact (Whole.here _ _ _).alloc _)
  have H3 : Hid (ARow p1 (u1.heap.size + 1) b.none b.zones b.lines b.days b.lo b.hi (.slice Ab b.daily.length cb) b.holder) := Lib.hid (by rw [hp]; exact Whole.at_ _ _ _ _ (by simp))
  have H4 : Hid (Av p1 (fun k => k ≠ g1) (.agg (arow a.none a.zones a.lines a.days a.lo a.hi (.slice Aa a.daily.length ca) a.holder)) a) := Lib.hid (⟨Aa, ca, rfl, (hSa.below hup (Nat.le_refl _)).mono fun k _ hk => hk.2, haa⟩)
  have H5 : Hid (Av p1 (fun k => k ≠ g1) (.agg (arow b.none b.zones b.lines b.days b.lo b.hi (.slice Ab b.daily.length cb) b.holder)) b) := Lib.hid (⟨Ab, cb, rfl, (hSb.below hup (Nat.le_refl _)).mono fun k _ hk => hk.2, hbb⟩)
  have HKa : Hid (aok a) := Lib.hid ha
  have HKb : Hid (aok b) := Lib.hid hb
  clear hmd hSa hSb haa hbb ha hb hdk hgl hbl hup hle
  go_upto_region 2 with fail
  rw [← hp]
  clear hp
  have hdn := dnew A1 _ c1 l1 p1 HN1.out ((HI1.out.below H1.out).mono (Below.size H1.out))
  go_wp2_with fail
  refine hdn.mono ?_
  rintro e t3 ⟨rfl, hk, hb1⟩
  have hcx := dctx _ _ hk
  clear hdn
  go_wp2_with fail
  refine hcx.mono ?_
  rintro e v3 ⟨cc, hcc, rfl, ht⟩
  have hle0 : Below p1.heap.size p1 v3 := hb1.trans ht.2.1
  have H6 : Hid (Below w.heap.size w v3) := Lib.hid (Below.trans H1.out (Below.mono hle0 (Below.size H1.out)))
  have H7 : Hid (ARow v3 u1.heap.size a.none a.zones a.lines a.days a.lo a.hi (.slice Aa a.daily.length ca) a.holder) := Lib.hid (Whole.below H2.out hle0 (Whole.lt H2.out))
  have H8 : Hid (ARow v3 (u1.heap.size + 1) b.none b.zones b.lines b.days b.lo b.hi (.slice Ab b.daily.length cb) b.holder) := Lib.hid (Whole.below H3.out hle0 (Whole.lt H3.out))
  have H9 : Hid (Av v3 (fun k => k ≠ g1) (.agg (arow a.none a.zones a.lines a.days a.lo a.hi (.slice Aa a.daily.length ca) a.holder)) a) := Lib.hid (Av.below H4.out hle0 (Nat.le_refl _))
  have H10 : Hid (Av v3 (fun k => k ≠ g1) (.agg (arow b.none b.zones b.lines b.days b.lo b.hi (.slice Ab b.daily.length cb) b.holder)) b) := Lib.hid (Av.below H5.out hle0 (Nat.le_refl _))
  clear H1 H2 H3 H4 H5
  have HKj : Hid (cok cc) := Lib.hid hcc
  have HLj : Hid (cc.holder.length ≤ 9223372036854775807) := Lib.hid (by have := hcc.2.2.2.2.1; omega)
  rw [cv_row]
  obtain ⟨jz, jl, jm, jn⟩ := cc
  simp only
  obtain ⟨q3, hp⟩ : ∃ p, p = v3.alloc (.cells (crow jz jl jm jn) 34) := ⟨_, rfl⟩
  have hle : Below v3.heap.size v3 q3 := by rw [hp]; exact (Below.refl _ _).alloc (Nat.le_refl _) _
  have H11 : Hid (Below w.heap.size w q3) := Lib.hid (Below.trans H6.out (Below.mono hle (Below.size H6.out)))
  have H12 : Hid (ARow q3 u1.heap.size a.none a.zones a.lines a.days a.lo a.hi (.slice Aa a.daily.length ca) a.holder) := Lib.hid (Whole.below H7.out hle (Whole.lt H7.out))
  have H13 : Hid (ARow q3 (u1.heap.size + 1) b.none b.zones b.lines b.days b.lo b.hi (.slice Ab b.daily.length cb) b.holder) := Lib.hid (Whole.below H8.out hle (Whole.lt H8.out))
  have H14 : Hid (Av q3 (fun k => k ≠ g1) (.agg (arow a.none a.zones a.lines a.days a.lo a.hi (.slice Aa a.daily.length ca) a.holder)) a) := Lib.hid (Av.below H9.out hle (Nat.le_refl _))
  have H15 : Hid (Av q3 (fun k => k ≠ g1) (.agg (arow b.none b.zones b.lines b.days b.lo b.hi (.slice Ab b.daily.length cb) b.holder)) b) := Lib.hid (Av.below H10.out hle (Nat.le_refl _))
  clear H6 H7 H8 H9 H10
  have H16 : Hid (CRow q3 v3.heap.size jz jl jm jn) := Lib.hid (by rw [hp]; exact Whole.here _ _ _)
  clear hcc ht hle hle0 hk hb1 hcx
  go_upto_region 3 with fail
  rw [← hp]
  clear hp
  obtain ⟨Va, hVa⟩ : ∃ v, decide (aok a ∧ cok ⟨jz, jl, jm, jn⟩ ∧ ina a ⟨jz, jl, jm, jn⟩) = v := ⟨_, rfl⟩
  obtain ⟨Vb, hVb⟩ : ∃ v, decide (aok b ∧ cok ⟨jz, jl, jm, jn⟩ ∧ ina b ⟨jz, jl, jm, jn⟩) = v := ⟨_, rfl⟩
  have HVa := Lib.hid hVa
  have HVb := Lib.hid hVb
  clear hVa hVb
  obtain ⟨ka0, ka1, ka2, ka3, ka4, ka5, ka6, ka7⟩ := ARow.cells (Whole.below H12.out (Below.refl _ _) (Whole.lt H12.out))
  obtain ⟨kj0, kj1, kj2, kj3⟩ := CRow.cells (Whole.below H16.out (Below.refl _ _) (Whole.lt H16.out))
  have hcl := law_con (Below.refl _ _) (Av.below H14.out (Below.refl _ _) (Nat.le_refl _)) HLj.out HVa.out
  go_wp2_with fail
  refine hcl.mono ?_
  rintro e y11 ⟨rfl, b11, -⟩
  clear hcl ka0 ka1 ka2 ka3 ka4 ka5 ka6 ka7 kj0 kj1 kj2 kj3
  cases Va
  · skip
    have hcl := law_cawk b11 (Tab.below (Tab.below HT.out H11.out (Nat.le_refl _)) b11 (Nat.le_refl _))
    go_wp2_with fail
    refine hcl.mono ?_
    rintro e y13 ⟨rfl, b13⟩
    clear hcl 
    have HG := Lib.hid (Below.trans H11.out (Below.mono b13 (Below.size H11.out)))
    go_wp2
    go_ret
    exact ⟨rfl, HG.out⟩
  · skip
    obtain ⟨kb0, kb1, kb2, kb3, kb4, kb5, kb6, kb7⟩ := ARow.cells (Whole.below H13.out b11 (Whole.lt H13.out))
    obtain ⟨kj0, kj1, kj2, kj3⟩ := CRow.cells (Whole.below H16.out b11 (Whole.lt H16.out))
    have hcl := law_con b11 (Av.below H15.out b11 (Nat.le_refl _)) HLj.out HVb.out
    go_wp2_with fail
    refine hcl.mono ?_
    rintro e y12 ⟨rfl, b12, -⟩
    clear hcl kb0 kb1 kb2 kb3 kb4 kb5 kb6 kb7 kj0 kj1 kj2 kj3
    cases Vb
    · skip
      have H17 : Hid (Below w.heap.size w y12) := Lib.hid (Below.trans H11.out (Below.mono b12 (Below.size H11.out)))
      have H18 : Hid (ARow y12 u1.heap.size a.none a.zones a.lines a.days a.lo a.hi (.slice Aa a.daily.length ca) a.holder) := Lib.hid (Whole.below H12.out b12 (Whole.lt H12.out))
      have H19 : Hid (ARow y12 (u1.heap.size + 1) b.none b.zones b.lines b.days b.lo b.hi (.slice Ab b.daily.length cb) b.holder) := Lib.hid (Whole.below H13.out b12 (Whole.lt H13.out))
      have H20 : Hid (Av y12 (fun k => k ≠ g1) (.agg (arow a.none a.zones a.lines a.days a.lo a.hi (.slice Aa a.daily.length ca) a.holder)) a) := Lib.hid (Av.below H14.out b12 (Nat.le_refl _))
      have H21 : Hid (Av y12 (fun k => k ≠ g1) (.agg (arow b.none b.zones b.lines b.days b.lo b.hi (.slice Ab b.daily.length cb) b.holder)) b) := Lib.hid (Av.below H15.out b12 (Nat.le_refl _))
      have H22 : Hid (CRow y12 v3.heap.size jz jl jm jn) := Lib.hid (Whole.below H16.out b12 (Whole.lt H16.out))
      clear H11 H12 H13 H14 H15 H16
      clear b11 b12
      go_upto_region 5 with fail
      obtain ⟨ka0, ka1, ka2, ka3, ka4, ka5, ka6, ka7⟩ := ARow.cells H18.out
      obtain ⟨kb0, kb1, kb2, kb3, kb4, kb5, kb6, kb7⟩ := ARow.cells H19.out
      have hcw := cWitness (Tab.below HT.out H17.out (Nat.le_refl _)) H20.out H21.out
      go_wp2_with fail
      refine hcw.mono ?_
      rintro e u2 ⟨⟨oz, ol, om, on, oko, rfl, hWo⟩, hbb⟩
      clear hcw ka0 ka1 ka2 ka3 ka4 ka5 ka6 ka7 kb0 kb1 kb2 kb3 kb4 kb5 kb6 kb7
      obtain ⟨qu2, hp⟩ : ∃ p, p = u2.alloc (.cells (crow oz ol om on) 34) := ⟨_, rfl⟩
      have hup : Below u2.heap.size u2 qu2 := by rw [hp]; exact (Below.refl _ _).alloc (Nat.le_refl _) _
      have hle := Below.trans hbb (Below.mono hup (Below.size hbb))
      have H23 : Hid (Below w.heap.size w qu2) := Lib.hid (Below.trans H17.out (Below.mono hle (Below.size H17.out)))
      have H24 : Hid (ARow qu2 u1.heap.size a.none a.zones a.lines a.days a.lo a.hi (.slice Aa a.daily.length ca) a.holder) := Lib.hid (Whole.below H18.out hle (Whole.lt H18.out))
      have H25 : Hid (ARow qu2 (u1.heap.size + 1) b.none b.zones b.lines b.days b.lo b.hi (.slice Ab b.daily.length cb) b.holder) := Lib.hid (Whole.below H19.out hle (Whole.lt H19.out))
      have H26 : Hid (Av qu2 (fun k => k ≠ g1) (.agg (arow a.none a.zones a.lines a.days a.lo a.hi (.slice Aa a.daily.length ca) a.holder)) a) := Lib.hid (Av.below H20.out hle (Nat.le_refl _))
      have H27 : Hid (Av qu2 (fun k => k ≠ g1) (.agg (arow b.none b.zones b.lines b.days b.lo b.hi (.slice Ab b.daily.length cb) b.holder)) b) := Lib.hid (Av.below H21.out hle (Nat.le_refl _))
      have H28 : Hid (CRow qu2 v3.heap.size jz jl jm jn) := Lib.hid (Whole.below H22.out hle (Whole.lt H22.out))
      clear H17 H18 H19 H20 H21 H22
      have H29 : Hid (CRow qu2 u2.heap.size oz ol om on) := Lib.hid (by rw [hp]; exact Whole.here _ _ _)
      clear hup hle hbb
      go_upto_region 6 with fail
      rw [← hp]
      clear hp
      have hfst := first_wit HKa.out HKb.out (of_decide_eq_true HVa.out) (of_decide_eq_false HVb.out) hWo
      clear hWo
      obtain ⟨rfl, hcle⟩ := hfst
      obtain ⟨ko0, ko1, ko2, ko3⟩ := CRow.cells (Whole.below H29.out (Below.refl _ _) (Whole.lt H29.out))
      obtain ⟨kj0, kj1, kj2, kj3⟩ := CRow.cells (Whole.below H28.out (Below.refl _ _) (Whole.lt H28.out))
      have hcl := law_cawk (Below.refl _ _) (Tab.below (Tab.below HT.out H23.out (Nat.le_refl _)) (Below.refl _ _) (Nat.le_refl _))
      rcases cle_cases hcle with ⟨h1, h2⟩ | ⟨rfl, ⟨h1, h2⟩ | ⟨rfl, ⟨h1, h2⟩ | ⟨rfl, ⟨h1, h2, h3⟩ | rfl | ⟨h1, h2, h3⟩⟩⟩⟩
      all_goals clear hcle
      · skip
        go_wp2_with fail
        all_goals first | contradiction | (refine hcl.mono ?_; rintro e y30 ⟨rfl, b30⟩; clear hcl; have HG := Lib.hid (Below.trans H23.out (Below.mono b30 (Below.size H23.out))); go_wp2; go_ret; exact ⟨rfl, HG.out⟩)
      · skip
        go_wp2_with fail
        all_goals first | contradiction | (refine hcl.mono ?_; rintro e y30 ⟨rfl, b30⟩; clear hcl; have HG := Lib.hid (Below.trans H23.out (Below.mono b30 (Below.size H23.out))); go_wp2; go_ret; exact ⟨rfl, HG.out⟩)
      · skip
        go_wp2_with fail
        all_goals first | contradiction | (refine hcl.mono ?_; rintro e y30 ⟨rfl, b30⟩; clear hcl; have HG := Lib.hid (Below.trans H23.out (Below.mono b30 (Below.size H23.out))); go_wp2; go_ret; exact ⟨rfl, HG.out⟩)
      · skip
        go_wp2_with fail
        all_goals first | contradiction | (refine hcl.mono ?_; rintro e y30 ⟨rfl, b30⟩; clear hcl; have HG := Lib.hid (Below.trans H23.out (Below.mono b30 (Below.size H23.out))); go_wp2; go_ret; exact ⟨rfl, HG.out⟩)
      · skip
        go_wp2_with fail
        all_goals first | contradiction | (refine hcl.mono ?_; rintro e y30 ⟨rfl, b30⟩; clear hcl; have HG := Lib.hid (Below.trans H23.out (Below.mono b30 (Below.size H23.out))); go_wp2; go_ret; exact ⟨rfl, HG.out⟩)
      · skip
        have h4 : (Op.bytesLess (sof on).toList (sof jn).toList || (sof on).toList == (sof jn).toList) = true := by
          rcases h3 with h3 | h3
          · rw [h3]; rfl
          · rw [h3]; simp
        go_wp2_with fail
        all_goals first | contradiction | (refine hcl.mono ?_; rintro e y30 ⟨rfl, b30⟩; clear hcl; have HG := Lib.hid (Below.trans H23.out (Below.mono b30 (Below.size H23.out))); go_wp2; go_ret; have h5 := h4; rw [← h4]; exact ⟨rfl, HG.out⟩)
    · skip
      have hcl := law_cawk b12 (Tab.below (Tab.below HT.out H11.out (Nat.le_refl _)) b12 (Nat.le_refl _))
      go_wp2_with fail
      refine hcl.mono ?_
      rintro e y13 ⟨rfl, b13⟩
      clear hcl 
      have HG := Lib.hid (Below.trans H11.out (Below.mono b13 (Below.size H11.out)))
      go_wp2
      go_ret
      exact ⟨rfl, HG.out⟩
end Go.Proofs.YtedjbjplnjnnlaaDoor
