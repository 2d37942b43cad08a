/-
  The law AuthorityContains.
-/
import Derived.Deep.RegionHeld3
import Derived.Test.YtedjbjplnjnnlaaPk23
import Derived.Test.YtedjbjplnjnnlaaPk32
import Derived.Test.YtedjbjplnjnnlaaPk35
import Derived.Test.YtedjbjplnjnnlaaPk38
import Derived.Test.YtedjbjplnjnnlaaPk39
import Derived.Test.YtedjbjplnjnnlaaPk43
namespace Go.Proofs.Ytedjbjplnjnnlaa
open Go Go.RowKit Sh Leaf

set_option linter.unusedSimpArgs false in
set_option linter.unusedVariables false in
set_option maxRecDepth 100000 in
set_option maxHeartbeats 8000000 in
theorem acon_law {x : Value} {f : Aut} (y : Ctx) (hy : y.holder.length ≤ 9223372036854775807) (A1 : Option Addr) (l1 : List Int) (c1 : Nat) (A2 : Option Addr) (l2 : List Int) (c2 : Nat) (w : World) (hx : Av w (fun _ => True) x f) (hI1 : Ints w (fun b => b < w.heap.size) A1 c1 l1) (hI2 : Ints w (fun b => b < w.heap.size) A2 c2 l2) :
    Calls Try.prog 5 #[x, cv y, .slice A1 l1.length c1, .slice A2 l2.length c2] w fun e w' => e = .returned (.bool true) ∧ Below w.heap.size w w' := by
  rw [cv_row]
  obtain ⟨oz, ol, om, on⟩ := y
  simp only at hy ⊢
  obtain ⟨n1, hn1⟩ : ∃ n, n = l1.length := ⟨_, rfl⟩
  obtain ⟨n2, hn2⟩ : ∃ n, n = l2.length := ⟨_, rfl⟩
  rw [← hn1, ← hn2]
  have HI1 := Lib.hid hI1
  have HI2 := Lib.hid hI2
  have HN1 := Lib.hid hn1
  have HN2 := Lib.hid hn2
  have HLo := Lib.hid hy
  obtain ⟨Af, cf, rfl, hSf, hff⟩ := hx
  obtain ⟨p0, hp⟩ : ∃ p, p = (w.alloc (.cells (avl f Af cf) 25)).alloc (.cells (crow oz ol om on) 46) := ⟨_, rfl⟩
  have hb0 : Below w.heap.size w p0 := by rw [hp]; exact ab_below _ _ _
  clear hI1 hI2 hn1 hn2 hy
  go_enter Try.func5, Try.ntmps5
  go_upto_region 1 with fail
  rw [← hp]
  have H0 : Hid (Below w.heap.size w p0) := Lib.hid (hb0)
  have H1 : Hid (ARow p0 w.heap.size f.none f.zones f.lines f.days f.lo f.hi (.slice Af f.daily.length cf) f.holder) := Lib.hid (by rw [hp]; exact (Whole.here _ _ _).alloc _)
  have H2 : Hid (CRow p0 (w.heap.size + 1) oz ol om on) := Lib.hid (by rw [hp]; exact Whole.at_ _ _ _ _ (by simp))
  have H3 : Hid (Av p0 (fun k => k < w.heap.size) (.agg (arow f.none f.zones f.lines f.days f.lo f.hi (.slice Af f.daily.length cf) f.holder)) f) := Lib.hid (⟨Af, cf, rfl, (hSf.mono fun _ hb _ => hb).below hb0 (Nat.le_refl _), hff⟩)
  clear hSf hff hp
  have hp0 : w.heap.size ≤ p0.heap.size := Below.size hb0
  clear hb0
  obtain ⟨n, hn⟩ : ∃ n, n = f.daily.length := ⟨_, rfl⟩
  by_cases h60 : (60 : Int) < (n : Int)
  · obtain ⟨k0, k1, k2, k3, k4, k5, k6, k7⟩ := ARow.cells H1.out
    rw [← hn] at k6
    go_wp2_with fail
    refine (aawake _).mono ?_
    rintro e w1 ⟨rfl, hb⟩
    have HB := Lib.hid (Below.trans H0.out (Below.mono hb (Below.size H0.out)))
    clear hb k0 k1 k2 k3 k4 k5 k6 k7
    go_wp2
    go_ret
    exact ⟨rfl, HB.out⟩
  obtain ⟨k0, k1, k2, k3, k4, k5, k6, k7⟩ := ARow.cells H1.out
  rw [← hn] at k6
  go_upto_region 3 with fail
  clear k0 k1 k2 k3 k4 k5 k6 k7 h60 hn
  have hw1 : w.heap.size < p0.heap.size := Whole.lt H1.out
  have hw2 : w.heap.size + 1 < p0.heap.size := Whole.lt H2.out
  have hmd := amade rofc_ A1 l1 c1 p0 ((HI1.out.below H0.out).mono (Below.size H0.out))
  rw [← HN1.out] at hmd
  go_wp2_with fail
  refine hmd.mono ?_
  rintro e u1 ⟨⟨xx, yy, a, b, g1, rfl, hx, hy, ha, hb, hdk, hgl⟩, hbl⟩
  obtain ⟨Aa, ca, rfl, hSa, haa⟩ := hx
  obtain ⟨Ab, cb, rfl, hSb, hbb⟩ := hy
  obtain ⟨p1, hp⟩ : ∃ p, p = (u1.alloc (.cells (avl a Aa ca) 25)).alloc (.cells (avl b Ab cb) 25) := ⟨_, rfl⟩
  have hup : Below u1.heap.size u1 p1 := by rw [hp]; exact ab_below _ _ _
  have hle : Below p0.heap.size p0 p1 := hbl.trans (hup.mono hbl.size)
  have hgu1 : g1 < u1.heap.size := hdk.lt
  have hgw1 : p0.heap.size ≤ g1 := hgl
  have H4 : Hid (Below w.heap.size w p1) := Lib.hid (Below.trans H0.out (Below.mono hle (Below.size H0.out)))
  have H5 : Hid (ARow p1 w.heap.size f.none f.zones f.lines f.days f.lo f.hi (.slice Af f.daily.length cf) f.holder) := Lib.hid (Whole.below H1.out hle (Whole.lt H1.out))
  have H6 : Hid (CRow p1 (w.heap.size + 1) oz ol om on) := Lib.hid (Whole.below H2.out hle (Whole.lt H2.out))
  have H7 : Hid (Av p1 (fun k => k < w.heap.size) (.agg (arow f.none f.zones f.lines f.days f.lo f.hi (.slice Af f.daily.length cf) f.holder)) f) := Lib.hid (Av.below H3.out hle (Nat.le_refl _))
  clear H0 H1 H2 H3
  have H8 : Hid (ARow p1 u1.heap.size a.none a.zones a.lines a.days a.lo a.hi (.slice Aa a.daily.length ca) a.holder) := Lib.hid (by rw [hp]; exact (Whole.here _ _ _).alloc _)
  have H9 : Hid (ARow p1 (u1.heap.size + 1) b.none b.zones b.lines b.days b.lo b.hi (.slice Ab b.daily.length cb) b.holder) := Lib.hid (by rw [hp]; exact Whole.at_ _ _ _ _ (by simp))
  have H10 : Hid (Av p1 (fun k => k ≠ g1) (.agg (arow a.none a.zones a.lines a.days a.lo a.hi (.slice Aa a.daily.length ca) a.holder)) a) := Lib.hid (⟨Aa, ca, rfl, (hSa.below hup (Nat.le_refl _)).mono fun k _ hk => hk.2, haa⟩)
  have H11 : Hid (Av p1 (fun k => k ≠ g1) (.agg (arow b.none b.zones b.lines b.days b.lo b.hi (.slice Ab b.daily.length cb) b.holder)) b) := Lib.hid (⟨Ab, cb, rfl, (hSb.below hup (Nat.le_refl _)).mono fun k _ hk => hk.2, hbb⟩)
  have H12 : Hid (Deck g1 p1) := Lib.hid (hdk.below hup hgu1)
  have HKa : Hid (aok a) := Lib.hid ha
  have HKb : Hid (aok b) := Lib.hid hb
  clear hmd hSa hSb haa hbb ha hb hdk hgl hbl hup hle
  go_upto_region 4 with fail
  rw [← hp]
  clear hp
  have hw0 : w.heap.size ≤ g1 := Nat.le_trans hp0 hgw1
  have hwg : w.heap.size ≠ g1 := by omega
  go_wp2_with fail
  refine (dctx g1 _ H12.out).mono ?_
  rintro e v1 ⟨cc, hcc, rfl, ht⟩
  have H13 : Hid (Below w.heap.size w v1) := Lib.hid (Below.trans H4.out (Below.mono (ht).2.1 hw0))
  have H14 : Hid (ARow v1 w.heap.size f.none f.zones f.lines f.days f.lo f.hi (.slice Af f.daily.length cf) f.holder) := Lib.hid ((ht).2.2.oth _ _ _ (by omega) H5.out)
  have H15 : Hid (CRow v1 (w.heap.size + 1) oz ol om on) := Lib.hid ((ht).2.2.oth _ _ _ (by omega) H6.out)
  have H16 : Hid (Av v1 (fun k => k < w.heap.size) (.agg (arow f.none f.zones f.lines f.days f.lo f.hi (.slice Af f.daily.length cf) f.holder)) f) := Lib.hid (Av.oth H7.out (ht).2.2 (ht).2.1.size (fun k _ hk => (by have hk : k < w.heap.size := hk; omega)))
  have H17 : Hid (ARow v1 u1.heap.size a.none a.zones a.lines a.days a.lo a.hi (.slice Aa a.daily.length ca) a.holder) := Lib.hid ((ht).2.2.oth _ _ _ (by omega) H8.out)
  have H18 : Hid (ARow v1 (u1.heap.size + 1) b.none b.zones b.lines b.days b.lo b.hi (.slice Ab b.daily.length cb) b.holder) := Lib.hid ((ht).2.2.oth _ _ _ (by omega) H9.out)
  have H19 : Hid (Av v1 (fun k => k ≠ g1) (.agg (arow a.none a.zones a.lines a.days a.lo a.hi (.slice Aa a.daily.length ca) a.holder)) a) := Lib.hid (Av.oth H10.out (ht).2.2 (ht).2.1.size (fun k _ hk => hk))
  have H20 : Hid (Av v1 (fun k => k ≠ g1) (.agg (arow b.none b.zones b.lines b.days b.lo b.hi (.slice Ab b.daily.length cb) b.holder)) b) := Lib.hid (Av.oth H11.out (ht).2.2 (ht).2.1.size (fun k _ hk => hk))
  have H21 : Hid (Deck g1 v1) := Lib.hid ((ht).1)
  clear H4 H5 H6 H7 H8 H9 H10 H11 H12
  have HKj : Hid (cok cc) := Lib.hid hcc
  have HLj : Hid (cc.holder.length ≤ 9223372036854775807) := Lib.hid (by have := hcc.2.2.2.2.1; omega)
  rw [cv_row]
  obtain ⟨jz, jl, jm, jn⟩ := cc
  simp only
  obtain ⟨q1, hp⟩ : ∃ p, p = v1.alloc (.cells (crow jz jl jm jn) 46) := ⟨_, rfl⟩
  have hle : Below v1.heap.size v1 q1 := by rw [hp]; exact (Below.refl _ _).alloc (Nat.le_refl _) _
  have H22 : Hid (Below w.heap.size w q1) := Lib.hid (Below.trans H13.out (Below.mono hle (Below.size H13.out)))
  have H23 : Hid (ARow q1 w.heap.size f.none f.zones f.lines f.days f.lo f.hi (.slice Af f.daily.length cf) f.holder) := Lib.hid (Whole.below H14.out hle (Whole.lt H14.out))
  have H24 : Hid (CRow q1 (w.heap.size + 1) oz ol om on) := Lib.hid (Whole.below H15.out hle (Whole.lt H15.out))
  have H25 : Hid (Av q1 (fun k => k < w.heap.size) (.agg (arow f.none f.zones f.lines f.days f.lo f.hi (.slice Af f.daily.length cf) f.holder)) f) := Lib.hid (Av.below H16.out hle (Nat.le_refl _))
  have H26 : Hid (ARow q1 u1.heap.size a.none a.zones a.lines a.days a.lo a.hi (.slice Aa a.daily.length ca) a.holder) := Lib.hid (Whole.below H17.out hle (Whole.lt H17.out))
  have H27 : Hid (ARow q1 (u1.heap.size + 1) b.none b.zones b.lines b.days b.lo b.hi (.slice Ab b.daily.length cb) b.holder) := Lib.hid (Whole.below H18.out hle (Whole.lt H18.out))
  have H28 : Hid (Av q1 (fun k => k ≠ g1) (.agg (arow a.none a.zones a.lines a.days a.lo a.hi (.slice Aa a.daily.length ca) a.holder)) a) := Lib.hid (Av.below H19.out hle (Nat.le_refl _))
  have H29 : Hid (Av q1 (fun k => k ≠ g1) (.agg (arow b.none b.zones b.lines b.days b.lo b.hi (.slice Ab b.daily.length cb) b.holder)) b) := Lib.hid (Av.below H20.out hle (Nat.le_refl _))
  have H30 : Hid (Deck g1 q1) := Lib.hid (Deck.below H21.out hle (Deck.lt H21.out))
  clear H13 H14 H15 H16 H17 H18 H19 H20 H21
  have H31 : Hid (CRow q1 v1.heap.size jz jl jm jn) := Lib.hid (by rw [hp]; exact Whole.here _ _ _)
  clear hcc ht hle
  go_upto_region 5 with fail
  rw [← hp]
  clear hp
  have hcs : ∀ W, Below q1.heap.size q1 W → W.cell? ⟨u1.heap.size, 0, none⟩ = some (.bool a.none) ∧ W.cell? ⟨u1.heap.size, 1, none⟩ = some (.int .u64 (a.zones : Int)) ∧ W.cell? ⟨u1.heap.size, 2, none⟩ = some (.int .u64 (a.lines : Int)) ∧ W.cell? ⟨u1.heap.size, 3, none⟩ = some (.int .u64 (a.days : Int)) ∧ W.cell? ⟨u1.heap.size, 4, none⟩ = some (.int .i64 a.lo) ∧ W.cell? ⟨u1.heap.size, 5, none⟩ = some (.int .i64 a.hi) ∧ W.cell? ⟨u1.heap.size, 6, none⟩ = some (.slice Aa a.daily.length ca) ∧ W.cell? ⟨u1.heap.size, 7, none⟩ = some (.string (sof a.holder)) := fun W hb => ARow.cells (Whole.below H26.out hb (Whole.lt H26.out))
  have hvv := fun W (hb : Below q1.heap.size q1 W) => Av.below (Av.any H28.out) hb (Nat.le_refl _)
  have hsm := aok_small HKa.out
  have hwP : w.heap.size ≤ q1.heap.size := Below.size H22.out
  have hgr : u1.heap.size < q1.heap.size := Whole.lt H26.out
  have hIn := fun W (hb : Below q1.heap.size q1 W) => (HI2.out.below (Below.trans H22.out (Below.mono hb hwP))).mono (Nat.le_trans hwP (Below.size hb))
  have HP := Lib.hid (And.intro hcs (And.intro hvv (And.intro hsm hIn)))
  clear hcs hvv hsm hIn
  go_cut [13] (fun s wx => SplR q1 s wx)
  case first =>
    refine wp_region_held_drew (S := fun W : World => W.cell? ⟨u1.heap.size, 0, none⟩ = some (.bool a.none) ∧ W.cell? ⟨u1.heap.size, 1, none⟩ = some (.int .u64 (a.zones : Int)) ∧ W.cell? ⟨u1.heap.size, 2, none⟩ = some (.int .u64 (a.lines : Int)) ∧ W.cell? ⟨u1.heap.size, 3, none⟩ = some (.int .u64 (a.days : Int)) ∧ W.cell? ⟨u1.heap.size, 4, none⟩ = some (.int .i64 a.lo) ∧ W.cell? ⟨u1.heap.size, 5, none⟩ = some (.int .i64 a.hi) ∧ W.cell? ⟨u1.heap.size, 6, none⟩ = some (.slice Aa a.daily.length ca) ∧ W.cell? ⟨u1.heap.size, 7, none⟩ = some (.string (sof a.holder))) (by kernel_rfl) (HP.out.1 _ (Below.drew (Below.refl _ _))) (fun hHeld => ?_)
    apply wpAnyH_take (i := 0) rfl (by kernel_rfl) (by kernel_rfl) (by kernel_rfl)
    case hQ => exact fun _ _ _ h => h
    case hS => exact hHeld
    case hy => (refine Or.inl ⟨by rfl, ?_⟩; intro w hSw; go_split_ands; go_simp; (try with_reducible rfl))
    (try simp only [List.getElem_toArray, List.getElem_cons_zero, Act.put, List.setIfInBounds_toArray, List.set_cons_zero, List.set_cons_succ])
    apply wpAnyH_take (i := 1) rfl (by kernel_rfl) (by kernel_rfl) (by kernel_rfl)
    case hQ => exact fun _ _ _ h => h
    case hS => exact hHeld
    case hy => (refine Or.inl ⟨by rfl, ?_⟩; intro w hSw; go_split_ands; go_simp; (try with_reducible rfl))
    (try simp only [List.getElem_toArray, List.getElem_cons_succ, List.getElem_cons_zero, Act.put, List.setIfInBounds_toArray, List.set_cons_zero, List.set_cons_succ])
    have hb0 : Below q1.heap.size q1 q1.drew := Below.drew (Below.refl _ _)
    refine wpAnyH_ready (rs := [2, 4]) (by kernel_rfl) (by simp) ?_
    refine AllReadyH.cons rfl (fun K hK => ?_) (AllReadyH.cons rfl (fun K hK => ?_) AllReadyH.nil)
    · (try simp only [List.getElem_toArray, List.getElem_cons_succ, List.getElem_cons_zero])
      go_simp
      go_at_call 11
      refine (dnew A2 _ c2 l2 _ HN2.out (HP.out.2.2.2 _ hb0)).mono ?_
      rintro e W1 ⟨rfl, hk1, hc1⟩
      have hb1 := Below.trans hb0 (Below.mono hc1 (Below.size hb0))
      refine hK.out _ _ (HP.out.1 _ hb1) (fun hHeld => ?_)
      clear hK K
      (try simp only [List.getElem_toArray, List.getElem_cons_succ, List.getElem_cons_zero, Act.put, List.setIfInBounds_toArray, List.set_cons_zero, List.set_cons_succ])
      refine wpAnyH_ready (rs := [3, 4]) (by kernel_rfl) (by simp) ?_
      refine AllReadyH.cons rfl (fun K hK => ?_) (AllReadyH.cons rfl (fun K hK => ?_) AllReadyH.nil)
      · (try simp only [List.getElem_toArray, List.getElem_cons_succ, List.getElem_cons_zero])
        go_simp
        go_at_call 10
        refine (aspoilt hk1 (HP.out.2.1 _ hb1) (fun b _ hb => by have h1 : b < q1.heap.size := hb; have h2 := (Below.size hb0); omega) HP.out.2.2.1.1 HP.out.2.2.1.2.1 HP.out.2.2.1.2.2).mono ?_
        rintro e W2 ⟨⟨zz, m2, rfl, hm⟩, hc2, ho2⟩
        obtain ⟨A2, c2, rfl, hS2, hmm2⟩ := hm
        have hb2 := Below.trans hb1 (Below.mono hc2 (Below.size hb0))
        refine hK.out _ _ (HP.out.1 _ hb2) (fun hHeld => ?_)
        clear hK K
        (try simp only [List.getElem_toArray, List.getElem_cons_succ, List.getElem_cons_zero, Act.put, List.setIfInBounds_toArray, List.set_cons_zero, List.set_cons_succ])
        refine wpAnyH_ready (rs := [4]) (by kernel_rfl) (by simp) ?_
        refine AllReadyH.cons rfl (fun K hK => ?_) AllReadyH.nil
        · (try simp only [List.getElem_toArray, List.getElem_cons_succ, List.getElem_cons_zero])
          go_simp
          have hV3 : Whole (W2.alloc (.cells zaut 25)) W2.heap.size 25 zaut := Whole.here _ _ _
          have hb3 : Below q1.heap.size q1 (W2.alloc (.cells zaut 25)) := Below.alloc hb2 (Below.size hb2) _
          have hS3 : Spn (W2.alloc (.cells zaut 25)) (fun k => k ≠ W2.heap.size) A2 c2 m2.daily := Seq.alloc (hS2.mono fun b hb _ => Nat.ne_of_lt hb) _
          refine hK.out _ _ (HP.out.1 _ hb3) (fun hHeld => ?_)
          clear hK K
          (try simp only [List.getElem_toArray, List.getElem_cons_succ, List.getElem_cons_zero, Act.put, List.setIfInBounds_toArray, List.set_cons_zero, List.set_cons_succ])
          refine wpAnyH_ready (rs := [5]) (by kernel_rfl) (by simp) ?_
          refine AllReadyH.cons rfl (fun K hK => ?_) AllReadyH.nil
          · (try simp only [List.getElem_toArray, List.getElem_cons_succ, List.getElem_cons_zero])
            rw [if_pos (by kernel_rfl)]
            refine wp_store_row 25 _ _ rfl W2.heap.size _ rfl rfl 25 _ hV3 (by kernel_rfl) rfl (by with_unfolding_all rfl) ?_
            have hR4 : ARow ((W2.alloc (.cells zaut 25)).setRow W2.heap.size (arow m2.none m2.zones m2.lines m2.days m2.lo m2.hi (.slice A2 m2.daily.length c2) m2.holder)) W2.heap.size m2.none m2.zones m2.lines m2.days m2.lo m2.hi (.slice A2 m2.daily.length c2) m2.holder := Whole.setRow hV3 _
            have hb4 : Below q1.heap.size q1 ((W2.alloc (.cells zaut 25)).setRow W2.heap.size (arow m2.none m2.zones m2.lines m2.days m2.lo m2.hi (.slice A2 m2.daily.length c2) m2.holder)) := below_setRow hb3 (Below.size hb2) _
            have hM4 : Av ((W2.alloc (.cells zaut 25)).setRow W2.heap.size (arow m2.none m2.zones m2.lines m2.days m2.lo m2.hi (.slice A2 m2.daily.length c2) m2.holder)) (fun _ => True) (.agg (avl m2 A2 c2)) m2 := ⟨A2, c2, rfl, (hS3.keep (by simp) fun b _ hb => setRow_other _ W2.heap.size b _ hb).mono fun _ _ _ => trivial, hmm2⟩
            refine hK.out _ _ (HP.out.1 _ hb4) (fun hHeld => ?_)
            clear hK K
            (try simp only [List.getElem_toArray, List.getElem_cons_succ, List.getElem_cons_zero, Act.put, List.setIfInBounds_toArray, List.set_cons_zero, List.set_cons_succ])
            refine wpAnyH_done (by kernel_rfl) ?_ _
            go_wp2_with fail
            go_meet
            exact ⟨W2.heap.size, m2, A2, c2, rfl, hR4, hM4, hb4⟩
      · (try simp only [List.getElem_toArray, List.getElem_cons_succ, List.getElem_cons_zero])
        go_simp
        have hV5 : Whole (W1.alloc (.cells zaut 25)) W1.heap.size 25 zaut := Whole.here _ _ _
        have hb5 : Below q1.heap.size q1 (W1.alloc (.cells zaut 25)) := Below.alloc hb1 (Below.size hb1) _
        have hk5 := Deck.alloc hk1 (.cells zaut 25)
        have hne : W1.heap.size ≠ q1.drew.heap.size := Nat.ne_of_gt (Deck.lt hk1)
        refine hK.out _ _ (HP.out.1 _ hb5) (fun hHeld => ?_)
        clear hK K
        (try simp only [List.getElem_toArray, List.getElem_cons_succ, List.getElem_cons_zero, Act.put, List.setIfInBounds_toArray, List.set_cons_zero, List.set_cons_succ])
        refine wpAnyH_ready (rs := [3]) (by kernel_rfl) (by simp) ?_
        refine AllReadyH.cons rfl (fun K hK => ?_) AllReadyH.nil
        · (try simp only [List.getElem_toArray, List.getElem_cons_succ, List.getElem_cons_zero])
          go_simp
          go_at_call 10
          refine (aspoilt hk5 (HP.out.2.1 _ hb5) (fun b _ hb => by have h1 : b < q1.heap.size := hb; have h2 := (Below.size hb0); omega) HP.out.2.2.1.1 HP.out.2.2.1.2.1 HP.out.2.2.1.2.2).mono ?_
          rintro e W6 ⟨⟨zz, m6, rfl, hm⟩, hc6, ho6⟩
          obtain ⟨A6, c6, rfl, hS6, hmm6⟩ := hm
          have hb6 := Below.trans hb5 (Below.mono hc6 (Below.size hb0))
          have hV6 : Whole W6 W1.heap.size 25 zaut := ho6.oth _ _ _ hne hV5
          have hS6 : Spn W6 (fun k => k ≠ W1.heap.size) A6 c6 m6.daily := hS6.mono fun b _ hb => (by have h1 := (Below.size hb1); have h2 := Whole.lt hV5; have hb1 : b < q1.heap.size ∨ (W1.alloc (.cells zaut 25)).heap.size ≤ b := hb.imp (fun q => q.2) id; omega)
          refine hK.out _ _ (HP.out.1 _ hb6) (fun hHeld => ?_)
          clear hK K
          (try simp only [List.getElem_toArray, List.getElem_cons_succ, List.getElem_cons_zero, Act.put, List.setIfInBounds_toArray, List.set_cons_zero, List.set_cons_succ])
          refine wpAnyH_ready (rs := [5]) (by kernel_rfl) (by simp) ?_
          refine AllReadyH.cons rfl (fun K hK => ?_) AllReadyH.nil
          · (try simp only [List.getElem_toArray, List.getElem_cons_succ, List.getElem_cons_zero])
            rw [if_pos (by kernel_rfl)]
            refine wp_store_row 25 _ _ rfl W1.heap.size _ rfl rfl 25 _ hV6 (by kernel_rfl) rfl (by with_unfolding_all rfl) ?_
            have hR7 : ARow (W6.setRow W1.heap.size (arow m6.none m6.zones m6.lines m6.days m6.lo m6.hi (.slice A6 m6.daily.length c6) m6.holder)) W1.heap.size m6.none m6.zones m6.lines m6.days m6.lo m6.hi (.slice A6 m6.daily.length c6) m6.holder := Whole.setRow hV6 _
            have hb7 : Below q1.heap.size q1 (W6.setRow W1.heap.size (arow m6.none m6.zones m6.lines m6.days m6.lo m6.hi (.slice A6 m6.daily.length c6) m6.holder)) := below_setRow hb6 (Below.size hb1) _
            have hM7 : Av (W6.setRow W1.heap.size (arow m6.none m6.zones m6.lines m6.days m6.lo m6.hi (.slice A6 m6.daily.length c6) m6.holder)) (fun _ => True) (.agg (avl m6 A6 c6)) m6 := ⟨A6, c6, rfl, (hS6.keep (by simp) fun b _ hb => setRow_other _ W1.heap.size b _ hb).mono fun _ _ _ => trivial, hmm6⟩
            refine hK.out _ _ (HP.out.1 _ hb7) (fun hHeld => ?_)
            clear hK K
            (try simp only [List.getElem_toArray, List.getElem_cons_succ, List.getElem_cons_zero, Act.put, List.setIfInBounds_toArray, List.set_cons_zero, List.set_cons_succ])
            refine wpAnyH_done (by kernel_rfl) ?_ _
            go_wp2_with fail
            go_meet
            exact ⟨W1.heap.size, m6, A6, c6, rfl, hR7, hM7, hb7⟩
    · (try simp only [List.getElem_toArray, List.getElem_cons_succ, List.getElem_cons_zero])
      go_simp
      have hV8 : Whole (q1.alloc (.cells zaut 25)).drew q1.heap.size 25 zaut := Whole.drew (Whole.here _ _ _)
      have hb8 : Below q1.heap.size q1 (q1.alloc (.cells zaut 25)).drew := Below.drew (Below.alloc (Below.refl _ _) (Nat.le_refl _) _)
      generalize (q1.alloc (.cells zaut 25)).drew = W8 at hV8 hb8 ⊢
      refine hK.out _ _ (HP.out.1 _ hb8) (fun hHeld => ?_)
      clear hK K
      (try simp only [List.getElem_toArray, List.getElem_cons_succ, List.getElem_cons_zero, Act.put, List.setIfInBounds_toArray, List.set_cons_zero, List.set_cons_succ])
      refine wpAnyH_ready (rs := [2]) (by kernel_rfl) (by simp) ?_
      refine AllReadyH.cons rfl (fun K hK => ?_) AllReadyH.nil
      · (try simp only [List.getElem_toArray, List.getElem_cons_succ, List.getElem_cons_zero])
        go_simp
        go_at_call 11
        refine (dnew A2 _ c2 l2 _ HN2.out (HP.out.2.2.2 _ hb8)).mono ?_
        rintro e W9 ⟨rfl, hk9, hc9⟩
        have hb9 := Below.trans hb8 (Below.mono hc9 (Below.size hb8))
        have hV9 := Whole.below hV8 hc9 (Whole.lt hV8)
        have hne : q1.heap.size ≠ W8.heap.size := Nat.ne_of_lt (Whole.lt hV8)
        refine hK.out _ _ (HP.out.1 _ hb9) (fun hHeld => ?_)
        clear hK K
        (try simp only [List.getElem_toArray, List.getElem_cons_succ, List.getElem_cons_zero, Act.put, List.setIfInBounds_toArray, List.set_cons_zero, List.set_cons_succ])
        refine wpAnyH_ready (rs := [3]) (by kernel_rfl) (by simp) ?_
        refine AllReadyH.cons rfl (fun K hK => ?_) AllReadyH.nil
        · (try simp only [List.getElem_toArray, List.getElem_cons_succ, List.getElem_cons_zero])
          go_simp
          go_at_call 10
          refine (aspoilt hk9 (HP.out.2.1 _ hb9) (fun b _ hb => by have h1 : b < q1.heap.size := hb; have h2 := (Below.size hb8); omega) HP.out.2.2.1.1 HP.out.2.2.1.2.1 HP.out.2.2.1.2.2).mono ?_
          rintro e W10 ⟨⟨zz, m10, rfl, hm⟩, hc10, ho10⟩
          obtain ⟨A10, c10, rfl, hS10, hmm10⟩ := hm
          have hb10 := Below.trans hb9 (Below.mono hc10 (Below.size hb8))
          have hV10 : Whole W10 q1.heap.size 25 zaut := ho10.oth _ _ _ hne hV9
          have hS10 : Spn W10 (fun k => k ≠ q1.heap.size) A10 c10 m10.daily := hS10.mono fun b _ hb => (by have h1 := (Nat.le_refl q1.heap.size); have h2 := Whole.lt hV9; have hb1 : b < q1.heap.size ∨ W9.heap.size ≤ b := hb.imp (fun q => q.2) id; omega)
          refine hK.out _ _ (HP.out.1 _ hb10) (fun hHeld => ?_)
          clear hK K
          (try simp only [List.getElem_toArray, List.getElem_cons_succ, List.getElem_cons_zero, Act.put, List.setIfInBounds_toArray, List.set_cons_zero, List.set_cons_succ])
          refine wpAnyH_ready (rs := [5]) (by kernel_rfl) (by simp) ?_
          refine AllReadyH.cons rfl (fun K hK => ?_) AllReadyH.nil
          · (try simp only [List.getElem_toArray, List.getElem_cons_succ, List.getElem_cons_zero])
            rw [if_pos (by kernel_rfl)]
            refine wp_store_row 25 _ _ rfl q1.heap.size _ rfl rfl 25 _ hV10 (by kernel_rfl) rfl (by with_unfolding_all rfl) ?_
            have hR11 : ARow (W10.setRow q1.heap.size (arow m10.none m10.zones m10.lines m10.days m10.lo m10.hi (.slice A10 m10.daily.length c10) m10.holder)) q1.heap.size m10.none m10.zones m10.lines m10.days m10.lo m10.hi (.slice A10 m10.daily.length c10) m10.holder := Whole.setRow hV10 _
            have hb11 : Below q1.heap.size q1 (W10.setRow q1.heap.size (arow m10.none m10.zones m10.lines m10.days m10.lo m10.hi (.slice A10 m10.daily.length c10) m10.holder)) := below_setRow hb10 (Nat.le_refl q1.heap.size) _
            have hM11 : Av (W10.setRow q1.heap.size (arow m10.none m10.zones m10.lines m10.days m10.lo m10.hi (.slice A10 m10.daily.length c10) m10.holder)) (fun _ => True) (.agg (avl m10 A10 c10)) m10 := ⟨A10, c10, rfl, (hS10.keep (by simp) fun b _ hb => setRow_other _ q1.heap.size b _ hb).mono fun _ _ _ => trivial, hmm10⟩
            refine hK.out _ _ (HP.out.1 _ hb11) (fun hHeld => ?_)
            clear hK K
            (try simp only [List.getElem_toArray, List.getElem_cons_succ, List.getElem_cons_zero, Act.put, List.setIfInBounds_toArray, List.set_cons_zero, List.set_cons_succ])
            refine wpAnyH_done (by kernel_rfl) ?_ _
            go_wp2_with fail
            go_meet
            exact ⟨q1.heap.size, m10, A10, c10, rfl, hR11, hM11, hb11⟩
  case rest =>
    obtain ⟨gz, z, Az, cz, rfl, hrz, haz, hbs⟩ := hcut
    have H32 : Hid (Below w.heap.size w wc) := Lib.hid (Below.trans H22.out (Below.mono hbs (Below.size H22.out)))
    have H33 : Hid (ARow wc w.heap.size f.none f.zones f.lines f.days f.lo f.hi (.slice Af f.daily.length cf) f.holder) := Lib.hid (Whole.below H23.out hbs (Whole.lt H23.out))
    have H34 : Hid (CRow wc (w.heap.size + 1) oz ol om on) := Lib.hid (Whole.below H24.out hbs (Whole.lt H24.out))
    have H35 : Hid (Av wc (fun k => k < w.heap.size) (.agg (arow f.none f.zones f.lines f.days f.lo f.hi (.slice Af f.daily.length cf) f.holder)) f) := Lib.hid (Av.below H25.out hbs (Nat.le_refl _))
    have H36 : Hid (ARow wc u1.heap.size a.none a.zones a.lines a.days a.lo a.hi (.slice Aa a.daily.length ca) a.holder) := Lib.hid (Whole.below H26.out hbs (Whole.lt H26.out))
    have H37 : Hid (ARow wc (u1.heap.size + 1) b.none b.zones b.lines b.days b.lo b.hi (.slice Ab b.daily.length cb) b.holder) := Lib.hid (Whole.below H27.out hbs (Whole.lt H27.out))
    have H38 : Hid (Av wc (fun k => k ≠ g1) (.agg (arow a.none a.zones a.lines a.days a.lo a.hi (.slice Aa a.daily.length ca) a.holder)) a) := Lib.hid (Av.below H28.out hbs (Nat.le_refl _))
    have H39 : Hid (Av wc (fun k => k ≠ g1) (.agg (arow b.none b.zones b.lines b.days b.lo b.hi (.slice Ab b.daily.length cb) b.holder)) b) := Lib.hid (Av.below H29.out hbs (Nat.le_refl _))
    have H40 : Hid (Deck g1 wc) := Lib.hid (Deck.below H30.out hbs (Deck.lt H30.out))
    have H41 : Hid (CRow wc v1.heap.size jz jl jm jn) := Lib.hid (Whole.below H31.out hbs (Whole.lt H31.out))
    clear H22 H23 H24 H25 H26 H27 H28 H29 H30 H31
    have H42 : Hid (ARow wc gz z.none z.zones z.lines z.days z.lo z.hi (.slice Az z.daily.length cz) z.holder) := Lib.hid (hrz)
    have H43 : Hid (Av wc (fun _ => True) (.agg (arow z.none z.zones z.lines z.days z.lo z.hi (.slice Az z.daily.length cz) z.holder)) z) := Lib.hid (haz)
    clear hrz haz hbs HP hwP hgr
    obtain ⟨V1, hV⟩ : ∃ v, decide (aok f ∧ cok ⟨oz, ol, om, on⟩ ∧ ina f ⟨oz, ol, om, on⟩) = v := ⟨_, rfl⟩
    have HV1 := Lib.hid hV
    clear hV
    have kk1 : (V1 == V1) = true := by simp
    obtain ⟨V2, hV⟩ : ∃ v, decide (aok a ∧ cok ⟨jz, jl, jm, jn⟩ ∧ ina a ⟨jz, jl, jm, jn⟩) = v := ⟨_, rfl⟩
    have HV2 := Lib.hid hV
    clear hV
    have kk2 : (V2 == V2) = true := by simp
    obtain ⟨V3, hV⟩ : ∃ v, decide (aok a ∧ cok ⟨oz, ol, om, on⟩ ∧ ina a ⟨oz, ol, om, on⟩) = v := ⟨_, rfl⟩
    have HV3 := Lib.hid hV
    clear hV
    have kk3 : (V3 == V3) = true := by simp
    obtain ⟨V4, hV⟩ : ∃ v, decide (aok z ∧ cok ⟨jz, jl, jm, jn⟩ ∧ ina z ⟨jz, jl, jm, jn⟩) = v := ⟨_, rfl⟩
    have HV4 := Lib.hid hV
    clear hV
    have kk4 : (V4 == V4) = true := by simp
    go_upto_region 6 with fail
    have hcc : ∀ W, Below wc.heap.size wc W → W.cell? ⟨w.heap.size, 0, none⟩ = some (.bool f.none) ∧ W.cell? ⟨w.heap.size, 1, none⟩ = some (.int .u64 (f.zones : Int)) ∧ W.cell? ⟨w.heap.size, 2, none⟩ = some (.int .u64 (f.lines : Int)) ∧ W.cell? ⟨w.heap.size, 3, none⟩ = some (.int .u64 (f.days : Int)) ∧ W.cell? ⟨w.heap.size, 4, none⟩ = some (.int .i64 f.lo) ∧ W.cell? ⟨w.heap.size, 5, none⟩ = some (.int .i64 f.hi) ∧ W.cell? ⟨w.heap.size, 6, none⟩ = some (.slice Af f.daily.length cf) ∧ W.cell? ⟨w.heap.size, 7, none⟩ = some (.string (sof f.holder)) ∧ W.cell? ⟨u1.heap.size, 0, none⟩ = some (.bool a.none) ∧ W.cell? ⟨u1.heap.size, 1, none⟩ = some (.int .u64 (a.zones : Int)) ∧ W.cell? ⟨u1.heap.size, 2, none⟩ = some (.int .u64 (a.lines : Int)) ∧ W.cell? ⟨u1.heap.size, 3, none⟩ = some (.int .u64 (a.days : Int)) ∧ W.cell? ⟨u1.heap.size, 4, none⟩ = some (.int .i64 a.lo) ∧ W.cell? ⟨u1.heap.size, 5, none⟩ = some (.int .i64 a.hi) ∧ W.cell? ⟨u1.heap.size, 6, none⟩ = some (.slice Aa a.daily.length ca) ∧ W.cell? ⟨u1.heap.size, 7, none⟩ = some (.string (sof a.holder)) ∧ W.cell? ⟨gz, 0, none⟩ = some (.bool z.none) ∧ W.cell? ⟨gz, 1, none⟩ = some (.int .u64 (z.zones : Int)) ∧ W.cell? ⟨gz, 2, none⟩ = some (.int .u64 (z.lines : Int)) ∧ W.cell? ⟨gz, 3, none⟩ = some (.int .u64 (z.days : Int)) ∧ W.cell? ⟨gz, 4, none⟩ = some (.int .i64 z.lo) ∧ W.cell? ⟨gz, 5, none⟩ = some (.int .i64 z.hi) ∧ W.cell? ⟨gz, 6, none⟩ = some (.slice Az z.daily.length cz) ∧ W.cell? ⟨gz, 7, none⟩ = some (.string (sof z.holder)) ∧ W.cell? ⟨(w.heap.size + 1), 0, none⟩ = some (.int .i64 oz) ∧ W.cell? ⟨(w.heap.size + 1), 1, none⟩ = some (.int .i64 ol) ∧ W.cell? ⟨(w.heap.size + 1), 2, none⟩ = some (.int .i64 om) ∧ W.cell? ⟨(w.heap.size + 1), 3, none⟩ = some (.string (sof on)) ∧ W.cell? ⟨v1.heap.size, 0, none⟩ = some (.int .i64 jz) ∧ W.cell? ⟨v1.heap.size, 1, none⟩ = some (.int .i64 jl) ∧ W.cell? ⟨v1.heap.size, 2, none⟩ = some (.int .i64 jm) ∧ W.cell? ⟨v1.heap.size, 3, none⟩ = some (.string (sof jn)) := fun W hb => by
      obtain ⟨x0_0, x0_1, x0_2, x0_3, x0_4, x0_5, x0_6, x0_7⟩ := ARow.cells (Whole.below H33.out hb (Whole.lt H33.out))
      obtain ⟨x1_0, x1_1, x1_2, x1_3, x1_4, x1_5, x1_6, x1_7⟩ := ARow.cells (Whole.below H36.out hb (Whole.lt H36.out))
      obtain ⟨x2_0, x2_1, x2_2, x2_3, x2_4, x2_5, x2_6, x2_7⟩ := ARow.cells (Whole.below H42.out hb (Whole.lt H42.out))
      obtain ⟨x3_0, x3_1, x3_2, x3_3⟩ := CRow.cells (Whole.below H34.out hb (Whole.lt H34.out))
      obtain ⟨x4_0, x4_1, x4_2, x4_3⟩ := CRow.cells (Whole.below H41.out hb (Whole.lt H41.out))
      exact ⟨x0_0, x0_1, x0_2, x0_3, x0_4, x0_5, x0_6, x0_7, x1_0, x1_1, x1_2, x1_3, x1_4, x1_5, x1_6, x1_7, x2_0, x2_1, x2_2, x2_3, x2_4, x2_5, x2_6, x2_7, x3_0, x3_1, x3_2, x3_3, x4_0, x4_1, x4_2, x4_3⟩
    refine wp_region_held_drew (S := fun W => W.cell? ⟨w.heap.size, 0, none⟩ = some (.bool f.none) ∧ W.cell? ⟨w.heap.size, 1, none⟩ = some (.int .u64 (f.zones : Int)) ∧ W.cell? ⟨w.heap.size, 2, none⟩ = some (.int .u64 (f.lines : Int)) ∧ W.cell? ⟨w.heap.size, 3, none⟩ = some (.int .u64 (f.days : Int)) ∧ W.cell? ⟨w.heap.size, 4, none⟩ = some (.int .i64 f.lo) ∧ W.cell? ⟨w.heap.size, 5, none⟩ = some (.int .i64 f.hi) ∧ W.cell? ⟨w.heap.size, 6, none⟩ = some (.slice Af f.daily.length cf) ∧ W.cell? ⟨w.heap.size, 7, none⟩ = some (.string (sof f.holder)) ∧ W.cell? ⟨u1.heap.size, 0, none⟩ = some (.bool a.none) ∧ W.cell? ⟨u1.heap.size, 1, none⟩ = some (.int .u64 (a.zones : Int)) ∧ W.cell? ⟨u1.heap.size, 2, none⟩ = some (.int .u64 (a.lines : Int)) ∧ W.cell? ⟨u1.heap.size, 3, none⟩ = some (.int .u64 (a.days : Int)) ∧ W.cell? ⟨u1.heap.size, 4, none⟩ = some (.int .i64 a.lo) ∧ W.cell? ⟨u1.heap.size, 5, none⟩ = some (.int .i64 a.hi) ∧ W.cell? ⟨u1.heap.size, 6, none⟩ = some (.slice Aa a.daily.length ca) ∧ W.cell? ⟨u1.heap.size, 7, none⟩ = some (.string (sof a.holder)) ∧ W.cell? ⟨gz, 0, none⟩ = some (.bool z.none) ∧ W.cell? ⟨gz, 1, none⟩ = some (.int .u64 (z.zones : Int)) ∧ W.cell? ⟨gz, 2, none⟩ = some (.int .u64 (z.lines : Int)) ∧ W.cell? ⟨gz, 3, none⟩ = some (.int .u64 (z.days : Int)) ∧ W.cell? ⟨gz, 4, none⟩ = some (.int .i64 z.lo) ∧ W.cell? ⟨gz, 5, none⟩ = some (.int .i64 z.hi) ∧ W.cell? ⟨gz, 6, none⟩ = some (.slice Az z.daily.length cz) ∧ W.cell? ⟨gz, 7, none⟩ = some (.string (sof z.holder)) ∧ W.cell? ⟨(w.heap.size + 1), 0, none⟩ = some (.int .i64 oz) ∧ W.cell? ⟨(w.heap.size + 1), 1, none⟩ = some (.int .i64 ol) ∧ W.cell? ⟨(w.heap.size + 1), 2, none⟩ = some (.int .i64 om) ∧ W.cell? ⟨(w.heap.size + 1), 3, none⟩ = some (.string (sof on)) ∧ W.cell? ⟨v1.heap.size, 0, none⟩ = some (.int .i64 jz) ∧ W.cell? ⟨v1.heap.size, 1, none⟩ = some (.int .i64 jl) ∧ W.cell? ⟨v1.heap.size, 2, none⟩ = some (.int .i64 jm) ∧ W.cell? ⟨v1.heap.size, 3, none⟩ = some (.string (sof jn))) (by kernel_rfl) (hcc _ (Below.drew (Below.refl _ _))) (fun hHeld => ?_)
    apply wpAnyH_take (i := 0) rfl (by kernel_rfl) (by kernel_rfl) (by kernel_rfl)
    case hQ => exact fun _ _ _ h => h
    case hS => exact hHeld
    case hy => (refine Or.inl ⟨by rfl, ?_⟩; intro w hSw; go_split_ands; go_simp; (try with_reducible rfl))
    (try simp only [List.getElem_toArray, List.getElem_cons_zero, Act.put, List.setIfInBounds_toArray, List.set_cons_zero, List.set_cons_succ])
    apply wpAnyH_take (i := 1) rfl (by kernel_rfl) (by kernel_rfl) (by kernel_rfl)
    case hQ => exact fun _ _ _ h => h
    case hS => exact hHeld
    case hy => (refine Or.inl ⟨by rfl, ?_⟩; intro w hSw; go_split_ands; go_simp; (try with_reducible rfl))
    (try simp only [List.getElem_toArray, List.getElem_cons_succ, List.getElem_cons_zero, Act.put, List.setIfInBounds_toArray, List.set_cons_zero, List.set_cons_succ])
    apply wpAnyH_take (i := 3) rfl (by kernel_rfl) (by kernel_rfl) (by kernel_rfl)
    case hQ => exact fun _ _ _ h => h
    case hS => exact hHeld
    case hy => (refine Or.inl ⟨by rfl, ?_⟩; intro w hSw; go_split_ands; go_simp; (try with_reducible rfl))
    (try simp only [List.getElem_toArray, List.getElem_cons_succ, List.getElem_cons_zero, Act.put, List.setIfInBounds_toArray, List.set_cons_zero, List.set_cons_succ])
    apply wpAnyH_take (i := 4) rfl (by kernel_rfl) (by kernel_rfl) (by kernel_rfl)
    case hQ => exact fun _ _ _ h => h
    case hS => exact hHeld
    case hy => (refine Or.inl ⟨by rfl, ?_⟩; intro w hSw; go_split_ands; go_simp; (try with_reducible rfl))
    (try simp only [List.getElem_toArray, List.getElem_cons_succ, List.getElem_cons_zero, Act.put, List.setIfInBounds_toArray, List.set_cons_zero, List.set_cons_succ])
    refine wpAnyH_ready (rs := [2]) (by kernel_rfl) (by simp) ?_
    refine AllReadyH.cons rfl (fun K hK => ?_) AllReadyH.nil
    (try simp only [List.getElem_toArray, List.getElem_cons_succ, List.getElem_cons_zero])
    go_simp
    go_at_call 21
    refine (law_con (Below.drew (Below.refl _ _)) (Av.below H35.out (Below.drew (Below.refl _ _)) (Nat.le_refl _)) HLo.out HV1.out).mono ?_
    rintro e w10 ⟨rfl, b10, r10⟩
    refine hK.out _ _ (hcc _ b10) (fun hHeld => ?_)
    clear hK K
    (try simp only [List.getElem_toArray, List.getElem_cons_succ, List.getElem_cons_zero, Act.put, List.setIfInBounds_toArray, List.set_cons_zero, List.set_cons_succ])
    refine wpAnyH_ready (rs := [5]) (by kernel_rfl) (by simp) ?_
    refine AllReadyH.cons rfl (fun K hK => ?_) AllReadyH.nil
    (try simp only [List.getElem_toArray, List.getElem_cons_succ, List.getElem_cons_zero])
    go_simp
    go_at_call 22
    refine (law_rcon b10 (Av.below H35.out b10 (Nat.le_refl _)) HLo.out HV1.out).mono ?_
    rintro e w11 ⟨rfl, b11, r11⟩
    refine hK.out _ _ (hcc _ b11) (fun hHeld => ?_)
    clear hK K
    (try simp only [List.getElem_toArray, List.getElem_cons_succ, List.getElem_cons_zero, Act.put, List.setIfInBounds_toArray, List.set_cons_zero, List.set_cons_succ])
    apply wpAnyH_take (i := 6) rfl (by kernel_rfl) (by kernel_rfl) (by kernel_rfl)
    case hQ => exact fun _ _ _ h => h
    case hS => exact hHeld
    case hy => (refine Or.inl ⟨by rfl, ?_⟩; intro w hSw; go_split_ands; go_simp; (try with_reducible rfl))
    (try simp only [List.getElem_toArray, List.getElem_cons_succ, List.getElem_cons_zero, Act.put, List.setIfInBounds_toArray, List.set_cons_zero, List.set_cons_succ])
    apply wpAnyH_take (i := 7) rfl (by kernel_rfl) (by kernel_rfl) (by kernel_rfl)
    case hQ => exact fun _ _ _ h => h
    case hS => exact hHeld
    case hy => (refine Or.inl ⟨by rfl, ?_⟩; intro w hSw; go_split_ands; go_simp; (try with_reducible rfl))
    (try simp only [List.getElem_toArray, List.getElem_cons_succ, List.getElem_cons_zero, Act.put, List.setIfInBounds_toArray, List.set_cons_zero, List.set_cons_succ])
    apply wpAnyH_take (i := 8) rfl (by kernel_rfl) (by kernel_rfl) (by kernel_rfl)
    case hQ => exact fun _ _ _ h => h
    case hS => exact hHeld
    case hy => (refine Or.inl ⟨by rfl, ?_⟩; intro w hSw; go_split_ands; go_simp; (try with_reducible rfl))
    (try simp only [List.getElem_toArray, List.getElem_cons_succ, List.getElem_cons_zero, Act.put, List.setIfInBounds_toArray, List.set_cons_zero, List.set_cons_succ])
    apply wpAnyH_take (i := 9) rfl (by kernel_rfl) (by kernel_rfl) (by kernel_rfl)
    case hQ => exact fun _ _ _ h => h
    case hS => exact hHeld
    case hy => (refine Or.inl ⟨by rfl, ?_⟩; intro w hSw; go_split_ands; go_simp; (try with_reducible rfl))
    (try simp only [List.getElem_toArray, List.getElem_cons_succ, List.getElem_cons_zero, Act.put, List.setIfInBounds_toArray, List.set_cons_zero, List.set_cons_succ])
    apply wpAnyH_take (i := 11) rfl (by kernel_rfl) (by kernel_rfl) (by kernel_rfl)
    case hQ => exact fun _ _ _ h => h
    case hS => exact hHeld
    case hy => (refine Or.inl ⟨by rfl, ?_⟩; intro w hSw; go_split_ands; go_simp; (try with_reducible rfl))
    (try simp only [List.getElem_toArray, List.getElem_cons_succ, List.getElem_cons_zero, Act.put, List.setIfInBounds_toArray, List.set_cons_zero, List.set_cons_succ])
    apply wpAnyH_take (i := 12) rfl (by kernel_rfl) (by kernel_rfl) (by kernel_rfl)
    case hQ => exact fun _ _ _ h => h
    case hS => exact hHeld
    case hy => (refine Or.inl ⟨by rfl, ?_⟩; intro w hSw; go_split_ands; go_simp; (try with_reducible rfl))
    (try simp only [List.getElem_toArray, List.getElem_cons_succ, List.getElem_cons_zero, Act.put, List.setIfInBounds_toArray, List.set_cons_zero, List.set_cons_succ])
    refine wpAnyH_ready (rs := [10]) (by kernel_rfl) (by simp) ?_
    refine AllReadyH.cons rfl (fun K hK => ?_) AllReadyH.nil
    (try simp only [List.getElem_toArray, List.getElem_cons_succ, List.getElem_cons_zero])
    go_simp
    go_at_call 21
    refine (law_con b11 (Av.below H38.out b11 (Nat.le_refl _)) HLj.out HV2.out).mono ?_
    rintro e w12 ⟨rfl, b12, r12⟩
    refine hK.out _ _ (hcc _ b12) (fun hHeld => ?_)
    clear hK K
    (try simp only [List.getElem_toArray, List.getElem_cons_succ, List.getElem_cons_zero, Act.put, List.setIfInBounds_toArray, List.set_cons_zero, List.set_cons_succ])
    refine wpAnyH_ready (rs := [13]) (by kernel_rfl) (by simp) ?_
    refine AllReadyH.cons rfl (fun K hK => ?_) AllReadyH.nil
    (try simp only [List.getElem_toArray, List.getElem_cons_succ, List.getElem_cons_zero])
    go_simp
    go_at_call 22
    refine (law_rcon b12 (Av.below H38.out b12 (Nat.le_refl _)) HLj.out HV2.out).mono ?_
    rintro e w13 ⟨rfl, b13, r13⟩
    refine hK.out _ _ (hcc _ b13) (fun hHeld => ?_)
    clear hK K
    (try simp only [List.getElem_toArray, List.getElem_cons_succ, List.getElem_cons_zero, Act.put, List.setIfInBounds_toArray, List.set_cons_zero, List.set_cons_succ])
    apply wpAnyH_take (i := 14) rfl (by kernel_rfl) (by kernel_rfl) (by kernel_rfl)
    case hQ => exact fun _ _ _ h => h
    case hS => exact hHeld
    case hy => (refine Or.inl ⟨by rfl, ?_⟩; intro w hSw; go_split_ands; go_simp; (try with_reducible rfl))
    (try simp only [List.getElem_toArray, List.getElem_cons_succ, List.getElem_cons_zero, Act.put, List.setIfInBounds_toArray, List.set_cons_zero, List.set_cons_succ])
    apply wpAnyH_take (i := 15) rfl (by kernel_rfl) (by kernel_rfl) (by kernel_rfl)
    case hQ => exact fun _ _ _ h => h
    case hS => exact hHeld
    case hy => (refine Or.inl ⟨by rfl, ?_⟩; intro w hSw; go_split_ands; go_simp; (try with_reducible rfl))
    (try simp only [List.getElem_toArray, List.getElem_cons_succ, List.getElem_cons_zero, Act.put, List.setIfInBounds_toArray, List.set_cons_zero, List.set_cons_succ])
    apply wpAnyH_take (i := 16) rfl (by kernel_rfl) (by kernel_rfl) (by kernel_rfl)
    case hQ => exact fun _ _ _ h => h
    case hS => exact hHeld
    case hy => (refine Or.inl ⟨by rfl, ?_⟩; intro w hSw; go_split_ands; go_simp; (try with_reducible rfl))
    (try simp only [List.getElem_toArray, List.getElem_cons_succ, List.getElem_cons_zero, Act.put, List.setIfInBounds_toArray, List.set_cons_zero, List.set_cons_succ])
    apply wpAnyH_take (i := 17) rfl (by kernel_rfl) (by kernel_rfl) (by kernel_rfl)
    case hQ => exact fun _ _ _ h => h
    case hS => exact hHeld
    case hy => (refine Or.inl ⟨by rfl, ?_⟩; intro w hSw; go_split_ands; go_simp; (try with_reducible rfl))
    (try simp only [List.getElem_toArray, List.getElem_cons_succ, List.getElem_cons_zero, Act.put, List.setIfInBounds_toArray, List.set_cons_zero, List.set_cons_succ])
    apply wpAnyH_take (i := 18) rfl (by kernel_rfl) (by kernel_rfl) (by kernel_rfl)
    case hQ => exact fun _ _ _ h => h
    case hS => exact hHeld
    case hy => (refine Or.inl ⟨by rfl, ?_⟩; intro w hSw; go_split_ands; go_simp; (try with_reducible rfl))
    (try simp only [List.getElem_toArray, List.getElem_cons_succ, List.getElem_cons_zero, Act.put, List.setIfInBounds_toArray, List.set_cons_zero, List.set_cons_succ])
    apply wpAnyH_take (i := 20) rfl (by kernel_rfl) (by kernel_rfl) (by kernel_rfl)
    case hQ => exact fun _ _ _ h => h
    case hS => exact hHeld
    case hy => (refine Or.inl ⟨by rfl, ?_⟩; intro w hSw; go_split_ands; go_simp; (try with_reducible rfl))
    (try simp only [List.getElem_toArray, List.getElem_cons_succ, List.getElem_cons_zero, Act.put, List.setIfInBounds_toArray, List.set_cons_zero, List.set_cons_succ])
    apply wpAnyH_take (i := 21) rfl (by kernel_rfl) (by kernel_rfl) (by kernel_rfl)
    case hQ => exact fun _ _ _ h => h
    case hS => exact hHeld
    case hy => (refine Or.inl ⟨by rfl, ?_⟩; intro w hSw; go_split_ands; go_simp; (try with_reducible rfl))
    (try simp only [List.getElem_toArray, List.getElem_cons_succ, List.getElem_cons_zero, Act.put, List.setIfInBounds_toArray, List.set_cons_zero, List.set_cons_succ])
    refine wpAnyH_ready (rs := [19]) (by kernel_rfl) (by simp) ?_
    refine AllReadyH.cons rfl (fun K hK => ?_) AllReadyH.nil
    (try simp only [List.getElem_toArray, List.getElem_cons_succ, List.getElem_cons_zero])
    go_simp
    go_at_call 21
    refine (law_con b13 (Av.below H38.out b13 (Nat.le_refl _)) HLo.out HV3.out).mono ?_
    rintro e w14 ⟨rfl, b14, r14⟩
    refine hK.out _ _ (hcc _ b14) (fun hHeld => ?_)
    clear hK K
    (try simp only [List.getElem_toArray, List.getElem_cons_succ, List.getElem_cons_zero, Act.put, List.setIfInBounds_toArray, List.set_cons_zero, List.set_cons_succ])
    refine wpAnyH_ready (rs := [22]) (by kernel_rfl) (by simp) ?_
    refine AllReadyH.cons rfl (fun K hK => ?_) AllReadyH.nil
    (try simp only [List.getElem_toArray, List.getElem_cons_succ, List.getElem_cons_zero])
    go_simp
    go_at_call 22
    refine (law_rcon b14 (Av.below H38.out b14 (Nat.le_refl _)) HLo.out HV3.out).mono ?_
    rintro e w15 ⟨rfl, b15, r15⟩
    refine hK.out _ _ (hcc _ b15) (fun hHeld => ?_)
    clear hK K
    (try simp only [List.getElem_toArray, List.getElem_cons_succ, List.getElem_cons_zero, Act.put, List.setIfInBounds_toArray, List.set_cons_zero, List.set_cons_succ])
    apply wpAnyH_take (i := 23) rfl (by kernel_rfl) (by kernel_rfl) (by kernel_rfl)
    case hQ => exact fun _ _ _ h => h
    case hS => exact hHeld
    case hy => (refine Or.inl ⟨by rfl, ?_⟩; intro w hSw; go_split_ands; go_simp; (try with_reducible rfl))
    (try simp only [List.getElem_toArray, List.getElem_cons_succ, List.getElem_cons_zero, Act.put, List.setIfInBounds_toArray, List.set_cons_zero, List.set_cons_succ])
    apply wpAnyH_take (i := 24) rfl (by kernel_rfl) (by kernel_rfl) (by kernel_rfl)
    case hQ => exact fun _ _ _ h => h
    case hS => exact hHeld
    case hy => (refine Or.inl ⟨by rfl, ?_⟩; intro w hSw; go_split_ands; go_simp; (try with_reducible rfl))
    (try simp only [List.getElem_toArray, List.getElem_cons_succ, List.getElem_cons_zero, Act.put, List.setIfInBounds_toArray, List.set_cons_zero, List.set_cons_succ])
    apply wpAnyH_take (i := 25) rfl (by kernel_rfl) (by kernel_rfl) (by kernel_rfl)
    case hQ => exact fun _ _ _ h => h
    case hS => exact hHeld
    case hy => (refine Or.inl ⟨by rfl, ?_⟩; intro w hSw; go_split_ands; go_simp; (try with_reducible rfl))
    (try simp only [List.getElem_toArray, List.getElem_cons_succ, List.getElem_cons_zero, Act.put, List.setIfInBounds_toArray, List.set_cons_zero, List.set_cons_succ])
    apply wpAnyH_take (i := 26) rfl (by kernel_rfl) (by kernel_rfl) (by kernel_rfl)
    case hQ => exact fun _ _ _ h => h
    case hS => exact hHeld
    case hy => (refine Or.inl ⟨by rfl, ?_⟩; intro w hSw; go_split_ands; go_simp; (try with_reducible rfl))
    (try simp only [List.getElem_toArray, List.getElem_cons_succ, List.getElem_cons_zero, Act.put, List.setIfInBounds_toArray, List.set_cons_zero, List.set_cons_succ])
    apply wpAnyH_take (i := 27) rfl (by kernel_rfl) (by kernel_rfl) (by kernel_rfl)
    case hQ => exact fun _ _ _ h => h
    case hS => exact hHeld
    case hy => (refine Or.inl ⟨by rfl, ?_⟩; intro w hSw; go_split_ands; go_simp; (try with_reducible rfl))
    (try simp only [List.getElem_toArray, List.getElem_cons_succ, List.getElem_cons_zero, Act.put, List.setIfInBounds_toArray, List.set_cons_zero, List.set_cons_succ])
    apply wpAnyH_take (i := 29) rfl (by kernel_rfl) (by kernel_rfl) (by kernel_rfl)
    case hQ => exact fun _ _ _ h => h
    case hS => exact hHeld
    case hy => (refine Or.inl ⟨by rfl, ?_⟩; intro w hSw; go_split_ands; go_simp; (try with_reducible rfl))
    (try simp only [List.getElem_toArray, List.getElem_cons_succ, List.getElem_cons_zero, Act.put, List.setIfInBounds_toArray, List.set_cons_zero, List.set_cons_succ])
    apply wpAnyH_take (i := 30) rfl (by kernel_rfl) (by kernel_rfl) (by kernel_rfl)
    case hQ => exact fun _ _ _ h => h
    case hS => exact hHeld
    case hy => (refine Or.inl ⟨by rfl, ?_⟩; intro w hSw; go_split_ands; go_simp; (try with_reducible rfl))
    (try simp only [List.getElem_toArray, List.getElem_cons_succ, List.getElem_cons_zero, Act.put, List.setIfInBounds_toArray, List.set_cons_zero, List.set_cons_succ])
    refine wpAnyH_ready (rs := [28]) (by kernel_rfl) (by simp) ?_
    refine AllReadyH.cons rfl (fun K hK => ?_) AllReadyH.nil
    (try simp only [List.getElem_toArray, List.getElem_cons_succ, List.getElem_cons_zero])
    go_simp
    go_at_call 21
    refine (law_con b15 (Av.below H43.out b15 (Nat.le_refl _)) HLj.out HV4.out).mono ?_
    rintro e w16 ⟨rfl, b16, r16⟩
    refine hK.out _ _ (hcc _ b16) (fun hHeld => ?_)
    clear hK K
    (try simp only [List.getElem_toArray, List.getElem_cons_succ, List.getElem_cons_zero, Act.put, List.setIfInBounds_toArray, List.set_cons_zero, List.set_cons_succ])
    refine wpAnyH_ready (rs := [31]) (by kernel_rfl) (by simp) ?_
    refine AllReadyH.cons rfl (fun K hK => ?_) AllReadyH.nil
    (try simp only [List.getElem_toArray, List.getElem_cons_succ, List.getElem_cons_zero])
    go_simp
    go_at_call 22
    refine (law_rcon b16 (Av.below H43.out b16 (Nat.le_refl _)) HLj.out HV4.out).mono ?_
    rintro e w17 ⟨rfl, b17, r17⟩
    refine hK.out _ _ (hcc _ b17) (fun hHeld => ?_)
    clear hK K
    (try simp only [List.getElem_toArray, List.getElem_cons_succ, List.getElem_cons_zero, Act.put, List.setIfInBounds_toArray, List.set_cons_zero, List.set_cons_succ])
    apply wpAnyH_take (i := 32) rfl (by kernel_rfl) (by kernel_rfl) (by kernel_rfl)
    case hQ => exact fun _ _ _ h => h
    case hS => exact hHeld
    case hy => (refine Or.inl ⟨by rfl, ?_⟩; intro w hSw; go_split_ands; go_simp; (try with_reducible rfl))
    (try simp only [List.getElem_toArray, List.getElem_cons_succ, List.getElem_cons_zero, Act.put, List.setIfInBounds_toArray, List.set_cons_zero, List.set_cons_succ])
    apply wpAnyH_take (i := 33) rfl (by kernel_rfl) (by kernel_rfl) (by kernel_rfl)
    case hQ => exact fun _ _ _ h => h
    case hS => exact hHeld
    case hy => (refine Or.inl ⟨by rfl, ?_⟩; intro w hSw; go_split_ands; go_simp; (try with_reducible rfl))
    (try simp only [List.getElem_toArray, List.getElem_cons_succ, List.getElem_cons_zero, Act.put, List.setIfInBounds_toArray, List.set_cons_zero, List.set_cons_succ])
    apply wpAnyH_take (i := 34) rfl (by kernel_rfl) (by kernel_rfl) (by kernel_rfl)
    case hQ => exact fun _ _ _ h => h
    case hS => exact hHeld
    case hy => (refine Or.inl ⟨by rfl, ?_⟩; intro w hSw; go_split_ands; go_simp; (try with_reducible rfl))
    (try simp only [List.getElem_toArray, List.getElem_cons_succ, List.getElem_cons_zero, Act.put, List.setIfInBounds_toArray, List.set_cons_zero, List.set_cons_succ])
    refine wpAnyH_ready (rs := [35]) (by kernel_rfl) (by simp) ?_
    refine AllReadyH.cons rfl (fun K hK => ?_) AllReadyH.nil
    (try simp only [List.getElem_toArray, List.getElem_cons_succ, List.getElem_cons_zero])
    go_simp
    go_at_call 8
    refine (law_awake b17).mono ?_
    rintro e w18 ⟨rfl, b18, -⟩
    refine hK.out _ _ (hcc _ b18) (fun hHeld => ?_)
    clear hK K
    (try simp only [List.getElem_toArray, List.getElem_cons_succ, List.getElem_cons_zero, Act.put, List.setIfInBounds_toArray, List.set_cons_zero, List.set_cons_succ])
    apply wpAnyH_take (i := 36) rfl (by kernel_rfl) (by kernel_rfl) (by kernel_rfl)
    case hQ => exact fun _ _ _ h => h
    case hS => exact hHeld
    case hy => (refine Or.inl ⟨by rfl, ?_⟩; intro w hSw; go_split_ands; go_simp; (try with_reducible rfl))
    (try simp only [List.getElem_toArray, List.getElem_cons_succ, List.getElem_cons_zero, Act.put, List.setIfInBounds_toArray, List.set_cons_zero, List.set_cons_succ])
    apply wpAnyH_take (i := 37) rfl (by kernel_rfl) (by kernel_rfl) (by kernel_rfl)
    case hQ => exact fun _ _ _ h => h
    case hS => exact hHeld
    case hy => (refine Or.inl ⟨by rfl, ?_⟩; intro w hSw; go_split_ands; go_simp; (try with_reducible rfl))
    (try simp only [List.getElem_toArray, List.getElem_cons_succ, List.getElem_cons_zero, Act.put, List.setIfInBounds_toArray, List.set_cons_zero, List.set_cons_succ])
    refine wpAnyH_done (by kernel_rfl) ?_ _
    have HG := Lib.hid (Below.trans H32.out (Below.mono b18 (Below.size H32.out)))
    go_wp2
    go_ret
    exact ⟨rfl, HG.out⟩
end Go.Proofs.Ytedjbjplnjnnlaa
