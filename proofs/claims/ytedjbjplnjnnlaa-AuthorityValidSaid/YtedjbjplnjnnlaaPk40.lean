/-
  The law AuthorityValid.
-/
import Derived.Deep.RegionHeld3
import Derived.Test.YtedjbjplnjnnlaaPk23
import Derived.Test.YtedjbjplnjnnlaaPk32
import Derived.Test.YtedjbjplnjnnlaaPk35
import Derived.Test.YtedjbjplnjnnlaaPk38
import Derived.Test.YtedjbjplnjnnlaaPk39
namespace Go.Proofs.Ytedjbjplnjnnlaa
open Go Go.RowKit Sh Leaf

set_option linter.unusedSimpArgs false in
set_option linter.unusedVariables false in
set_option maxRecDepth 100000 in
set_option maxHeartbeats 8000000 in
theorem aval_law {x : Value} {f : Aut} (A1 : Option Addr) (l1 : List Int) (c1 : Nat) (A2 : Option Addr) (l2 : List Int) (c2 : Nat) (w : World) (hx : Av w (fun _ => True) x f) (hI1 : Ints w (fun b => b < w.heap.size) A1 c1 l1) (hI2 : Ints w (fun b => b < w.heap.size) A2 c2 l2) :
    Calls Try.prog 3 #[x, .slice A1 l1.length c1, .slice A2 l2.length c2] w fun e w' => e = .returned (.bool true) ∧ Below w.heap.size w w' := by
  obtain ⟨n1, hn1⟩ : ∃ n, n = l1.length := ⟨_, rfl⟩
  obtain ⟨n2, hn2⟩ : ∃ n, n = l2.length := ⟨_, rfl⟩
  rw [← hn1, ← hn2]
  have HI1 := Lib.hid hI1
  have HI2 := Lib.hid hI2
  have HN1 := Lib.hid hn1
  have HN2 := Lib.hid hn2
  obtain ⟨Af, cf, rfl, hSf, hff⟩ := hx
  obtain ⟨p0, hp⟩ : ∃ p, p = w.alloc (.cells (avl f Af cf) 25) := ⟨_, rfl⟩
  have hb0 : Below w.heap.size w p0 := by rw [hp]; exact (Below.refl _ _).alloc (Nat.le_refl _) _
  clear hI1 hI2 hn1 hn2
  go_enter Try.func3, Try.ntmps3
  go_upto_region 1 with fail
  rw [← hp]
  have H0 : Hid (Below w.heap.size w p0) := Lib.hid (hb0)
  have H1 : Hid (ARow p0 w.heap.size f.none f.zones f.lines f.days f.lo f.hi (.slice Af f.daily.length cf) f.holder) := Lib.hid (by rw [hp]; exact Whole.here _ _ _)
  have H2 : Hid (Av p0 (fun _ => True) (.agg (arow f.none f.zones f.lines f.days f.lo f.hi (.slice Af f.daily.length cf) f.holder)) f) := Lib.hid (⟨Af, cf, rfl, (hSf.below hb0 (Nat.le_refl _)).mono fun _ _ _ => trivial, hff⟩)
  clear hSf hff hb0 hp
  obtain ⟨n, hn⟩ : ∃ n, n = f.daily.length := ⟨_, rfl⟩
  by_cases h60 : (60 : Int) < (n : Int)
  · obtain ⟨k0, k1, k2, k3, k4, k5, k6, k7⟩ := ARow.cells H1.out
    rw [← hn] at k6
    go_wp2_with fail
    refine (aawake _).mono ?_
    rintro e w1 ⟨rfl, hb⟩
    have HB := Lib.hid (Below.trans H0.out (Below.mono hb (Below.size H0.out)))
    clear hb k0 k1 k2 k3 k4 k5 k6 k7
    go_wp2
    go_ret
    exact ⟨rfl, HB.out⟩
  obtain ⟨k0, k1, k2, k3, k4, k5, k6, k7⟩ := ARow.cells H1.out
  rw [← hn] at k6
  go_upto_region 3 with fail
  clear k0 k1 k2 k3 k4 k5 k6 k7 h60 hn
  have hmd := amade rofc_ A1 l1 c1 p0 ((HI1.out.below H0.out).mono (Below.size H0.out))
  rw [← HN1.out] at hmd
  go_wp2_with fail
  refine hmd.mono ?_
  rintro e u1 ⟨⟨xx, yy, a, b, g1, rfl, hx, hy, ha, hb, hdk, hgl⟩, hbl⟩
  obtain ⟨Aa, ca, rfl, hSa, haa⟩ := hx
  obtain ⟨Ab, cb, rfl, hSb, hbb⟩ := hy
  obtain ⟨p1, hp⟩ : ∃ p, p = (u1.alloc (.cells (avl a Aa ca) 25)).alloc (.cells (avl b Ab cb) 25) := ⟨_, rfl⟩
  have hup : Below u1.heap.size u1 p1 := by rw [hp]; exact ab_below _ _ _
  have hle : Below p0.heap.size p0 p1 := hbl.trans (hup.mono hbl.size)
  have hgu1 : g1 < u1.heap.size := hdk.lt
  have hgw1 : p0.heap.size ≤ g1 := hgl
  have H3 : Hid (Below w.heap.size w p1) := Lib.hid (Below.trans H0.out (Below.mono hle (Below.size H0.out)))
  have H4 : Hid (ARow p1 w.heap.size f.none f.zones f.lines f.days f.lo f.hi (.slice Af f.daily.length cf) f.holder) := Lib.hid (Whole.below H1.out hle (Whole.lt H1.out))
  have H5 : Hid (Av p1 (fun _ => True) (.agg (arow f.none f.zones f.lines f.days f.lo f.hi (.slice Af f.daily.length cf) f.holder)) f) := Lib.hid (Av.below H2.out hle (Nat.le_refl _))
  clear H0 H1 H2
  have H6 : Hid (ARow p1 u1.heap.size a.none a.zones a.lines a.days a.lo a.hi (.slice Aa a.daily.length ca) a.holder) := Lib.hid (by rw [hp]; exact (Whole.here _ _ _).alloc _)
  have H7 : Hid (ARow p1 (u1.heap.size + 1) b.none b.zones b.lines b.days b.lo b.hi (.slice Ab b.daily.length cb) b.holder) := Lib.hid (by rw [hp]; exact Whole.at_ _ _ _ _ (by simp))
  have H8 : Hid (Av p1 (fun k => k ≠ g1) (.agg (arow a.none a.zones a.lines a.days a.lo a.hi (.slice Aa a.daily.length ca) a.holder)) a) := Lib.hid (⟨Aa, ca, rfl, (hSa.below hup (Nat.le_refl _)).mono fun k _ hk => hk.2, haa⟩)
  have H9 : Hid (Av p1 (fun k => k ≠ g1) (.agg (arow b.none b.zones b.lines b.days b.lo b.hi (.slice Ab b.daily.length cb) b.holder)) b) := Lib.hid (⟨Ab, cb, rfl, (hSb.below hup (Nat.le_refl _)).mono fun k _ hk => hk.2, hbb⟩)
  have HKa : Hid (aok a) := Lib.hid ha
  have HKb : Hid (aok b) := Lib.hid hb
  clear hmd hSa hSb haa hbb ha hb hdk hgl hbl hup hle
  go_upto_region 4 with fail
  rw [← hp]
  clear hp
  have hcs : ∀ W, Below p1.heap.size p1 W → W.cell? ⟨u1.heap.size, 0, none⟩ = some (.bool a.none) ∧ W.cell? ⟨u1.heap.size, 1, none⟩ = some (.int .u64 (a.zones : Int)) ∧ W.cell? ⟨u1.heap.size, 2, none⟩ = some (.int .u64 (a.lines : Int)) ∧ W.cell? ⟨u1.heap.size, 3, none⟩ = some (.int .u64 (a.days : Int)) ∧ W.cell? ⟨u1.heap.size, 4, none⟩ = some (.int .i64 a.lo) ∧ W.cell? ⟨u1.heap.size, 5, none⟩ = some (.int .i64 a.hi) ∧ W.cell? ⟨u1.heap.size, 6, none⟩ = some (.slice Aa a.daily.length ca) ∧ W.cell? ⟨u1.heap.size, 7, none⟩ = some (.string (sof a.holder)) := fun W hb => ARow.cells (Whole.below H6.out hb (Whole.lt H6.out))
  have hvv := fun W (hb : Below p1.heap.size p1 W) => Av.below (Av.any H8.out) hb (Nat.le_refl _)
  have hsm := aok_small HKa.out
  have hwP : w.heap.size ≤ p1.heap.size := Below.size H3.out
  have hgr : u1.heap.size < p1.heap.size := Whole.lt H6.out
  have hIn := fun W (hb : Below p1.heap.size p1 W) => (HI2.out.below (Below.trans H3.out (Below.mono hb hwP))).mono (Nat.le_trans hwP (Below.size hb))
  have HP := Lib.hid (And.intro hcs (And.intro hvv (And.intro hsm hIn)))
  clear hcs hvv hsm hIn
  go_cut [10] (fun s wx => SplR p1 s wx)
  case first =>
    refine wp_region_held_drew (S := fun W : World => W.cell? ⟨u1.heap.size, 0, none⟩ = some (.bool a.none) ∧ W.cell? ⟨u1.heap.size, 1, none⟩ = some (.int .u64 (a.zones : Int)) ∧ W.cell? ⟨u1.heap.size, 2, none⟩ = some (.int .u64 (a.lines : Int)) ∧ W.cell? ⟨u1.heap.size, 3, none⟩ = some (.int .u64 (a.days : Int)) ∧ W.cell? ⟨u1.heap.size, 4, none⟩ = some (.int .i64 a.lo) ∧ W.cell? ⟨u1.heap.size, 5, none⟩ = some (.int .i64 a.hi) ∧ W.cell? ⟨u1.heap.size, 6, none⟩ = some (.slice Aa a.daily.length ca) ∧ W.cell? ⟨u1.heap.size, 7, none⟩ = some (.string (sof a.holder))) (by kernel_rfl) (HP.out.1 _ (Below.drew (Below.refl _ _))) (fun hHeld => ?_)
    apply wpAnyH_take (i := 0) rfl (by kernel_rfl) (by kernel_rfl) (by kernel_rfl)
    case hQ => exact fun _ _ _ h => h
    case hS => exact hHeld
    case hy => (refine Or.inl ⟨by rfl, ?_⟩; intro w hSw; go_split_ands; go_simp; (try with_reducible rfl))
    (try simp only [List.getElem_toArray, List.getElem_cons_zero, Act.put, List.setIfInBounds_toArray, List.set_cons_zero, List.set_cons_succ])
    apply wpAnyH_take (i := 1) rfl (by kernel_rfl) (by kernel_rfl) (by kernel_rfl)
    case hQ => exact fun _ _ _ h => h
    case hS => exact hHeld
    case hy => (refine Or.inl ⟨by rfl, ?_⟩; intro w hSw; go_split_ands; go_simp; (try with_reducible rfl))
    (try simp only [List.getElem_toArray, List.getElem_cons_succ, List.getElem_cons_zero, Act.put, List.setIfInBounds_toArray, List.set_cons_zero, List.set_cons_succ])
    have hb0 : Below p1.heap.size p1 p1.drew := Below.drew (Below.refl _ _)
    refine wpAnyH_ready (rs := [2, 4]) (by kernel_rfl) (by simp) ?_
    refine AllReadyH.cons rfl (fun K hK => ?_) (AllReadyH.cons rfl (fun K hK => ?_) AllReadyH.nil)
    · (try simp only [List.getElem_toArray, List.getElem_cons_succ, List.getElem_cons_zero])
      go_simp
      go_at_call 11
      refine (dnew A2 _ c2 l2 _ HN2.out (HP.out.2.2.2 _ hb0)).mono ?_
      rintro e W1 ⟨rfl, hk1, hc1⟩
      have hb1 := Below.trans hb0 (Below.mono hc1 (Below.size hb0))
      refine hK.out _ _ (HP.out.1 _ hb1) (fun hHeld => ?_)
      clear hK K
      (try simp only [List.getElem_toArray, List.getElem_cons_succ, List.getElem_cons_zero, Act.put, List.setIfInBounds_toArray, List.set_cons_zero, List.set_cons_succ])
      refine wpAnyH_ready (rs := [3, 4]) (by kernel_rfl) (by simp) ?_
      refine AllReadyH.cons rfl (fun K hK => ?_) (AllReadyH.cons rfl (fun K hK => ?_) AllReadyH.nil)
      · (try simp only [List.getElem_toArray, List.getElem_cons_succ, List.getElem_cons_zero])
        go_simp
        go_at_call 10
        refine (aspoilt hk1 (HP.out.2.1 _ hb1) (fun b _ hb => by have h1 : b < p1.heap.size := hb; have h2 := (Below.size hb0); omega) HP.out.2.2.1.1 HP.out.2.2.1.2.1 HP.out.2.2.1.2.2).mono ?_
        rintro e W2 ⟨⟨zz, m2, rfl, hm⟩, hc2, ho2⟩
        obtain ⟨A2, c2, rfl, hS2, hmm2⟩ := hm
        have hb2 := Below.trans hb1 (Below.mono hc2 (Below.size hb0))
        refine hK.out _ _ (HP.out.1 _ hb2) (fun hHeld => ?_)
        clear hK K
        (try simp only [List.getElem_toArray, List.getElem_cons_succ, List.getElem_cons_zero, Act.put, List.setIfInBounds_toArray, List.set_cons_zero, List.set_cons_succ])
        refine wpAnyH_ready (rs := [4]) (by kernel_rfl) (by simp) ?_
        refine AllReadyH.cons rfl (fun K hK => ?_) AllReadyH.nil
        · (try simp only [List.getElem_toArray, List.getElem_cons_succ, List.getElem_cons_zero])
          go_simp
          have hV3 : Whole (W2.alloc (.cells zaut 25)) W2.heap.size 25 zaut := Whole.here _ _ _
          have hb3 : Below p1.heap.size p1 (W2.alloc (.cells zaut 25)) := Below.alloc hb2 (Below.size hb2) _
          have hS3 : Spn (W2.alloc (.cells zaut 25)) (fun k => k ≠ W2.heap.size) A2 c2 m2.daily := Seq.alloc (hS2.mono fun b hb _ => Nat.ne_of_lt hb) _
          refine hK.out _ _ (HP.out.1 _ hb3) (fun hHeld => ?_)
          clear hK K
          (try simp only [List.getElem_toArray, List.getElem_cons_succ, List.getElem_cons_zero, Act.put, List.setIfInBounds_toArray, List.set_cons_zero, List.set_cons_succ])
          refine wpAnyH_ready (rs := [5]) (by kernel_rfl) (by simp) ?_
          refine AllReadyH.cons rfl (fun K hK => ?_) AllReadyH.nil
          · (try simp only [List.getElem_toArray, List.getElem_cons_succ, List.getElem_cons_zero])
            rw [if_pos (by kernel_rfl)]
            refine wp_store_row 25 _ _ rfl W2.heap.size _ rfl rfl 25 _ hV3 (by kernel_rfl) rfl (by with_unfolding_all rfl) ?_
            have hR4 : ARow ((W2.alloc (.cells zaut 25)).setRow W2.heap.size (arow m2.none m2.zones m2.lines m2.days m2.lo m2.hi (.slice A2 m2.daily.length c2) m2.holder)) W2.heap.size m2.none m2.zones m2.lines m2.days m2.lo m2.hi (.slice A2 m2.daily.length c2) m2.holder := Whole.setRow hV3 _
            have hb4 : Below p1.heap.size p1 ((W2.alloc (.cells zaut 25)).setRow W2.heap.size (arow m2.none m2.zones m2.lines m2.days m2.lo m2.hi (.slice A2 m2.daily.length c2) m2.holder)) := below_setRow hb3 (Below.size hb2) _
            have hM4 : Av ((W2.alloc (.cells zaut 25)).setRow W2.heap.size (arow m2.none m2.zones m2.lines m2.days m2.lo m2.hi (.slice A2 m2.daily.length c2) m2.holder)) (fun _ => True) (.agg (avl m2 A2 c2)) m2 := ⟨A2, c2, rfl, (hS3.keep (by simp) fun b _ hb => setRow_other _ W2.heap.size b _ hb).mono fun _ _ _ => trivial, hmm2⟩
            refine hK.out _ _ (HP.out.1 _ hb4) (fun hHeld => ?_)
            clear hK K
            (try simp only [List.getElem_toArray, List.getElem_cons_succ, List.getElem_cons_zero, Act.put, List.setIfInBounds_toArray, List.set_cons_zero, List.set_cons_succ])
            refine wpAnyH_done (by kernel_rfl) ?_ _
            go_wp2_with fail
            go_meet
            exact ⟨W2.heap.size, m2, A2, c2, rfl, hR4, hM4, hb4⟩
      · (try simp only [List.getElem_toArray, List.getElem_cons_succ, List.getElem_cons_zero])
        go_simp
        have hV5 : Whole (W1.alloc (.cells zaut 25)) W1.heap.size 25 zaut := Whole.here _ _ _
        have hb5 : Below p1.heap.size p1 (W1.alloc (.cells zaut 25)) := Below.alloc hb1 (Below.size hb1) _
        have hk5 := Deck.alloc hk1 (.cells zaut 25)
        have hne : W1.heap.size ≠ p1.drew.heap.size := Nat.ne_of_gt (Deck.lt hk1)
        refine hK.out _ _ (HP.out.1 _ hb5) (fun hHeld => ?_)
        clear hK K
        (try simp only [List.getElem_toArray, List.getElem_cons_succ, List.getElem_cons_zero, Act.put, List.setIfInBounds_toArray, List.set_cons_zero, List.set_cons_succ])
        refine wpAnyH_ready (rs := [3]) (by kernel_rfl) (by simp) ?_
        refine AllReadyH.cons rfl (fun K hK => ?_) AllReadyH.nil
        · (try simp only [List.getElem_toArray, List.getElem_cons_succ, List.getElem_cons_zero])
          go_simp
          go_at_call 10
          refine (aspoilt hk5 (HP.out.2.1 _ hb5) (fun b _ hb => by have h1 : b < p1.heap.size := hb; have h2 := (Below.size hb0); omega) HP.out.2.2.1.1 HP.out.2.2.1.2.1 HP.out.2.2.1.2.2).mono ?_
          rintro e W6 ⟨⟨zz, m6, rfl, hm⟩, hc6, ho6⟩
          obtain ⟨A6, c6, rfl, hS6, hmm6⟩ := hm
          have hb6 := Below.trans hb5 (Below.mono hc6 (Below.size hb0))
          have hV6 : Whole W6 W1.heap.size 25 zaut := ho6.oth _ _ _ hne hV5
          have hS6 : Spn W6 (fun k => k ≠ W1.heap.size) A6 c6 m6.daily := hS6.mono fun b _ hb => (by have h1 := (Below.size hb1); have h2 := Whole.lt hV5; have hb1 : b < p1.heap.size ∨ (W1.alloc (.cells zaut 25)).heap.size ≤ b := hb.imp (fun q => q.2) id; omega)
          refine hK.out _ _ (HP.out.1 _ hb6) (fun hHeld => ?_)
          clear hK K
          (try simp only [List.getElem_toArray, List.getElem_cons_succ, List.getElem_cons_zero, Act.put, List.setIfInBounds_toArray, List.set_cons_zero, List.set_cons_succ])
          refine wpAnyH_ready (rs := [5]) (by kernel_rfl) (by simp) ?_
          refine AllReadyH.cons rfl (fun K hK => ?_) AllReadyH.nil
          · (try simp only [List.getElem_toArray, List.getElem_cons_succ, List.getElem_cons_zero])
            rw [if_pos (by kernel_rfl)]
            refine wp_store_row 25 _ _ rfl W1.heap.size _ rfl rfl 25 _ hV6 (by kernel_rfl) rfl (by with_unfolding_all rfl) ?_
            have hR7 : ARow (W6.setRow W1.heap.size (arow m6.none m6.zones m6.lines m6.days m6.lo m6.hi (.slice A6 m6.daily.length c6) m6.holder)) W1.heap.size m6.none m6.zones m6.lines m6.days m6.lo m6.hi (.slice A6 m6.daily.length c6) m6.holder := Whole.setRow hV6 _
            have hb7 : Below p1.heap.size p1 (W6.setRow W1.heap.size (arow m6.none m6.zones m6.lines m6.days m6.lo m6.hi (.slice A6 m6.daily.length c6) m6.holder)) := below_setRow hb6 (Below.size hb1) _
            have hM7 : Av (W6.setRow W1.heap.size (arow m6.none m6.zones m6.lines m6.days m6.lo m6.hi (.slice A6 m6.daily.length c6) m6.holder)) (fun _ => True) (.agg (avl m6 A6 c6)) m6 := ⟨A6, c6, rfl, (hS6.keep (by simp) fun b _ hb => setRow_other _ W1.heap.size b _ hb).mono fun _ _ _ => trivial, hmm6⟩
            refine hK.out _ _ (HP.out.1 _ hb7) (fun hHeld => ?_)
            clear hK K
            (try simp only [List.getElem_toArray, List.getElem_cons_succ, List.getElem_cons_zero, Act.put, List.setIfInBounds_toArray, List.set_cons_zero, List.set_cons_succ])
            refine wpAnyH_done (by kernel_rfl) ?_ _
            go_wp2_with fail
            go_meet
            exact ⟨W1.heap.size, m6, A6, c6, rfl, hR7, hM7, hb7⟩
    · (try simp only [List.getElem_toArray, List.getElem_cons_succ, List.getElem_cons_zero])
      go_simp
      have hV8 : Whole (p1.alloc (.cells zaut 25)).drew p1.heap.size 25 zaut := Whole.drew (Whole.here _ _ _)
      have hb8 : Below p1.heap.size p1 (p1.alloc (.cells zaut 25)).drew := Below.drew (Below.alloc (Below.refl _ _) (Nat.le_refl _) _)
      generalize (p1.alloc (.cells zaut 25)).drew = W8 at hV8 hb8 ⊢
      refine hK.out _ _ (HP.out.1 _ hb8) (fun hHeld => ?_)
      clear hK K
      (try simp only [List.getElem_toArray, List.getElem_cons_succ, List.getElem_cons_zero, Act.put, List.setIfInBounds_toArray, List.set_cons_zero, List.set_cons_succ])
      refine wpAnyH_ready (rs := [2]) (by kernel_rfl) (by simp) ?_
      refine AllReadyH.cons rfl (fun K hK => ?_) AllReadyH.nil
      · (try simp only [List.getElem_toArray, List.getElem_cons_succ, List.getElem_cons_zero])
        go_simp
        go_at_call 11
        refine (dnew A2 _ c2 l2 _ HN2.out (HP.out.2.2.2 _ hb8)).mono ?_
        rintro e W9 ⟨rfl, hk9, hc9⟩
        have hb9 := Below.trans hb8 (Below.mono hc9 (Below.size hb8))
        have hV9 := Whole.below hV8 hc9 (Whole.lt hV8)
        have hne : p1.heap.size ≠ W8.heap.size := Nat.ne_of_lt (Whole.lt hV8)
        refine hK.out _ _ (HP.out.1 _ hb9) (fun hHeld => ?_)
        clear hK K
        (try simp only [List.getElem_toArray, List.getElem_cons_succ, List.getElem_cons_zero, Act.put, List.setIfInBounds_toArray, List.set_cons_zero, List.set_cons_succ])
        refine wpAnyH_ready (rs := [3]) (by kernel_rfl) (by simp) ?_
        refine AllReadyH.cons rfl (fun K hK => ?_) AllReadyH.nil
        · (try simp only [List.getElem_toArray, List.getElem_cons_succ, List.getElem_cons_zero])
          go_simp
          go_at_call 10
          refine (aspoilt hk9 (HP.out.2.1 _ hb9) (fun b _ hb => by have h1 : b < p1.heap.size := hb; have h2 := (Below.size hb8); omega) HP.out.2.2.1.1 HP.out.2.2.1.2.1 HP.out.2.2.1.2.2).mono ?_
          rintro e W10 ⟨⟨zz, m10, rfl, hm⟩, hc10, ho10⟩
          obtain ⟨A10, c10, rfl, hS10, hmm10⟩ := hm
          have hb10 := Below.trans hb9 (Below.mono hc10 (Below.size hb8))
          have hV10 : Whole W10 p1.heap.size 25 zaut := ho10.oth _ _ _ hne hV9
          have hS10 : Spn W10 (fun k => k ≠ p1.heap.size) A10 c10 m10.daily := hS10.mono fun b _ hb => (by have h1 := (Nat.le_refl p1.heap.size); have h2 := Whole.lt hV9; have hb1 : b < p1.heap.size ∨ W9.heap.size ≤ b := hb.imp (fun q => q.2) id; omega)
          refine hK.out _ _ (HP.out.1 _ hb10) (fun hHeld => ?_)
          clear hK K
          (try simp only [List.getElem_toArray, List.getElem_cons_succ, List.getElem_cons_zero, Act.put, List.setIfInBounds_toArray, List.set_cons_zero, List.set_cons_succ])
          refine wpAnyH_ready (rs := [5]) (by kernel_rfl) (by simp) ?_
          refine AllReadyH.cons rfl (fun K hK => ?_) AllReadyH.nil
          · (try simp only [List.getElem_toArray, List.getElem_cons_succ, List.getElem_cons_zero])
            rw [if_pos (by kernel_rfl)]
            refine wp_store_row 25 _ _ rfl p1.heap.size _ rfl rfl 25 _ hV10 (by kernel_rfl) rfl (by with_unfolding_all rfl) ?_
            have hR11 : ARow (W10.setRow p1.heap.size (arow m10.none m10.zones m10.lines m10.days m10.lo m10.hi (.slice A10 m10.daily.length c10) m10.holder)) p1.heap.size m10.none m10.zones m10.lines m10.days m10.lo m10.hi (.slice A10 m10.daily.length c10) m10.holder := Whole.setRow hV10 _
            have hb11 : Below p1.heap.size p1 (W10.setRow p1.heap.size (arow m10.none m10.zones m10.lines m10.days m10.lo m10.hi (.slice A10 m10.daily.length c10) m10.holder)) := below_setRow hb10 (Nat.le_refl p1.heap.size) _
            have hM11 : Av (W10.setRow p1.heap.size (arow m10.none m10.zones m10.lines m10.days m10.lo m10.hi (.slice A10 m10.daily.length c10) m10.holder)) (fun _ => True) (.agg (avl m10 A10 c10)) m10 := ⟨A10, c10, rfl, (hS10.keep (by simp) fun b _ hb => setRow_other _ p1.heap.size b _ hb).mono fun _ _ _ => trivial, hmm10⟩
            refine hK.out _ _ (HP.out.1 _ hb11) (fun hHeld => ?_)
            clear hK K
            (try simp only [List.getElem_toArray, List.getElem_cons_succ, List.getElem_cons_zero, Act.put, List.setIfInBounds_toArray, List.set_cons_zero, List.set_cons_succ])
            refine wpAnyH_done (by kernel_rfl) ?_ _
            go_wp2_with fail
            go_meet
            exact ⟨p1.heap.size, m10, A10, c10, rfl, hR11, hM11, hb11⟩
  case rest =>
    obtain ⟨gy, y, Ay, cy, rfl, hry, hay, hbs⟩ := hcut
    have H10 : Hid (Below w.heap.size w wc) := Lib.hid (Below.trans H3.out (Below.mono hbs (Below.size H3.out)))
    have H11 : Hid (ARow wc w.heap.size f.none f.zones f.lines f.days f.lo f.hi (.slice Af f.daily.length cf) f.holder) := Lib.hid (Whole.below H4.out hbs (Whole.lt H4.out))
    have H12 : Hid (Av wc (fun _ => True) (.agg (arow f.none f.zones f.lines f.days f.lo f.hi (.slice Af f.daily.length cf) f.holder)) f) := Lib.hid (Av.below H5.out hbs (Nat.le_refl _))
    have H13 : Hid (ARow wc u1.heap.size a.none a.zones a.lines a.days a.lo a.hi (.slice Aa a.daily.length ca) a.holder) := Lib.hid (Whole.below H6.out hbs (Whole.lt H6.out))
    have H14 : Hid (ARow wc (u1.heap.size + 1) b.none b.zones b.lines b.days b.lo b.hi (.slice Ab b.daily.length cb) b.holder) := Lib.hid (Whole.below H7.out hbs (Whole.lt H7.out))
    have H15 : Hid (Av wc (fun k => k ≠ g1) (.agg (arow a.none a.zones a.lines a.days a.lo a.hi (.slice Aa a.daily.length ca) a.holder)) a) := Lib.hid (Av.below H8.out hbs (Nat.le_refl _))
    have H16 : Hid (Av wc (fun k => k ≠ g1) (.agg (arow b.none b.zones b.lines b.days b.lo b.hi (.slice Ab b.daily.length cb) b.holder)) b) := Lib.hid (Av.below H9.out hbs (Nat.le_refl _))
    clear H3 H4 H5 H6 H7 H8 H9
    have H17 : Hid (ARow wc gy y.none y.zones y.lines y.days y.lo y.hi (.slice Ay y.daily.length cy) y.holder) := Lib.hid (hry)
    have H18 : Hid (Av wc (fun _ => True) (.agg (arow y.none y.zones y.lines y.days y.lo y.hi (.slice Ay y.daily.length cy) y.holder)) y) := Lib.hid (hay)
    clear hry hay hbs HP hwP hgr
    obtain ⟨Vf, hVf⟩ : ∃ v, decide (aok f) = v := ⟨_, rfl⟩
    obtain ⟨Vy, hVy⟩ : ∃ v, decide (aok y) = v := ⟨_, rfl⟩
    have kf : (Vf == Vf) = true := by simp
    have ky : (Vy == Vy) = true := by simp
    go_upto_region 5 with fail
    have hcc : ∀ W, Below wc.heap.size wc W → W.cell? ⟨u1.heap.size, 0, none⟩ = some (.bool a.none) ∧ W.cell? ⟨u1.heap.size, 1, none⟩ = some (.int .u64 (a.zones : Int)) ∧ W.cell? ⟨u1.heap.size, 2, none⟩ = some (.int .u64 (a.lines : Int)) ∧ W.cell? ⟨u1.heap.size, 3, none⟩ = some (.int .u64 (a.days : Int)) ∧ W.cell? ⟨u1.heap.size, 4, none⟩ = some (.int .i64 a.lo) ∧ W.cell? ⟨u1.heap.size, 5, none⟩ = some (.int .i64 a.hi) ∧ W.cell? ⟨u1.heap.size, 6, none⟩ = some (.slice Aa a.daily.length ca) ∧ W.cell? ⟨u1.heap.size, 7, none⟩ = some (.string (sof a.holder)) ∧ W.cell? ⟨w.heap.size, 0, none⟩ = some (.bool f.none) ∧ W.cell? ⟨w.heap.size, 1, none⟩ = some (.int .u64 (f.zones : Int)) ∧ W.cell? ⟨w.heap.size, 2, none⟩ = some (.int .u64 (f.lines : Int)) ∧ W.cell? ⟨w.heap.size, 3, none⟩ = some (.int .u64 (f.days : Int)) ∧ W.cell? ⟨w.heap.size, 4, none⟩ = some (.int .i64 f.lo) ∧ W.cell? ⟨w.heap.size, 5, none⟩ = some (.int .i64 f.hi) ∧ W.cell? ⟨w.heap.size, 6, none⟩ = some (.slice Af f.daily.length cf) ∧ W.cell? ⟨w.heap.size, 7, none⟩ = some (.string (sof f.holder)) ∧ W.cell? ⟨gy, 0, none⟩ = some (.bool y.none) ∧ W.cell? ⟨gy, 1, none⟩ = some (.int .u64 (y.zones : Int)) ∧ W.cell? ⟨gy, 2, none⟩ = some (.int .u64 (y.lines : Int)) ∧ W.cell? ⟨gy, 3, none⟩ = some (.int .u64 (y.days : Int)) ∧ W.cell? ⟨gy, 4, none⟩ = some (.int .i64 y.lo) ∧ W.cell? ⟨gy, 5, none⟩ = some (.int .i64 y.hi) ∧ W.cell? ⟨gy, 6, none⟩ = some (.slice Ay y.daily.length cy) ∧ W.cell? ⟨gy, 7, none⟩ = some (.string (sof y.holder)) := fun W hb => by
      obtain ⟨x0_0, x0_1, x0_2, x0_3, x0_4, x0_5, x0_6, x0_7⟩ := ARow.cells (Whole.below H13.out hb (Whole.lt H13.out))
      obtain ⟨x1_0, x1_1, x1_2, x1_3, x1_4, x1_5, x1_6, x1_7⟩ := ARow.cells (Whole.below H11.out hb (Whole.lt H11.out))
      obtain ⟨x2_0, x2_1, x2_2, x2_3, x2_4, x2_5, x2_6, x2_7⟩ := ARow.cells (Whole.below H17.out hb (Whole.lt H17.out))
      exact ⟨x0_0, x0_1, x0_2, x0_3, x0_4, x0_5, x0_6, x0_7, x1_0, x1_1, x1_2, x1_3, x1_4, x1_5, x1_6, x1_7, x2_0, x2_1, x2_2, x2_3, x2_4, x2_5, x2_6, x2_7⟩
    refine wp_region_held_drew (S := fun W => W.cell? ⟨u1.heap.size, 0, none⟩ = some (.bool a.none) ∧ W.cell? ⟨u1.heap.size, 1, none⟩ = some (.int .u64 (a.zones : Int)) ∧ W.cell? ⟨u1.heap.size, 2, none⟩ = some (.int .u64 (a.lines : Int)) ∧ W.cell? ⟨u1.heap.size, 3, none⟩ = some (.int .u64 (a.days : Int)) ∧ W.cell? ⟨u1.heap.size, 4, none⟩ = some (.int .i64 a.lo) ∧ W.cell? ⟨u1.heap.size, 5, none⟩ = some (.int .i64 a.hi) ∧ W.cell? ⟨u1.heap.size, 6, none⟩ = some (.slice Aa a.daily.length ca) ∧ W.cell? ⟨u1.heap.size, 7, none⟩ = some (.string (sof a.holder)) ∧ W.cell? ⟨w.heap.size, 0, none⟩ = some (.bool f.none) ∧ W.cell? ⟨w.heap.size, 1, none⟩ = some (.int .u64 (f.zones : Int)) ∧ W.cell? ⟨w.heap.size, 2, none⟩ = some (.int .u64 (f.lines : Int)) ∧ W.cell? ⟨w.heap.size, 3, none⟩ = some (.int .u64 (f.days : Int)) ∧ W.cell? ⟨w.heap.size, 4, none⟩ = some (.int .i64 f.lo) ∧ W.cell? ⟨w.heap.size, 5, none⟩ = some (.int .i64 f.hi) ∧ W.cell? ⟨w.heap.size, 6, none⟩ = some (.slice Af f.daily.length cf) ∧ W.cell? ⟨w.heap.size, 7, none⟩ = some (.string (sof f.holder)) ∧ W.cell? ⟨gy, 0, none⟩ = some (.bool y.none) ∧ W.cell? ⟨gy, 1, none⟩ = some (.int .u64 (y.zones : Int)) ∧ W.cell? ⟨gy, 2, none⟩ = some (.int .u64 (y.lines : Int)) ∧ W.cell? ⟨gy, 3, none⟩ = some (.int .u64 (y.days : Int)) ∧ W.cell? ⟨gy, 4, none⟩ = some (.int .i64 y.lo) ∧ W.cell? ⟨gy, 5, none⟩ = some (.int .i64 y.hi) ∧ W.cell? ⟨gy, 6, none⟩ = some (.slice Ay y.daily.length cy) ∧ W.cell? ⟨gy, 7, none⟩ = some (.string (sof y.holder))) (by kernel_rfl) (hcc _ (Below.drew (Below.refl _ _))) (fun hHeld => ?_)
    apply wpAnyH_take (i := 0) rfl (by kernel_rfl) (by kernel_rfl) (by kernel_rfl)
    case hQ => exact fun _ _ _ h => h
    case hS => exact hHeld
    case hy => (refine Or.inl ⟨by rfl, ?_⟩; intro w hSw; go_split_ands; go_simp; (try with_reducible rfl))
    (try simp only [List.getElem_toArray, List.getElem_cons_zero, Act.put, List.setIfInBounds_toArray, List.set_cons_zero, List.set_cons_succ])
    refine wpAnyH_ready (rs := [1]) (by kernel_rfl) (by simp) ?_
    refine AllReadyH.cons rfl (fun K hK => ?_) AllReadyH.nil
    (try simp only [List.getElem_toArray, List.getElem_cons_succ, List.getElem_cons_zero])
    go_simp
    go_at_call 12
    refine (law_valid (Below.drew (Below.refl _ _)) (Av.below H15.out (Below.drew (Below.refl _ _)) (Nat.le_refl _)) (decide_eq_true HKa.out)).mono ?_
    rintro e w10 ⟨rfl, b10, r10⟩
    refine hK.out _ _ (hcc _ b10) (fun hHeld => ?_)
    clear hK K
    (try simp only [List.getElem_toArray, List.getElem_cons_succ, List.getElem_cons_zero, Act.put, List.setIfInBounds_toArray, List.set_cons_zero, List.set_cons_succ])
    apply wpAnyH_take (i := 2) rfl (by kernel_rfl) (by kernel_rfl) (by kernel_rfl)
    case hQ => exact fun _ _ _ h => h
    case hS => exact hHeld
    case hy => (refine Or.inl ⟨by rfl, ?_⟩; intro w hSw; go_split_ands; go_simp; (try with_reducible rfl))
    (try simp only [List.getElem_toArray, List.getElem_cons_succ, List.getElem_cons_zero, Act.put, List.setIfInBounds_toArray, List.set_cons_zero, List.set_cons_succ])
    refine wpAnyH_ready (rs := [3]) (by kernel_rfl) (by simp) ?_
    refine AllReadyH.cons rfl (fun K hK => ?_) AllReadyH.nil
    (try simp only [List.getElem_toArray, List.getElem_cons_succ, List.getElem_cons_zero])
    go_simp
    go_at_call 13
    refine (law_full b10).mono ?_
    rintro e w11 ⟨⟨z11, rfl, hz11⟩, b11, r11⟩
    refine hK.out _ _ (hcc _ b11) (fun hHeld => ?_)
    clear hK K
    (try simp only [List.getElem_toArray, List.getElem_cons_succ, List.getElem_cons_zero, Act.put, List.setIfInBounds_toArray, List.set_cons_zero, List.set_cons_succ])
    refine wpAnyH_ready (rs := [4]) (by kernel_rfl) (by simp) ?_
    refine AllReadyH.cons rfl (fun K hK => ?_) AllReadyH.nil
    (try simp only [List.getElem_toArray, List.getElem_cons_succ, List.getElem_cons_zero])
    go_simp
    go_at_call 12
    refine (law_valid b11 hz11 (decide_eq_true full_set.1)).mono ?_
    rintro e w12 ⟨rfl, b12, r12⟩
    refine hK.out _ _ (hcc _ b12) (fun hHeld => ?_)
    clear hK K
    (try simp only [List.getElem_toArray, List.getElem_cons_succ, List.getElem_cons_zero, Act.put, List.setIfInBounds_toArray, List.set_cons_zero, List.set_cons_succ])
    apply wpAnyH_take (i := 5) rfl (by kernel_rfl) (by kernel_rfl) (by kernel_rfl)
    case hQ => exact fun _ _ _ h => h
    case hS => exact hHeld
    case hy => (refine Or.inl ⟨by rfl, ?_⟩; intro w hSw; go_split_ands; go_simp; (try with_reducible rfl))
    (try simp only [List.getElem_toArray, List.getElem_cons_succ, List.getElem_cons_zero, Act.put, List.setIfInBounds_toArray, List.set_cons_zero, List.set_cons_succ])
    apply wpAnyH_take (i := 6) rfl (by kernel_rfl) (by kernel_rfl) (by kernel_rfl)
    case hQ => exact fun _ _ _ h => h
    case hS => exact hHeld
    case hy => (refine Or.inl ⟨by rfl, ?_⟩; intro w hSw; go_split_ands; go_simp; (try with_reducible rfl))
    (try simp only [List.getElem_toArray, List.getElem_cons_succ, List.getElem_cons_zero, Act.put, List.setIfInBounds_toArray, List.set_cons_zero, List.set_cons_succ])
    apply wpAnyH_take (i := 7) rfl (by kernel_rfl) (by kernel_rfl) (by kernel_rfl)
    case hQ => exact fun _ _ _ h => h
    case hS => exact hHeld
    case hy => (refine Or.inl ⟨by rfl, ?_⟩; intro w hSw; go_split_ands; go_simp; (try with_reducible rfl))
    (try simp only [List.getElem_toArray, List.getElem_cons_succ, List.getElem_cons_zero, Act.put, List.setIfInBounds_toArray, List.set_cons_zero, List.set_cons_succ])
    apply wpAnyH_take (i := 9) rfl (by kernel_rfl) (by kernel_rfl) (by kernel_rfl)
    case hQ => exact fun _ _ _ h => h
    case hS => exact hHeld
    case hy => (refine Or.inl ⟨by rfl, ?_⟩; intro w hSw; go_split_ands; go_simp; (try with_reducible rfl))
    (try simp only [List.getElem_toArray, List.getElem_cons_succ, List.getElem_cons_zero, Act.put, List.setIfInBounds_toArray, List.set_cons_zero, List.set_cons_succ])
    refine wpAnyH_ready (rs := [8]) (by kernel_rfl) (by simp) ?_
    refine AllReadyH.cons rfl (fun K hK => ?_) AllReadyH.nil
    (try simp only [List.getElem_toArray, List.getElem_cons_succ, List.getElem_cons_zero])
    go_simp
    go_at_call 12
    refine (law_valid b12 (Av.below H12.out b12 (Nat.le_refl _)) hVf).mono ?_
    rintro e w13 ⟨rfl, b13, r13⟩
    refine hK.out _ _ (hcc _ b13) (fun hHeld => ?_)
    clear hK K
    (try simp only [List.getElem_toArray, List.getElem_cons_succ, List.getElem_cons_zero, Act.put, List.setIfInBounds_toArray, List.set_cons_zero, List.set_cons_succ])
    refine wpAnyH_ready (rs := [10]) (by kernel_rfl) (by simp) ?_
    refine AllReadyH.cons rfl (fun K hK => ?_) AllReadyH.nil
    (try simp only [List.getElem_toArray, List.getElem_cons_succ, List.getElem_cons_zero])
    go_simp
    go_at_call 14
    refine (law_rok b13 (Av.below H12.out b13 (Nat.le_refl _)) hVf).mono ?_
    rintro e w14 ⟨rfl, b14, r14⟩
    refine hK.out _ _ (hcc _ b14) (fun hHeld => ?_)
    clear hK K
    (try simp only [List.getElem_toArray, List.getElem_cons_succ, List.getElem_cons_zero, Act.put, List.setIfInBounds_toArray, List.set_cons_zero, List.set_cons_succ])
    apply wpAnyH_take (i := 11) rfl (by kernel_rfl) (by kernel_rfl) (by kernel_rfl)
    case hQ => exact fun _ _ _ h => h
    case hS => exact hHeld
    case hy => (refine Or.inl ⟨by rfl, ?_⟩; intro w hSw; go_split_ands; go_simp; (try with_reducible rfl))
    (try simp only [List.getElem_toArray, List.getElem_cons_succ, List.getElem_cons_zero, Act.put, List.setIfInBounds_toArray, List.set_cons_zero, List.set_cons_succ])
    apply wpAnyH_take (i := 12) rfl (by kernel_rfl) (by kernel_rfl) (by kernel_rfl)
    case hQ => exact fun _ _ _ h => h
    case hS => exact hHeld
    case hy => (refine Or.inl ⟨by rfl, ?_⟩; intro w hSw; go_split_ands; go_simp; (try with_reducible rfl))
    (try simp only [List.getElem_toArray, List.getElem_cons_succ, List.getElem_cons_zero, Act.put, List.setIfInBounds_toArray, List.set_cons_zero, List.set_cons_succ])
    apply wpAnyH_take (i := 13) rfl (by kernel_rfl) (by kernel_rfl) (by kernel_rfl)
    case hQ => exact fun _ _ _ h => h
    case hS => exact hHeld
    case hy => (refine Or.inl ⟨by rfl, ?_⟩; intro w hSw; go_split_ands; go_simp; (try with_reducible rfl))
    (try simp only [List.getElem_toArray, List.getElem_cons_succ, List.getElem_cons_zero, Act.put, List.setIfInBounds_toArray, List.set_cons_zero, List.set_cons_succ])
    apply wpAnyH_take (i := 14) rfl (by kernel_rfl) (by kernel_rfl) (by kernel_rfl)
    case hQ => exact fun _ _ _ h => h
    case hS => exact hHeld
    case hy => (refine Or.inl ⟨by rfl, ?_⟩; intro w hSw; go_split_ands; go_simp; (try with_reducible rfl))
    (try simp only [List.getElem_toArray, List.getElem_cons_succ, List.getElem_cons_zero, Act.put, List.setIfInBounds_toArray, List.set_cons_zero, List.set_cons_succ])
    apply wpAnyH_take (i := 16) rfl (by kernel_rfl) (by kernel_rfl) (by kernel_rfl)
    case hQ => exact fun _ _ _ h => h
    case hS => exact hHeld
    case hy => (refine Or.inl ⟨by rfl, ?_⟩; intro w hSw; go_split_ands; go_simp; (try with_reducible rfl))
    (try simp only [List.getElem_toArray, List.getElem_cons_succ, List.getElem_cons_zero, Act.put, List.setIfInBounds_toArray, List.set_cons_zero, List.set_cons_succ])
    refine wpAnyH_ready (rs := [15]) (by kernel_rfl) (by simp) ?_
    refine AllReadyH.cons rfl (fun K hK => ?_) AllReadyH.nil
    (try simp only [List.getElem_toArray, List.getElem_cons_succ, List.getElem_cons_zero])
    go_simp
    go_at_call 12
    refine (law_valid b14 (Av.below H18.out b14 (Nat.le_refl _)) hVy).mono ?_
    rintro e w15 ⟨rfl, b15, r15⟩
    refine hK.out _ _ (hcc _ b15) (fun hHeld => ?_)
    clear hK K
    (try simp only [List.getElem_toArray, List.getElem_cons_succ, List.getElem_cons_zero, Act.put, List.setIfInBounds_toArray, List.set_cons_zero, List.set_cons_succ])
    refine wpAnyH_ready (rs := [17]) (by kernel_rfl) (by simp) ?_
    refine AllReadyH.cons rfl (fun K hK => ?_) AllReadyH.nil
    (try simp only [List.getElem_toArray, List.getElem_cons_succ, List.getElem_cons_zero])
    go_simp
    go_at_call 14
    refine (law_rok b15 (Av.below H18.out b15 (Nat.le_refl _)) hVy).mono ?_
    rintro e w16 ⟨rfl, b16, r16⟩
    refine hK.out _ _ (hcc _ b16) (fun hHeld => ?_)
    clear hK K
    (try simp only [List.getElem_toArray, List.getElem_cons_succ, List.getElem_cons_zero, Act.put, List.setIfInBounds_toArray, List.set_cons_zero, List.set_cons_succ])
    apply wpAnyH_take (i := 18) rfl (by kernel_rfl) (by kernel_rfl) (by kernel_rfl)
    case hQ => exact fun _ _ _ h => h
    case hS => exact hHeld
    case hy => (refine Or.inl ⟨by rfl, ?_⟩; intro w hSw; go_split_ands; go_simp; (try with_reducible rfl))
    (try simp only [List.getElem_toArray, List.getElem_cons_succ, List.getElem_cons_zero, Act.put, List.setIfInBounds_toArray, List.set_cons_zero, List.set_cons_succ])
    apply wpAnyH_take (i := 19) rfl (by kernel_rfl) (by kernel_rfl) (by kernel_rfl)
    case hQ => exact fun _ _ _ h => h
    case hS => exact hHeld
    case hy => (refine Or.inl ⟨by rfl, ?_⟩; intro w hSw; go_split_ands; go_simp; (try with_reducible rfl))
    (try simp only [List.getElem_toArray, List.getElem_cons_succ, List.getElem_cons_zero, Act.put, List.setIfInBounds_toArray, List.set_cons_zero, List.set_cons_succ])
    apply wpAnyH_take (i := 20) rfl (by kernel_rfl) (by kernel_rfl) (by kernel_rfl)
    case hQ => exact fun _ _ _ h => h
    case hS => exact hHeld
    case hy => (refine Or.inl ⟨by rfl, ?_⟩; intro w hSw; go_split_ands; go_simp; (try with_reducible rfl))
    (try simp only [List.getElem_toArray, List.getElem_cons_succ, List.getElem_cons_zero, Act.put, List.setIfInBounds_toArray, List.set_cons_zero, List.set_cons_succ])
    refine wpAnyH_ready (rs := [21]) (by kernel_rfl) (by simp) ?_
    refine AllReadyH.cons rfl (fun K hK => ?_) AllReadyH.nil
    (try simp only [List.getElem_toArray, List.getElem_cons_succ, List.getElem_cons_zero])
    go_simp
    go_at_call 13
    refine (law_full b16).mono ?_
    rintro e w17 ⟨⟨z17, rfl, hz17⟩, b17, r17⟩
    refine hK.out _ _ (hcc _ b17) (fun hHeld => ?_)
    clear hK K
    (try simp only [List.getElem_toArray, List.getElem_cons_succ, List.getElem_cons_zero, Act.put, List.setIfInBounds_toArray, List.set_cons_zero, List.set_cons_succ])
    refine wpAnyH_ready (rs := [22]) (by kernel_rfl) (by simp) ?_
    refine AllReadyH.cons rfl (fun K hK => ?_) AllReadyH.nil
    (try simp only [List.getElem_toArray, List.getElem_cons_succ, List.getElem_cons_zero])
    go_simp
    go_at_call 16
    refine (law_rfull b17).mono ?_
    rintro e w18 ⟨⟨z18, rfl, hz18⟩, b18, r18⟩
    refine hK.out _ _ (hcc _ b18) (fun hHeld => ?_)
    clear hK K
    (try simp only [List.getElem_toArray, List.getElem_cons_succ, List.getElem_cons_zero, Act.put, List.setIfInBounds_toArray, List.set_cons_zero, List.set_cons_succ])
    refine wpAnyH_ready (rs := [23]) (by kernel_rfl) (by simp) ?_
    refine AllReadyH.cons rfl (fun K hK => ?_) AllReadyH.nil
    (try simp only [List.getElem_toArray, List.getElem_cons_succ, List.getElem_cons_zero])
    go_simp
    go_at_call 15
    refine (law_same b18 (Av.below hz17 r18 (Nat.le_refl _)) hz18 (decide_eq_true rfl)).mono ?_
    rintro e w19 ⟨rfl, b19, r19⟩
    refine hK.out _ _ (hcc _ b19) (fun hHeld => ?_)
    clear hK K
    (try simp only [List.getElem_toArray, List.getElem_cons_succ, List.getElem_cons_zero, Act.put, List.setIfInBounds_toArray, List.set_cons_zero, List.set_cons_succ])
    apply wpAnyH_take (i := 24) rfl (by kernel_rfl) (by kernel_rfl) (by kernel_rfl)
    case hQ => exact fun _ _ _ h => h
    case hS => exact hHeld
    case hy => (refine Or.inl ⟨by rfl, ?_⟩; intro w hSw; go_split_ands; go_simp; (try with_reducible rfl))
    (try simp only [List.getElem_toArray, List.getElem_cons_succ, List.getElem_cons_zero, Act.put, List.setIfInBounds_toArray, List.set_cons_zero, List.set_cons_succ])
    apply wpAnyH_take (i := 25) rfl (by kernel_rfl) (by kernel_rfl) (by kernel_rfl)
    case hQ => exact fun _ _ _ h => h
    case hS => exact hHeld
    case hy => (refine Or.inl ⟨by rfl, ?_⟩; intro w hSw; go_split_ands; go_simp; (try with_reducible rfl))
    (try simp only [List.getElem_toArray, List.getElem_cons_succ, List.getElem_cons_zero, Act.put, List.setIfInBounds_toArray, List.set_cons_zero, List.set_cons_succ])
    refine wpAnyH_ready (rs := [26]) (by kernel_rfl) (by simp) ?_
    refine AllReadyH.cons rfl (fun K hK => ?_) AllReadyH.nil
    (try simp only [List.getElem_toArray, List.getElem_cons_succ, List.getElem_cons_zero])
    go_simp
    go_at_call 8
    refine (law_awake b19).mono ?_
    rintro e w20 ⟨rfl, b20, -⟩
    refine hK.out _ _ (hcc _ b20) (fun hHeld => ?_)
    clear hK K
    (try simp only [List.getElem_toArray, List.getElem_cons_succ, List.getElem_cons_zero, Act.put, List.setIfInBounds_toArray, List.set_cons_zero, List.set_cons_succ])
    apply wpAnyH_take (i := 27) rfl (by kernel_rfl) (by kernel_rfl) (by kernel_rfl)
    case hQ => exact fun _ _ _ h => h
    case hS => exact hHeld
    case hy => (refine Or.inl ⟨by rfl, ?_⟩; intro w hSw; go_split_ands; go_simp; (try with_reducible rfl))
    (try simp only [List.getElem_toArray, List.getElem_cons_succ, List.getElem_cons_zero, Act.put, List.setIfInBounds_toArray, List.set_cons_zero, List.set_cons_succ])
    apply wpAnyH_take (i := 28) rfl (by kernel_rfl) (by kernel_rfl) (by kernel_rfl)
    case hQ => exact fun _ _ _ h => h
    case hS => exact hHeld
    case hy => (refine Or.inl ⟨by rfl, ?_⟩; intro w hSw; go_split_ands; go_simp; (try with_reducible rfl))
    (try simp only [List.getElem_toArray, List.getElem_cons_succ, List.getElem_cons_zero, Act.put, List.setIfInBounds_toArray, List.set_cons_zero, List.set_cons_succ])
    refine wpAnyH_done (by kernel_rfl) ?_ _
    have HG := Lib.hid (Below.trans H10.out (Below.mono b20 (Below.size H10.out)))
    go_wp2
    go_ret
    exact ⟨rfl, HG.out⟩
end Go.Proofs.Ytedjbjplnjnnlaa
