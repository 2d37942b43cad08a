/-
  The laws' awake of stage 9.
  The calls of Within and awake in the laws of stage 9.
  The law ContainShown.
-/
import Derived.Deep.CutBlock
import Derived.Test.YtedjbjplnjnnlaaDoorPk25
import Derived.Test.YtedjbjplnjnnlaaDoorPk31
import Derived.Test.YtedjbjplnjnnlaaDoorPk9
import Derived.Test.YtedjbjplnjnnlaaDoorPk30
import Derived.Test.YtedjbjplnjnnlaaDoorPk20
import Derived.Test.YtedjbjplnjnnlaaDoorPk23
import Derived.Test.YtedjbjplnjnnlaaDoorPk35
namespace Go.Proofs.YtedjbjplnjnnlaaDoor
open Go Go.RowKit Sh Leaf

abbrev awkP : Prd := ⟨6, 0, 0, 0, [97#8], 0⟩
theorem awk_cand {a : Aut} (ha : IsSet (holdsAll [awkP]) a) : FirstC fullA a ⟨0, 0, 0, [98#8]⟩ := by
  have hin : ∀ c, cok c → (ina a c ↔ c.holder = [97#8]) := fun c hc => (ha.2 c hc).trans ⟨fun h => by
    have := h awkP (by simp)
    unfold asks at this
    simp at this
    exact this, fun h p hp => by
    rw [List.mem_singleton.1 hp]
    unfold asks
    simp
    exact h⟩
  have hc0 : cok ⟨0, 0, 0, [98#8]⟩ := ⟨by decide, by decide, by decide, by decide⟩
  refine ⟨hc0, (full_set.2 _ hc0).2 trivial, fun h => by have := (hin _ hc0).1 h; simp at this, fun d hd _ hn => ?_⟩
  obtain ⟨⟨z0, z1⟩, ⟨l0, l1⟩, ⟨m0, m1⟩, hnm⟩ := id hd
  have hne : d.holder ≠ [97#8] := fun e => hn ((hin d hd).2 e)
  unfold cle
  simp only
  rcases Int.lt_or_eq_of_le z0 with g | g
  · exact .inl g
  · refine .inr ⟨g, ?_⟩
    rcases Int.lt_or_eq_of_le l0 with g | g
    · exact .inl g
    · refine .inr ⟨g, ?_⟩
      rcases Int.lt_or_eq_of_le m0 with g | g
      · exact .inl g
      · exact .inr ⟨g, nle_b hnm hne⟩
theorem awk_wit {a : Aut} (ha : IsSet (holdsAll [awkP]) a) {c : Ctx} {ok : Bool} (h : WitR fullA a c ok) : c = ⟨0, 0, 0, [98#8]⟩ ∧ ok = true := by
  have hc := awk_cand ha
  rcases wit_main h full_set.1 ha.1 with ⟨h1, h2⟩ | ⟨h1, h2, h3⟩
  · exact ⟨h2.unique hc, h1⟩
  · exact absurd (h3 _ hc.1 hc.2.1) hc.2.2.1
theorem awk_in {a : Aut} (ha : IsSet (holdsAll [awkP]) a) : decide (wi a fullA) = true := decide_eq_true ⟨ha.1, full_set.1, fun d hd _ => (full_set.2 d hd).2 trivial⟩
set_option linter.unusedSimpArgs false in
set_option maxRecDepth 100000 in
set_option maxHeartbeats 4000000 in
theorem cawake (w : World) (hT : Tab w) : Calls Tryd.prog 9 #[] w fun e w' => e = .returned (.bool true) ∧ Below w.heap.size w w' := by
  have esn : ({ data := #[97] } : ByteArray) = sof [97#8] := by unfold sof; rfl
  have hP : Prds (w.alloc (.cells #[.int .i64 6, .int .u64 0, .int .i64 0, .int .i64 0, .string { data := #[97] }, .int .i64 0] 50)) (fun _ => True) (some ⟨w.heap.size, 0, none⟩) 1 [awkP] := Seq.mono (seq_one (f := pcl) (ok := pbd) (p := awkP) (heap_alloc_new w _) (by rw [esn]; rfl) ⟨by decide, by decide⟩) fun _ _ _ => trivial
  have hof := aof [awkP] _ _ _ _ hP
  have hb0 : Below w.heap.size w (w.alloc (.cells #[.int .i64 6, .int .u64 0, .int .i64 0, .int .i64 0, .string { data := #[97] }, .int .i64 0] 50)) := (Below.refl _ _).alloc (Nat.le_refl _) _
  have HB0 := Lib.hid hb0
  have HT := Lib.hid hT
  clear hP hb0 hT esn
  go_enter Tryd.func9, Tryd.ntmps9
  go_wp2_with fail
  refine hof.mono ?_
  rintro e u1 ⟨⟨x, a, er, rfl, hm, hr⟩, hb⟩
  obtain ⟨hs, rfl⟩ := of_ok hr (by decide) (by intro p hp; rw [List.mem_singleton.1 hp]; decide)
  obtain ⟨Aa, ca, rfl, hS, hab⟩ := hm
  obtain ⟨p, hp⟩ : ∃ p, p = u1.alloc (.cells (avl a Aa ca) 25) := ⟨_, rfl⟩
  have hup : Below u1.heap.size u1 p := by rw [hp]; exact (Below.refl u1.heap.size u1).alloc (Nat.le_refl _) _
  have hr1 : ARow p u1.heap.size a.none a.zones a.lines a.days a.lo a.hi (.slice Aa a.daily.length ca) a.holder := by rw [hp]; exact Whole.here _ _ _
  have hbl : Below w.heap.size w p := HB0.out.trans ((hb.trans (hup.mono hb.size)).mono HB0.out.size)
  have hav : Av p (fun _ => True) (.agg (avl a Aa ca)) a := ⟨Aa, ca, rfl, (hS.below hup (Nat.le_refl _)).mono fun _ _ _ => trivial, hab⟩
  have hTp : Tab p := HT.out.below hbl (Nat.le_refl _)
  have HP : Hid ((∀ W, Below p.heap.size p W → W.cell? ⟨u1.heap.size, 0, none⟩ = some (.bool a.none) ∧ W.cell? ⟨u1.heap.size, 1, none⟩ = some (.int .u64 (a.zones : Int)) ∧ W.cell? ⟨u1.heap.size, 2, none⟩ = some (.int .u64 (a.lines : Int)) ∧ W.cell? ⟨u1.heap.size, 3, none⟩ = some (.int .u64 (a.days : Int)) ∧ W.cell? ⟨u1.heap.size, 4, none⟩ = some (.int .i64 a.lo) ∧ W.cell? ⟨u1.heap.size, 5, none⟩ = some (.int .i64 a.hi) ∧ W.cell? ⟨u1.heap.size, 6, none⟩ = some (.slice Aa a.daily.length ca) ∧ W.cell? ⟨u1.heap.size, 7, none⟩ = some (.string (sof a.holder))) ∧ (∀ W, Below p.heap.size p W → Av W (fun _ => True) (.agg (arow a.none a.zones a.lines a.days a.lo a.hi (.slice Aa a.daily.length ca) a.holder)) a) ∧ (∀ W, Below p.heap.size p W → Tab W)) := Lib.hid ⟨fun W h => ARow.cells (Whole.below hr1 h (Whole.lt hr1)), fun W h => hav.below h (Nat.le_refl _), fun W h => hTp.below h (Nat.le_refl _)⟩
  have HBL := Lib.hid hbl
  have HS := Lib.hid hs
  clear hof hb hr hs hS hab hup hr1 hbl hav hTp HB0 HT
  go_upto_region 2 with fail
  rw [← hp]
  clear hp
  go_cut [3, 4] (fun s v wx => ∃ (g : Nat) (z l m : Int) (n : List B8) (ok : Bool), s = .pointer (some ⟨g, 0, none⟩) ∧ v = .bool ok ∧ CRow wx g z l m n ∧ WitR fullA a ⟨z, l, m, n⟩ ok ∧ Below p.heap.size p wx)
  case first =>
    have hb0 : Below p.heap.size p p.drew := Below.drew (Below.refl _ _)
    refine wp_region_held_drew (S := fun W : World => W.cell? ⟨u1.heap.size, 0, none⟩ = some (.bool a.none) ∧ W.cell? ⟨u1.heap.size, 1, none⟩ = some (.int .u64 (a.zones : Int)) ∧ W.cell? ⟨u1.heap.size, 2, none⟩ = some (.int .u64 (a.lines : Int)) ∧ W.cell? ⟨u1.heap.size, 3, none⟩ = some (.int .u64 (a.days : Int)) ∧ W.cell? ⟨u1.heap.size, 4, none⟩ = some (.int .i64 a.lo) ∧ W.cell? ⟨u1.heap.size, 5, none⟩ = some (.int .i64 a.hi) ∧ W.cell? ⟨u1.heap.size, 6, none⟩ = some (.slice Aa a.daily.length ca) ∧ W.cell? ⟨u1.heap.size, 7, none⟩ = some (.string (sof a.holder))) (by kernel_rfl) (HP.out.1 _ (Below.drew (Below.refl _ _))) (fun hHeld => ?_)
    apply wpAnyH_take (i := 1) rfl (by kernel_rfl) (by kernel_rfl) (by kernel_rfl)
    case hQ => exact fun _ _ _ h => h
    case hS => exact hHeld
    case hy => (refine Or.inl ⟨by rfl, ?_⟩; intro w hSw; go_split_ands; go_simp; (try with_reducible rfl))
    (try simp only [List.getElem_toArray, List.getElem_cons_succ, List.getElem_cons_zero, Act.put, List.setIfInBounds_toArray, List.set_cons_zero, List.set_cons_succ])
    refine wpAnyH_ready (rs := [0, 6]) (by kernel_rfl) (by simp) ?_
    refine AllReadyH.cons rfl (fun K hK => ?_) (AllReadyH.cons rfl (fun K hK => ?_) AllReadyH.nil)
    · (try simp only [List.getElem_toArray, List.getElem_cons_succ, List.getElem_cons_zero])
      go_simp
      go_at_call 26
      refine (afull _).mono ?_
      rintro e W1 ⟨⟨z1, rfl, hz1⟩, hc1⟩
      have hb1 := Below.trans hb0 (Below.mono hc1 (Below.size hb0))
      refine hK.out _ _ (HP.out.1 _ hb1) (fun hHeld => ?_)
      clear hK K
      (try simp only [List.getElem_toArray, List.getElem_cons_succ, List.getElem_cons_zero, Act.put, List.setIfInBounds_toArray, List.set_cons_zero, List.set_cons_succ])
      refine wpAnyH_ready (rs := [2, 6]) (by kernel_rfl) (by simp) ?_
      refine AllReadyH.cons rfl (fun K hK => ?_) (AllReadyH.cons rfl (fun K hK => ?_) AllReadyH.nil)
      · (try simp only [List.getElem_toArray, List.getElem_cons_succ, List.getElem_cons_zero])
        go_simp
        go_at_call 19
        refine (cWitness (HP.out.2.2 _ hb1) hz1 (HP.out.2.1 _ hb1)).mono ?_
        rintro e W2 ⟨⟨zz2, ll2, mm2, nn2, ok2, rfl, hw2⟩, hc2⟩
        have hb2 := Below.trans hb1 (Below.mono hc2 (Below.size hb1))
        refine hK.out _ _ (HP.out.1 _ hb2) (fun hHeld => ?_)
        clear hK K
        (try simp only [List.getElem_toArray, List.getElem_cons_succ, List.getElem_cons_zero, Act.put, List.setIfInBounds_toArray, List.set_cons_zero, List.set_cons_succ])
        apply wpAnyH_take (i := 3) rfl (by kernel_rfl) (by kernel_rfl) (by kernel_rfl)
        case hQ => exact fun _ _ _ h => h
        case hS => exact hHeld
        case hy => (refine Or.inl ⟨by rfl, ?_⟩; intro w hSw; go_split_ands; go_simp; (try with_reducible rfl))
        (try simp only [List.getElem_toArray, List.getElem_cons_succ, List.getElem_cons_zero, Act.put, List.setIfInBounds_toArray, List.set_cons_zero, List.set_cons_succ])
        apply wpAnyH_take (i := 4) rfl (by kernel_rfl) (by kernel_rfl) (by kernel_rfl)
        case hQ => exact fun _ _ _ h => h
        case hS => exact hHeld
        case hy => (refine Or.inl ⟨by rfl, ?_⟩; intro w hSw; go_split_ands; go_simp; (try with_reducible rfl))
        (try simp only [List.getElem_toArray, List.getElem_cons_succ, List.getElem_cons_zero, Act.put, List.setIfInBounds_toArray, List.set_cons_zero, List.set_cons_succ])
        apply wpAnyH_take (i := 5) rfl (by kernel_rfl) (by kernel_rfl) (by kernel_rfl)
        case hQ => exact fun _ _ _ h => h
        case hS => exact hHeld
        case hy => (refine Or.inl ⟨by rfl, ?_⟩; intro w hSw; go_split_ands; go_simp; (try with_reducible rfl))
        (try simp only [List.getElem_toArray, List.getElem_cons_succ, List.getElem_cons_zero, Act.put, List.setIfInBounds_toArray, List.set_cons_zero, List.set_cons_succ])
        refine wpAnyH_ready (rs := [6]) (by kernel_rfl) (by simp) ?_
        refine AllReadyH.cons rfl (fun K hK => ?_) AllReadyH.nil
        (try simp only [List.getElem_toArray, List.getElem_cons_succ, List.getElem_cons_zero])
        go_simp
        have hV3 : Whole (W2.alloc (.cells zctx 34)) W2.heap.size 34 zctx := Whole.here _ _ _
        have hb3 : Below p.heap.size p (W2.alloc (.cells zctx 34)) := Below.alloc hb2 (Below.size hb2) _
        generalize hWW3 : W2.alloc (.cells zctx 34) = V3 at hV3 hb3 ⊢
        refine hK.out _ _ (HP.out.1 _ hb3) (fun hHeld => ?_)
        clear hK K
        (try simp only [List.getElem_toArray, List.getElem_cons_succ, List.getElem_cons_zero, Act.put, List.setIfInBounds_toArray, List.set_cons_zero, List.set_cons_succ])
        refine wpAnyH_ready (rs := [7]) (by kernel_rfl) (by simp) ?_
        refine AllReadyH.cons rfl (fun K hK => ?_) AllReadyH.nil
        (try simp only [List.getElem_toArray, List.getElem_cons_succ, List.getElem_cons_zero])
        rw [if_pos (by kernel_rfl)]
        refine wp_store_row 34 _ _ rfl W2.heap.size _ rfl rfl 34 _ hV3 (by kernel_rfl) rfl (by with_unfolding_all rfl) ?_
        have hC4 : CRow (V3.setRow W2.heap.size (crow zz2 ll2 mm2 nn2)) W2.heap.size zz2 ll2 mm2 nn2 := Whole.setRow hV3 _
        have hb4 : Below p.heap.size p (V3.setRow W2.heap.size (crow zz2 ll2 mm2 nn2)) := below_setRow hb3 (Below.size hb2) _
        refine hK.out _ _ (HP.out.1 _ hb4) (fun hHeld => ?_)
        clear hK K
        (try simp only [List.getElem_toArray, List.getElem_cons_succ, List.getElem_cons_zero, Act.put, List.setIfInBounds_toArray, List.set_cons_zero, List.set_cons_succ])
        apply wpAnyH_take (i := 8) rfl (by kernel_rfl) (by kernel_rfl) (by kernel_rfl)
        case hQ => exact fun _ _ _ h => h
        case hS => exact hHeld
        case hy => (refine Or.inl ⟨by rfl, ?_⟩; intro w hSw; go_split_ands; go_simp; (try with_reducible rfl))
        (try simp only [List.getElem_toArray, List.getElem_cons_succ, List.getElem_cons_zero, Act.put, List.setIfInBounds_toArray, List.set_cons_zero, List.set_cons_succ])
        refine wpAnyH_done (by kernel_rfl) ?_ _
        go_wp2_with fail
        go_meet
        exact ⟨W2.heap.size, zz2, ll2, mm2, nn2, ok2, rfl, rfl, hC4, hw2, hb4⟩
      · (try simp only [List.getElem_toArray, List.getElem_cons_succ, List.getElem_cons_zero])
        go_simp
        have hV5 : Whole (W1.alloc (.cells zctx 34)) W1.heap.size 34 zctx := Whole.here _ _ _
        have hb5 : Below p.heap.size p (W1.alloc (.cells zctx 34)) := Below.alloc hb1 (Below.size hb1) _
        have hz5 := Av.below hz1 ((Below.refl W1.heap.size W1).alloc (Nat.le_refl _) (.cells zctx 34)) (Nat.le_refl _)
        generalize hWW5 : W1.alloc (.cells zctx 34) = V5 at hV5 hb5 hz5 ⊢
        refine hK.out _ _ (HP.out.1 _ hb5) (fun hHeld => ?_)
        clear hK K
        (try simp only [List.getElem_toArray, List.getElem_cons_succ, List.getElem_cons_zero, Act.put, List.setIfInBounds_toArray, List.set_cons_zero, List.set_cons_succ])
        refine wpAnyH_ready (rs := [2]) (by kernel_rfl) (by simp) ?_
        refine AllReadyH.cons rfl (fun K hK => ?_) AllReadyH.nil
        (try simp only [List.getElem_toArray, List.getElem_cons_succ, List.getElem_cons_zero])
        go_simp
        go_at_call 19
        refine (cWitness (HP.out.2.2 _ hb5) hz5 (HP.out.2.1 _ hb5)).mono ?_
        rintro e W6 ⟨⟨zz6, ll6, mm6, nn6, ok6, rfl, hw6⟩, hc6⟩
        have hb6 := Below.trans hb5 (Below.mono hc6 (Below.size hb5))
        have hV6 := Whole.below hV5 hc6 (Whole.lt hV5)
        refine hK.out _ _ (HP.out.1 _ hb6) (fun hHeld => ?_)
        clear hK K
        (try simp only [List.getElem_toArray, List.getElem_cons_succ, List.getElem_cons_zero, Act.put, List.setIfInBounds_toArray, List.set_cons_zero, List.set_cons_succ])
        apply wpAnyH_take (i := 3) rfl (by kernel_rfl) (by kernel_rfl) (by kernel_rfl)
        case hQ => exact fun _ _ _ h => h
        case hS => exact hHeld
        case hy => (refine Or.inl ⟨by rfl, ?_⟩; intro w hSw; go_split_ands; go_simp; (try with_reducible rfl))
        (try simp only [List.getElem_toArray, List.getElem_cons_succ, List.getElem_cons_zero, Act.put, List.setIfInBounds_toArray, List.set_cons_zero, List.set_cons_succ])
        apply wpAnyH_take (i := 4) rfl (by kernel_rfl) (by kernel_rfl) (by kernel_rfl)
        case hQ => exact fun _ _ _ h => h
        case hS => exact hHeld
        case hy => (refine Or.inl ⟨by rfl, ?_⟩; intro w hSw; go_split_ands; go_simp; (try with_reducible rfl))
        (try simp only [List.getElem_toArray, List.getElem_cons_succ, List.getElem_cons_zero, Act.put, List.setIfInBounds_toArray, List.set_cons_zero, List.set_cons_succ])
        apply wpAnyH_take (i := 5) rfl (by kernel_rfl) (by kernel_rfl) (by kernel_rfl)
        case hQ => exact fun _ _ _ h => h
        case hS => exact hHeld
        case hy => (refine Or.inl ⟨by rfl, ?_⟩; intro w hSw; go_split_ands; go_simp; (try with_reducible rfl))
        (try simp only [List.getElem_toArray, List.getElem_cons_succ, List.getElem_cons_zero, Act.put, List.setIfInBounds_toArray, List.set_cons_zero, List.set_cons_succ])
        refine wpAnyH_ready (rs := [7]) (by kernel_rfl) (by simp) ?_
        refine AllReadyH.cons rfl (fun K hK => ?_) AllReadyH.nil
        (try simp only [List.getElem_toArray, List.getElem_cons_succ, List.getElem_cons_zero])
        rw [if_pos (by kernel_rfl)]
        refine wp_store_row 34 _ _ rfl W1.heap.size _ rfl rfl 34 _ hV6 (by kernel_rfl) rfl (by with_unfolding_all rfl) ?_
        have hC7 : CRow (W6.setRow W1.heap.size (crow zz6 ll6 mm6 nn6)) W1.heap.size zz6 ll6 mm6 nn6 := Whole.setRow hV6 _
        have hb7 : Below p.heap.size p (W6.setRow W1.heap.size (crow zz6 ll6 mm6 nn6)) := below_setRow hb6 (Below.size hb1) _
        refine hK.out _ _ (HP.out.1 _ hb7) (fun hHeld => ?_)
        clear hK K
        (try simp only [List.getElem_toArray, List.getElem_cons_succ, List.getElem_cons_zero, Act.put, List.setIfInBounds_toArray, List.set_cons_zero, List.set_cons_succ])
        apply wpAnyH_take (i := 8) rfl (by kernel_rfl) (by kernel_rfl) (by kernel_rfl)
        case hQ => exact fun _ _ _ h => h
        case hS => exact hHeld
        case hy => (refine Or.inl ⟨by rfl, ?_⟩; intro w hSw; go_split_ands; go_simp; (try with_reducible rfl))
        (try simp only [List.getElem_toArray, List.getElem_cons_succ, List.getElem_cons_zero, Act.put, List.setIfInBounds_toArray, List.set_cons_zero, List.set_cons_succ])
        refine wpAnyH_done (by kernel_rfl) ?_ _
        go_wp2_with fail
        go_meet
        exact ⟨W1.heap.size, zz6, ll6, mm6, nn6, ok6, rfl, rfl, hC7, hw6, hb7⟩
    · (try simp only [List.getElem_toArray, List.getElem_cons_succ, List.getElem_cons_zero])
      go_simp
      have hV8 : Whole (p.alloc (.cells zctx 34)).drew p.heap.size 34 zctx := Whole.drew (Whole.here _ _ _)
      have hb8 : Below p.heap.size p (p.alloc (.cells zctx 34)).drew := Below.drew (Below.alloc (Below.refl _ _) (Nat.le_refl _) _)
      generalize (p.alloc (.cells zctx 34)).drew = W8 at hV8 hb8 ⊢
      refine hK.out _ _ (HP.out.1 _ hb8) (fun hHeld => ?_)
      clear hK K
      (try simp only [List.getElem_toArray, List.getElem_cons_succ, List.getElem_cons_zero, Act.put, List.setIfInBounds_toArray, List.set_cons_zero, List.set_cons_succ])
      refine wpAnyH_ready (rs := [0]) (by kernel_rfl) (by simp) ?_
      refine AllReadyH.cons rfl (fun K hK => ?_) AllReadyH.nil
      (try simp only [List.getElem_toArray, List.getElem_cons_succ, List.getElem_cons_zero])
      go_simp
      go_at_call 26
      refine (afull _).mono ?_
      rintro e W9 ⟨⟨z9, rfl, hz9⟩, hc9⟩
      have hb9 := Below.trans hb8 (Below.mono hc9 (Below.size hb8))
      have hV9 := Whole.below hV8 hc9 (Whole.lt hV8)
      refine hK.out _ _ (HP.out.1 _ hb9) (fun hHeld => ?_)
      clear hK K
      (try simp only [List.getElem_toArray, List.getElem_cons_succ, List.getElem_cons_zero, Act.put, List.setIfInBounds_toArray, List.set_cons_zero, List.set_cons_succ])
      refine wpAnyH_ready (rs := [2]) (by kernel_rfl) (by simp) ?_
      refine AllReadyH.cons rfl (fun K hK => ?_) AllReadyH.nil
      (try simp only [List.getElem_toArray, List.getElem_cons_succ, List.getElem_cons_zero])
      go_simp
      go_at_call 19
      refine (cWitness (HP.out.2.2 _ hb9) hz9 (HP.out.2.1 _ hb9)).mono ?_
      rintro e W10 ⟨⟨zz10, ll10, mm10, nn10, ok10, rfl, hw10⟩, hc10⟩
      have hb10 := Below.trans hb9 (Below.mono hc10 (Below.size hb9))
      have hV10 := Whole.below hV9 hc10 (Whole.lt hV9)
      refine hK.out _ _ (HP.out.1 _ hb10) (fun hHeld => ?_)
      clear hK K
      (try simp only [List.getElem_toArray, List.getElem_cons_succ, List.getElem_cons_zero, Act.put, List.setIfInBounds_toArray, List.set_cons_zero, List.set_cons_succ])
      apply wpAnyH_take (i := 3) rfl (by kernel_rfl) (by kernel_rfl) (by kernel_rfl)
      case hQ => exact fun _ _ _ h => h
      case hS => exact hHeld
      case hy => (refine Or.inl ⟨by rfl, ?_⟩; intro w hSw; go_split_ands; go_simp; (try with_reducible rfl))
      (try simp only [List.getElem_toArray, List.getElem_cons_succ, List.getElem_cons_zero, Act.put, List.setIfInBounds_toArray, List.set_cons_zero, List.set_cons_succ])
      apply wpAnyH_take (i := 4) rfl (by kernel_rfl) (by kernel_rfl) (by kernel_rfl)
      case hQ => exact fun _ _ _ h => h
      case hS => exact hHeld
      case hy => (refine Or.inl ⟨by rfl, ?_⟩; intro w hSw; go_split_ands; go_simp; (try with_reducible rfl))
      (try simp only [List.getElem_toArray, List.getElem_cons_succ, List.getElem_cons_zero, Act.put, List.setIfInBounds_toArray, List.set_cons_zero, List.set_cons_succ])
      apply wpAnyH_take (i := 5) rfl (by kernel_rfl) (by kernel_rfl) (by kernel_rfl)
      case hQ => exact fun _ _ _ h => h
      case hS => exact hHeld
      case hy => (refine Or.inl ⟨by rfl, ?_⟩; intro w hSw; go_split_ands; go_simp; (try with_reducible rfl))
      (try simp only [List.getElem_toArray, List.getElem_cons_succ, List.getElem_cons_zero, Act.put, List.setIfInBounds_toArray, List.set_cons_zero, List.set_cons_succ])
      refine wpAnyH_ready (rs := [7]) (by kernel_rfl) (by simp) ?_
      refine AllReadyH.cons rfl (fun K hK => ?_) AllReadyH.nil
      (try simp only [List.getElem_toArray, List.getElem_cons_succ, List.getElem_cons_zero])
      rw [if_pos (by kernel_rfl)]
      refine wp_store_row 34 _ _ rfl p.heap.size _ rfl rfl 34 _ hV10 (by kernel_rfl) rfl (by with_unfolding_all rfl) ?_
      have hC11 : CRow (W10.setRow p.heap.size (crow zz10 ll10 mm10 nn10)) p.heap.size zz10 ll10 mm10 nn10 := Whole.setRow hV10 _
      have hb11 : Below p.heap.size p (W10.setRow p.heap.size (crow zz10 ll10 mm10 nn10)) := below_setRow hb10 (Nat.le_refl p.heap.size) _
      refine hK.out _ _ (HP.out.1 _ hb11) (fun hHeld => ?_)
      clear hK K
      (try simp only [List.getElem_toArray, List.getElem_cons_succ, List.getElem_cons_zero, Act.put, List.setIfInBounds_toArray, List.set_cons_zero, List.set_cons_succ])
      apply wpAnyH_take (i := 8) rfl (by kernel_rfl) (by kernel_rfl) (by kernel_rfl)
      case hQ => exact fun _ _ _ h => h
      case hS => exact hHeld
      case hy => (refine Or.inl ⟨by rfl, ?_⟩; intro w hSw; go_split_ands; go_simp; (try with_reducible rfl))
      (try simp only [List.getElem_toArray, List.getElem_cons_succ, List.getElem_cons_zero, Act.put, List.setIfInBounds_toArray, List.set_cons_zero, List.set_cons_succ])
      refine wpAnyH_done (by kernel_rfl) ?_ _
      go_wp2_with fail
      go_meet
      exact ⟨p.heap.size, zz10, ll10, mm10, nn10, ok10, rfl, rfl, hC11, hw10, hb11⟩
  case rest =>
    obtain ⟨g, z, l, m, n, ok, rfl, rfl, hC, hw, hb⟩ := hcut
    obtain ⟨e1, rfl⟩ := awk_wit HS.out hw
    injection e1 with e1 e2 e3 e4
    subst e1 e2 e3 e4
    have HBC := Lib.hid hb
    have HC := Lib.hid hC
    have HWI := Lib.hid (awk_in HS.out)
    have es : sof [98#8] = ({ data := #[98] } : ByteArray) := by unfold sof; rfl
    have HQ : Hid (∀ W, Below wc.heap.size wc W → (fun W : World => W.cell? ⟨u1.heap.size, 0, none⟩ = some (.bool a.none) ∧ W.cell? ⟨u1.heap.size, 1, none⟩ = some (.int .u64 (a.zones : Int)) ∧ W.cell? ⟨u1.heap.size, 2, none⟩ = some (.int .u64 (a.lines : Int)) ∧ W.cell? ⟨u1.heap.size, 3, none⟩ = some (.int .u64 (a.days : Int)) ∧ W.cell? ⟨u1.heap.size, 4, none⟩ = some (.int .i64 a.lo) ∧ W.cell? ⟨u1.heap.size, 5, none⟩ = some (.int .i64 a.hi) ∧ W.cell? ⟨u1.heap.size, 6, none⟩ = some (.slice Aa a.daily.length ca) ∧ W.cell? ⟨u1.heap.size, 7, none⟩ = some (.string (sof a.holder)) ∧ W.cell? ⟨g, 0, none⟩ = some (.int .i64 0) ∧ W.cell? ⟨g, 1, none⟩ = some (.int .i64 0) ∧ W.cell? ⟨g, 2, none⟩ = some (.int .i64 0) ∧ W.cell? ⟨g, 3, none⟩ = some (.string { data := #[98] })) W) := Lib.hid fun W h => by
      obtain ⟨x0, x1, x2, x3, x4, x5, x6, x7⟩ := HP.out.1 W (HBC.out.trans (h.mono HBC.out.size))
      obtain ⟨k0, k1, k2, k3⟩ := CRow.cells (Whole.below HC.out h (Whole.lt HC.out))
      rw [es] at k3
      exact ⟨x0, x1, x2, x3, x4, x5, x6, x7, k0, k1, k2, k3⟩
    clear hC hw hb es HC
    go_upto_region 3 with fail
    refine wp_region_held_drew (S := fun W : World => W.cell? ⟨u1.heap.size, 0, none⟩ = some (.bool a.none) ∧ W.cell? ⟨u1.heap.size, 1, none⟩ = some (.int .u64 (a.zones : Int)) ∧ W.cell? ⟨u1.heap.size, 2, none⟩ = some (.int .u64 (a.lines : Int)) ∧ W.cell? ⟨u1.heap.size, 3, none⟩ = some (.int .u64 (a.days : Int)) ∧ W.cell? ⟨u1.heap.size, 4, none⟩ = some (.int .i64 a.lo) ∧ W.cell? ⟨u1.heap.size, 5, none⟩ = some (.int .i64 a.hi) ∧ W.cell? ⟨u1.heap.size, 6, none⟩ = some (.slice Aa a.daily.length ca) ∧ W.cell? ⟨u1.heap.size, 7, none⟩ = some (.string (sof a.holder)) ∧ W.cell? ⟨g, 0, none⟩ = some (.int .i64 0) ∧ W.cell? ⟨g, 1, none⟩ = some (.int .i64 0) ∧ W.cell? ⟨g, 2, none⟩ = some (.int .i64 0) ∧ W.cell? ⟨g, 3, none⟩ = some (.string { data := #[98] })) (by kernel_rfl) (HQ.out _ (Below.drew (Below.refl _ _))) (fun hHeld => ?_)
    apply wpAnyH_take (i := 0) rfl (by kernel_rfl) (by kernel_rfl) (by kernel_rfl)
    case hQ => exact fun _ _ _ h => h
    case hS => exact hHeld
    case hy => (refine Or.inl ⟨by rfl, ?_⟩; intro w hSw; go_split_ands; go_simp; (try with_reducible rfl))
    (try simp only [List.getElem_toArray, List.getElem_cons_zero, Act.put, List.setIfInBounds_toArray, List.set_cons_zero, List.set_cons_succ])
    apply wpAnyH_take (i := 1) rfl (by kernel_rfl) (by kernel_rfl) (by kernel_rfl)
    case hQ => exact fun _ _ _ h => h
    case hS => exact hHeld
    case hy => (refine Or.inl ⟨by rfl, ?_⟩; intro w hSw; go_split_ands; go_simp; (try with_reducible rfl))
    (try simp only [List.getElem_toArray, List.getElem_cons_succ, List.getElem_cons_zero, Act.put, List.setIfInBounds_toArray, List.set_cons_zero, List.set_cons_succ])
    apply wpAnyH_take (i := 2) rfl (by kernel_rfl) (by kernel_rfl) (by kernel_rfl)
    case hQ => exact fun _ _ _ h => h
    case hS => exact hHeld
    case hy => (refine Or.inl ⟨by rfl, ?_⟩; intro w hSw; go_split_ands; go_simp; (try with_reducible rfl))
    (try simp only [List.getElem_toArray, List.getElem_cons_succ, List.getElem_cons_zero, Act.put, List.setIfInBounds_toArray, List.set_cons_zero, List.set_cons_succ])
    apply wpAnyH_take (i := 3) rfl (by kernel_rfl) (by kernel_rfl) (by kernel_rfl)
    case hQ => exact fun _ _ _ h => h
    case hS => exact hHeld
    case hy => (refine Or.inl ⟨by rfl, ?_⟩; intro w hSw; go_split_ands; go_simp; (try with_reducible rfl))
    (try simp only [List.getElem_toArray, List.getElem_cons_succ, List.getElem_cons_zero, Act.put, List.setIfInBounds_toArray, List.set_cons_zero, List.set_cons_succ])
    apply wpAnyH_take (i := 4) rfl (by kernel_rfl) (by kernel_rfl) (by kernel_rfl)
    case hQ => exact fun _ _ _ h => h
    case hS => exact hHeld
    case hy => (refine Or.inl ⟨by rfl, ?_⟩; intro w hSw; go_split_ands; go_simp; (try with_reducible rfl))
    (try simp only [List.getElem_toArray, List.getElem_cons_succ, List.getElem_cons_zero, Act.put, List.setIfInBounds_toArray, List.set_cons_zero, List.set_cons_succ])
    apply wpAnyH_take (i := 5) rfl (by kernel_rfl) (by kernel_rfl) (by kernel_rfl)
    case hQ => exact fun _ _ _ h => h
    case hS => exact hHeld
    case hy => (refine Or.inl ⟨by rfl, ?_⟩; intro w hSw; go_split_ands; go_simp; (try with_reducible rfl))
    (try simp only [List.getElem_toArray, List.getElem_cons_succ, List.getElem_cons_zero, Act.put, List.setIfInBounds_toArray, List.set_cons_zero, List.set_cons_succ])
    apply wpAnyH_take (i := 6) rfl (by kernel_rfl) (by kernel_rfl) (by kernel_rfl)
    case hQ => exact fun _ _ _ h => h
    case hS => exact hHeld
    case hy => (refine Or.inl ⟨by rfl, ?_⟩; intro w hSw; go_split_ands; go_simp; (try with_reducible rfl))
    (try simp only [List.getElem_toArray, List.getElem_cons_succ, List.getElem_cons_zero, Act.put, List.setIfInBounds_toArray, List.set_cons_zero, List.set_cons_succ])
    apply wpAnyH_take (i := 7) rfl (by kernel_rfl) (by kernel_rfl) (by kernel_rfl)
    case hQ => exact fun _ _ _ h => h
    case hS => exact hHeld
    case hy => (refine Or.inl ⟨by rfl, ?_⟩; intro w hSw; go_split_ands; go_simp; (try with_reducible rfl))
    (try simp only [List.getElem_toArray, List.getElem_cons_succ, List.getElem_cons_zero, Act.put, List.setIfInBounds_toArray, List.set_cons_zero, List.set_cons_succ])
    refine wpAnyH_ready (rs := [8]) (by kernel_rfl) (by simp) ?_
    refine AllReadyH.cons rfl (fun K hK => ?_) AllReadyH.nil
    (try simp only [List.getElem_toArray, List.getElem_cons_succ, List.getElem_cons_zero])
    go_simp
    go_at_call 26
    refine (afull _).mono ?_
    rintro e X1 ⟨⟨zf, rfl, hzf⟩, hf1⟩
    refine hK.out _ _ (HQ.out _ (Below.trans (Below.drew (Below.refl _ _)) hf1)) (fun hHeld => ?_)
    clear hK K
    (try simp only [List.getElem_toArray, List.getElem_cons_succ, List.getElem_cons_zero, Act.put, List.setIfInBounds_toArray, List.set_cons_zero, List.set_cons_succ])
    refine wpAnyH_ready (rs := [9]) (by kernel_rfl) (by simp) ?_
    refine AllReadyH.cons rfl (fun K hK => ?_) AllReadyH.nil
    (try simp only [List.getElem_toArray, List.getElem_cons_succ, List.getElem_cons_zero])
    go_simp
    go_at_call 11
    refine (cWithin (HP.out.2.2 _ (HBC.out.drew.trans (hf1.mono HBC.out.size))) (HP.out.2.1 _ (HBC.out.drew.trans (hf1.mono HBC.out.size))) hzf).mono ?_
    rintro e X2 ⟨he, hf2⟩
    rw [HWI.out] at he
    subst he
    refine hK.out _ _ (HQ.out _ ((Below.trans (Below.drew (Below.refl _ _)) hf1).trans (hf2.mono (by have := hf1.size; exact this)))) (fun hHeld => ?_)
    clear hK K
    (try simp only [List.getElem_toArray, List.getElem_cons_succ, List.getElem_cons_zero, Act.put, List.setIfInBounds_toArray, List.set_cons_zero, List.set_cons_succ])
    apply wpAnyH_take (i := 10) rfl (by kernel_rfl) (by kernel_rfl) (by kernel_rfl)
    case hQ => exact fun _ _ _ h => h
    case hS => exact hHeld
    case hy => (refine Or.inl ⟨by rfl, ?_⟩; intro w hSw; go_split_ands; go_simp; (try with_reducible rfl))
    (try simp only [List.getElem_toArray, List.getElem_cons_succ, List.getElem_cons_zero, Act.put, List.setIfInBounds_toArray, List.set_cons_zero, List.set_cons_succ])
    apply wpAnyH_take (i := 11) rfl (by kernel_rfl) (by kernel_rfl) (by kernel_rfl)
    case hQ => exact fun _ _ _ h => h
    case hS => exact hHeld
    case hy => (refine Or.inl ⟨by rfl, ?_⟩; intro w hSw; go_split_ands; go_simp; (try with_reducible rfl))
    (try simp only [List.getElem_toArray, List.getElem_cons_succ, List.getElem_cons_zero, Act.put, List.setIfInBounds_toArray, List.set_cons_zero, List.set_cons_succ])
    refine wpAnyH_done (by kernel_rfl) ?_ _
    have HG : Hid (Below w.heap.size w X2) := Lib.hid (HBL.out.trans ((HBC.out.drew.trans ((hf1.trans (hf2.mono hf1.size)).mono HBC.out.size)).mono (Below.size HBL.out)))
    clear hf1 hf2 hzf
    go_wp2
    go_ret
    exact ⟨rfl, HG.out⟩
end Go.Proofs.YtedjbjplnjnnlaaDoor
namespace Go.Proofs.YtedjbjplnjnnlaaDoor
open Go Go.RowKit Sh Leaf

theorem law_win {p W : World} {x y : Value} {a b : Aut} {Q1 Q2 : Nat → Prop} (hb : Below p.heap.size p W) (hT : Tab W) (hx : Av W Q1 x a) (hy : Av W Q2 y b) {B : Bool} (e : decide (wi a b) = B) :
    Calls Tryd.prog 11 #[x, y] W fun e w' => e = .returned (.bool B) ∧ Below p.heap.size p w' :=
  (cWithin hT hx hy).mono fun _ _ h => ⟨by rw [h.1, e], hb.trans (h.2.mono hb.size)⟩
theorem law_cawk {p W : World} (hb : Below p.heap.size p W) (hT : Tab W) : Calls Tryd.prog 9 #[] W fun e w' => e = .returned (.bool true) ∧ Below p.heap.size p w' :=
  (cawake W hT).mono fun _ _ h => ⟨h.1, hb.trans (h.2.mono hb.size)⟩
end Go.Proofs.YtedjbjplnjnnlaaDoor
namespace Go.Proofs.YtedjbjplnjnnlaaDoor
open Go Go.RowKit Sh Leaf

theorem wit_sub {a b : Aut} {c : Ctx} (ha : aok a) (hb : aok b) (h : WitR a b c false) : sub a b := by
  rcases wit_main h ha hb with ⟨h1, _⟩ | ⟨_, _, h2⟩
  · cases h1
  · exact h2
theorem wit_fst {a b : Aut} {c : Ctx} (ha : aok a) (hb : aok b) (h : WitR a b c true) : FirstC a b c := by
  rcases wit_main h ha hb with ⟨_, h2⟩ | ⟨h1, _⟩
  · exact h2
  · cases h1
theorem shown_in {a b : Aut} (ha : aok a) (hb : aok b) (h : sub a b) : decide (wi a b) = true := decide_eq_true ⟨ha, hb, h⟩
theorem shown_sub {a b : Aut} {c : Ctx} (hb : aok b) (h : sub a b) (hc : aok a ∧ cok c ∧ ina a c) : decide (aok b ∧ cok c ∧ ina b c) = true := decide_eq_true ⟨hb, hc.2.1, h c hc.2.1 hc.2.2⟩
theorem shown_wit {a b : Aut} {c : Ctx} (ha : aok a) (_ : aok b) (h : FirstC a b c) : decide (aok a ∧ cok c ∧ ina a c) = true ∧ decide (aok b ∧ cok c ∧ ina b c) = false ∧ decide (wi a b) = false :=
  ⟨decide_eq_true ⟨ha, h.1, h.2.1⟩, decide_eq_false fun k => h.2.2.1 k.2.2, decide_eq_false fun k => h.2.2.1 (k.2.2 c h.1 h.2.1)⟩
set_option linter.unusedSimpArgs false in
set_option linter.unusedVariables false in
set_option maxRecDepth 100000 in
set_option maxHeartbeats 8000000 in
theorem cshown_law (A0 : Option Addr) (l0 : List Int) (c0 : Nat) (A1 : Option Addr) (l1 : List Int) (c1 : Nat) (w : World) (hT : Tab w) (hI0 : Ints w (fun b => b < w.heap.size) A0 c0 l0) (hI1 : Ints w (fun b => b < w.heap.size) A1 c1 l1) :
    Calls Tryd.prog 6 #[.slice A0 l0.length c0, .slice A1 l1.length c1] w fun e w' => e = .returned (.bool true) ∧ Below w.heap.size w w' := by
  obtain ⟨n0, hn0⟩ : ∃ n, n = l0.length := ⟨_, rfl⟩
  obtain ⟨n1, hn1⟩ : ∃ n, n = l1.length := ⟨_, rfl⟩
  rw [← hn0, ← hn1]
  have HT := Lib.hid hT
  have HI0 := Lib.hid hI0
  have HI1 := Lib.hid hI1
  have HN0 := Lib.hid hn0
  have HN1 := Lib.hid hn1
  clear hI0 hI1 hn0 hn1 hT
  go_enter Tryd.func6, Tryd.ntmps6
  have H0 : Hid (Below w.heap.size w w) := Lib.hid (Below.refl _ _)
  have hmd := cmade A0 l0 c0 w ((HI0.out.below H0.out).mono (Below.size H0.out))
  rw [← HN0.out] at hmd
  go_wp2_with fail
  refine hmd.mono ?_
  rintro e u1 ⟨⟨xx, yy, a, b, g1, rfl, hx, hy, ha, hb, hdk, hgl⟩, hbl⟩
  obtain ⟨Aa, ca, rfl, hSa, haa⟩ := hx
  obtain ⟨Ab, cb, rfl, hSb, hbb⟩ := hy
  obtain ⟨p1, hp⟩ : ∃ p, p = (u1.alloc (.cells (avl a Aa ca) 25)).alloc (.cells (avl b Ab cb) 25) := ⟨_, rfl⟩
  have hup : Below u1.heap.size u1 p1 := by rw [hp]; exact ab_below _ _ _
  have hle : Below w.heap.size w p1 := hbl.trans (hup.mono hbl.size)
  have hgu1 : g1 < u1.heap.size := hdk.lt
  have hgw1 : w.heap.size ≤ g1 := hgl
  have H1 : Hid (Below w.heap.size w p1) := Lib.hid (Below.trans H0.out (Below.mono hle (Below.size H0.out)))
  clear H0
  have H2 : Hid (ARow p1 u1.heap.size a.none a.zones a.lines a.days a.lo a.hi (.slice Aa a.daily.length ca) a.holder) := Lib.hid (by rw [hp]; exact (Whole.here _ _ _).alloc _)
  have H3 : Hid (ARow p1 (u1.heap.size + 1) b.none b.zones b.lines b.days b.lo b.hi (.slice Ab b.daily.length cb) b.holder) := Lib.hid (by rw [hp]; exact Whole.at_ _ _ _ _ (by simp))
  have H4 : Hid (Av p1 (fun k => k ≠ g1) (.agg (arow a.none a.zones a.lines a.days a.lo a.hi (.slice Aa a.daily.length ca) a.holder)) a) := Lib.hid (⟨Aa, ca, rfl, (hSa.below hup (Nat.le_refl _)).mono fun k _ hk => hk.2, haa⟩)
  have H5 : Hid (Av p1 (fun k => k ≠ g1) (.agg (arow b.none b.zones b.lines b.days b.lo b.hi (.slice Ab b.daily.length cb) b.holder)) b) := Lib.hid (⟨Ab, cb, rfl, (hSb.below hup (Nat.le_refl _)).mono fun k _ hk => hk.2, hbb⟩)
  have HKa : Hid (aok a) := Lib.hid ha
  have HKb : Hid (aok b) := Lib.hid hb
  clear hmd hSa hSb haa hbb ha hb hdk hgl hbl hup hle
  go_upto_region 2 with fail
  rw [← hp]
  clear hp
  obtain ⟨ka0, ka1, ka2, ka3, ka4, ka5, ka6, ka7⟩ := ARow.cells H2.out
  obtain ⟨kb0, kb1, kb2, kb3, kb4, kb5, kb6, kb7⟩ := ARow.cells H3.out
  have hcw := cWitness (Tab.below HT.out H1.out (Nat.le_refl _)) H4.out H5.out
  go_wp2_with fail
  refine hcw.mono ?_
  rintro e u2 ⟨⟨oz, ol, om, on, oko, rfl, hWo⟩, hbb⟩
  clear hcw ka0 ka1 ka2 ka3 ka4 ka5 ka6 ka7 kb0 kb1 kb2 kb3 kb4 kb5 kb6 kb7
  obtain ⟨qu2, hp⟩ : ∃ p, p = u2.alloc (.cells (crow oz ol om on) 34) := ⟨_, rfl⟩
  have hup : Below u2.heap.size u2 qu2 := by rw [hp]; exact (Below.refl _ _).alloc (Nat.le_refl _) _
  have hle := Below.trans hbb (Below.mono hup (Below.size hbb))
  have H6 : Hid (Below w.heap.size w qu2) := Lib.hid (Below.trans H1.out (Below.mono hle (Below.size H1.out)))
  have H7 : Hid (ARow qu2 u1.heap.size a.none a.zones a.lines a.days a.lo a.hi (.slice Aa a.daily.length ca) a.holder) := Lib.hid (Whole.below H2.out hle (Whole.lt H2.out))
  have H8 : Hid (ARow qu2 (u1.heap.size + 1) b.none b.zones b.lines b.days b.lo b.hi (.slice Ab b.daily.length cb) b.holder) := Lib.hid (Whole.below H3.out hle (Whole.lt H3.out))
  have H9 : Hid (Av qu2 (fun k => k ≠ g1) (.agg (arow a.none a.zones a.lines a.days a.lo a.hi (.slice Aa a.daily.length ca) a.holder)) a) := Lib.hid (Av.below H4.out hle (Nat.le_refl _))
  have H10 : Hid (Av qu2 (fun k => k ≠ g1) (.agg (arow b.none b.zones b.lines b.days b.lo b.hi (.slice Ab b.daily.length cb) b.holder)) b) := Lib.hid (Av.below H5.out hle (Nat.le_refl _))
  clear H1 H2 H3 H4 H5
  have H11 : Hid (CRow qu2 u2.heap.size oz ol om on) := Lib.hid (by rw [hp]; exact Whole.here _ _ _)
  clear hup hle hbb
  go_upto_region 3 with fail
  rw [← hp]
  clear hp
  cases oko
  · have hsub := wit_sub HKa.out HKb.out hWo
    have HWI := Lib.hid (shown_in HKa.out HKb.out hsub)
    have HSB := Lib.hid hsub
    clear hWo hsub
    go_upto_region 5 with fail
    have hdn := dnew A1 _ c1 l1 qu2 HN1.out ((HI1.out.below H6.out).mono (Below.size H6.out))
    go_wp2_with fail
    refine hdn.mono ?_
    rintro e t3 ⟨rfl, hk, hb1⟩
    have hcx := dctx _ _ hk
    clear hdn
    go_wp2_with fail
    refine hcx.mono ?_
    rintro e v3 ⟨cc, hcc, rfl, ht⟩
    have hle0 : Below qu2.heap.size qu2 v3 := hb1.trans ht.2.1
    have H12 : Hid (Below w.heap.size w v3) := Lib.hid (Below.trans H6.out (Below.mono hle0 (Below.size H6.out)))
    have H13 : Hid (ARow v3 u1.heap.size a.none a.zones a.lines a.days a.lo a.hi (.slice Aa a.daily.length ca) a.holder) := Lib.hid (Whole.below H7.out hle0 (Whole.lt H7.out))
    have H14 : Hid (ARow v3 (u1.heap.size + 1) b.none b.zones b.lines b.days b.lo b.hi (.slice Ab b.daily.length cb) b.holder) := Lib.hid (Whole.below H8.out hle0 (Whole.lt H8.out))
    have H15 : Hid (Av v3 (fun k => k ≠ g1) (.agg (arow a.none a.zones a.lines a.days a.lo a.hi (.slice Aa a.daily.length ca) a.holder)) a) := Lib.hid (Av.below H9.out hle0 (Nat.le_refl _))
    have H16 : Hid (Av v3 (fun k => k ≠ g1) (.agg (arow b.none b.zones b.lines b.days b.lo b.hi (.slice Ab b.daily.length cb) b.holder)) b) := Lib.hid (Av.below H10.out hle0 (Nat.le_refl _))
    have H17 : Hid (CRow v3 u2.heap.size oz ol om on) := Lib.hid (Whole.below H11.out hle0 (Whole.lt H11.out))
    clear H6 H7 H8 H9 H10 H11
    have HKj : Hid (cok cc) := Lib.hid hcc
    have HLj : Hid (cc.holder.length ≤ 9223372036854775807) := Lib.hid (by have := hcc.2.2.2.2.1; omega)
    rw [cv_row]
    obtain ⟨jz, jl, jm, jn⟩ := cc
    simp only
    obtain ⟨q3, hp⟩ : ∃ p, p = v3.alloc (.cells (crow jz jl jm jn) 34) := ⟨_, rfl⟩
    have hle : Below v3.heap.size v3 q3 := by rw [hp]; exact (Below.refl _ _).alloc (Nat.le_refl _) _
    have H18 : Hid (Below w.heap.size w q3) := Lib.hid (Below.trans H12.out (Below.mono hle (Below.size H12.out)))
    have H19 : Hid (ARow q3 u1.heap.size a.none a.zones a.lines a.days a.lo a.hi (.slice Aa a.daily.length ca) a.holder) := Lib.hid (Whole.below H13.out hle (Whole.lt H13.out))
    have H20 : Hid (ARow q3 (u1.heap.size + 1) b.none b.zones b.lines b.days b.lo b.hi (.slice Ab b.daily.length cb) b.holder) := Lib.hid (Whole.below H14.out hle (Whole.lt H14.out))
    have H21 : Hid (Av q3 (fun k => k ≠ g1) (.agg (arow a.none a.zones a.lines a.days a.lo a.hi (.slice Aa a.daily.length ca) a.holder)) a) := Lib.hid (Av.below H15.out hle (Nat.le_refl _))
    have H22 : Hid (Av q3 (fun k => k ≠ g1) (.agg (arow b.none b.zones b.lines b.days b.lo b.hi (.slice Ab b.daily.length cb) b.holder)) b) := Lib.hid (Av.below H16.out hle (Nat.le_refl _))
    have H23 : Hid (CRow q3 u2.heap.size oz ol om on) := Lib.hid (Whole.below H17.out hle (Whole.lt H17.out))
    clear H12 H13 H14 H15 H16 H17
    have H24 : Hid (CRow q3 v3.heap.size jz jl jm jn) := Lib.hid (by rw [hp]; exact Whole.here _ _ _)
    clear hcc ht hle hle0 hk hb1 hcx
    go_upto_region 6 with fail
    rw [← hp]
    clear hp
    obtain ⟨Va, hVa⟩ : ∃ v, decide (aok a ∧ cok ⟨jz, jl, jm, jn⟩ ∧ ina a ⟨jz, jl, jm, jn⟩) = v := ⟨_, rfl⟩
    have HVb : Hid (Va = true → decide (aok b ∧ cok ⟨jz, jl, jm, jn⟩ ∧ ina b ⟨jz, jl, jm, jn⟩) = true) := Lib.hid fun h => by
      rw [h] at hVa
      exact shown_sub HKb.out HSB.out (of_decide_eq_true hVa)
    have HVa := Lib.hid hVa
    clear hVa
    obtain ⟨ka0, ka1, ka2, ka3, ka4, ka5, ka6, ka7⟩ := ARow.cells (Whole.below H19.out (Below.refl _ _) (Whole.lt H19.out))
    obtain ⟨kb0, kb1, kb2, kb3, kb4, kb5, kb6, kb7⟩ := ARow.cells (Whole.below H20.out (Below.refl _ _) (Whole.lt H20.out))
    have hcl := law_win (Below.refl _ _) (Tab.below (Tab.below HT.out H18.out (Nat.le_refl _)) (Below.refl _ _) (Nat.le_refl _)) (Av.below H21.out (Below.refl _ _) (Nat.le_refl _)) (Av.below H22.out (Below.refl _ _) (Nat.le_refl _)) HWI.out
    go_wp2_with fail
    refine hcl.mono ?_
    rintro e y10 ⟨rfl, b10⟩
    clear hcl ka0 ka1 ka2 ka3 ka4 ka5 ka6 ka7 kb0 kb1 kb2 kb3 kb4 kb5 kb6 kb7
    obtain ⟨ka0, ka1, ka2, ka3, ka4, ka5, ka6, ka7⟩ := ARow.cells (Whole.below H19.out b10 (Whole.lt H19.out))
    obtain ⟨kj0, kj1, kj2, kj3⟩ := CRow.cells (Whole.below H24.out b10 (Whole.lt H24.out))
    have hcl := law_con b10 (Av.below H21.out b10 (Nat.le_refl _)) HLj.out HVa.out
    go_wp2_with fail
    refine hcl.mono ?_
    rintro e y11 ⟨rfl, b11, -⟩
    clear hcl ka0 ka1 ka2 ka3 ka4 ka5 ka6 ka7 kj0 kj1 kj2 kj3
    cases Va
    · skip
      have hcl := law_cawk b11 (Tab.below (Tab.below HT.out H18.out (Nat.le_refl _)) b11 (Nat.le_refl _))
      go_wp2_with fail
      refine hcl.mono ?_
      rintro e y13 ⟨rfl, b13⟩
      clear hcl 
      have HG := Lib.hid (Below.trans H18.out (Below.mono b13 (Below.size H18.out)))
      go_wp2
      go_ret
      exact ⟨rfl, HG.out⟩
    · skip
      obtain ⟨kb0, kb1, kb2, kb3, kb4, kb5, kb6, kb7⟩ := ARow.cells (Whole.below H20.out b11 (Whole.lt H20.out))
      obtain ⟨kj0, kj1, kj2, kj3⟩ := CRow.cells (Whole.below H24.out b11 (Whole.lt H24.out))
      have hcl := law_con b11 (Av.below H22.out b11 (Nat.le_refl _)) HLj.out (HVb.out (by simp))
      go_wp2_with fail
      refine hcl.mono ?_
      rintro e y12 ⟨rfl, b12, -⟩
      clear hcl kb0 kb1 kb2 kb3 kb4 kb5 kb6 kb7 kj0 kj1 kj2 kj3
      have hcl := law_cawk b12 (Tab.below (Tab.below HT.out H18.out (Nat.le_refl _)) b12 (Nat.le_refl _))
      go_wp2_with fail
      refine hcl.mono ?_
      rintro e y13 ⟨rfl, b13⟩
      clear hcl 
      have HG := Lib.hid (Below.trans H18.out (Below.mono b13 (Below.size H18.out)))
      go_wp2
      go_ret
      exact ⟨rfl, HG.out⟩
  · have hfst := wit_fst HKa.out HKb.out hWo
    have HX := Lib.hid (shown_wit HKa.out HKb.out hfst)
    have HLo : Hid (on.length ≤ 9223372036854775807) := Lib.hid (by have := hfst.1.2.2.2.2.1; simp only at this; omega)
    clear hWo hfst
    obtain ⟨ka0, ka1, ka2, ka3, ka4, ka5, ka6, ka7⟩ := ARow.cells (Whole.below H7.out (Below.refl _ _) (Whole.lt H7.out))
    obtain ⟨ko0, ko1, ko2, ko3⟩ := CRow.cells (Whole.below H11.out (Below.refl _ _) (Whole.lt H11.out))
    have hcl := law_con (Below.refl _ _) (Av.below H9.out (Below.refl _ _) (Nat.le_refl _)) HLo.out HX.out.1
    go_wp2_with fail
    refine hcl.mono ?_
    rintro e y20 ⟨rfl, b20, -⟩
    clear hcl ka0 ka1 ka2 ka3 ka4 ka5 ka6 ka7 ko0 ko1 ko2 ko3
    obtain ⟨kb0, kb1, kb2, kb3, kb4, kb5, kb6, kb7⟩ := ARow.cells (Whole.below H8.out b20 (Whole.lt H8.out))
    obtain ⟨ko0, ko1, ko2, ko3⟩ := CRow.cells (Whole.below H11.out b20 (Whole.lt H11.out))
    have hcl := law_con b20 (Av.below H10.out b20 (Nat.le_refl _)) HLo.out HX.out.2.1
    go_wp2_with fail
    refine hcl.mono ?_
    rintro e y21 ⟨rfl, b21, -⟩
    clear hcl kb0 kb1 kb2 kb3 kb4 kb5 kb6 kb7 ko0 ko1 ko2 ko3
    obtain ⟨ka0, ka1, ka2, ka3, ka4, ka5, ka6, ka7⟩ := ARow.cells (Whole.below H7.out b21 (Whole.lt H7.out))
    obtain ⟨kb0, kb1, kb2, kb3, kb4, kb5, kb6, kb7⟩ := ARow.cells (Whole.below H8.out b21 (Whole.lt H8.out))
    have hcl := law_win b21 (Tab.below (Tab.below HT.out H6.out (Nat.le_refl _)) b21 (Nat.le_refl _)) (Av.below H9.out b21 (Nat.le_refl _)) (Av.below H10.out b21 (Nat.le_refl _)) HX.out.2.2
    go_wp2_with fail
    refine hcl.mono ?_
    rintro e y22 ⟨rfl, b22⟩
    clear hcl ka0 ka1 ka2 ka3 ka4 ka5 ka6 ka7 kb0 kb1 kb2 kb3 kb4 kb5 kb6 kb7
    have hcl := law_cawk b22 (Tab.below (Tab.below HT.out H6.out (Nat.le_refl _)) b22 (Nat.le_refl _))
    go_wp2_with fail
    refine hcl.mono ?_
    rintro e y23 ⟨rfl, b23⟩
    clear hcl 
    have HG := Lib.hid (Below.trans H6.out (Below.mono b23 (Below.size H6.out)))
    go_wp2
    go_ret
    exact ⟨rfl, HG.out⟩
end Go.Proofs.YtedjbjplnjnnlaaDoor
