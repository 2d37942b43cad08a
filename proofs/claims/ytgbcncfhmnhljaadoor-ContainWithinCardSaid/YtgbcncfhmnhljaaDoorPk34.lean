/-
  The laws' awake of stage 9.
  The calls of Within and awake in the laws of stage 9.
  The law ContainWitness.
-/
import Derived.Deep.CutBlock
import Derived.Test.YtgbcncfhmnhljaaDoorPk27
import Derived.Test.YtgbcncfhmnhljaaDoorPk33
import Derived.Test.YtgbcncfhmnhljaaDoorPk10
import Derived.Test.YtgbcncfhmnhljaaDoorPk32
import Derived.Test.YtgbcncfhmnhljaaDoorPk22
import Derived.Test.YtgbcncfhmnhljaaDoorPk25
import Derived.Deep.RegionHeld3
import Derived.Test.YtgbcncfhmnhljaaDoorPk37
namespace Go.Proofs.YtgbcncfhmnhljaaDoor
open Go Go.RowKit Sh Leaf

abbrev awkP : Prd := ⟨6, 0, 0, 0, [97#8], 0⟩
theorem awk_cand {a : Aut} (ha : IsSet (holdsAll [awkP]) a) : FirstC fullA a ⟨0, 0, 0, [98#8]⟩ := by
  have hin : ∀ c, cok c → (ina a c ↔ c.holder = [97#8]) := fun c hc => (ha.2 c hc).trans ⟨fun h => by
    have := h awkP (by simp)
    unfold asks at this
    simp at this
    exact this, fun h p hp => by
    rw [List.mem_singleton.1 hp]
    unfold asks
    simp
    exact h⟩
  have hc0 : cok ⟨0, 0, 0, [98#8]⟩ := ⟨by decide, by decide, by decide, by decide⟩
  refine ⟨hc0, (full_set.2 _ hc0).2 trivial, fun h => by have := (hin _ hc0).1 h; simp at this, fun d hd _ hn => ?_⟩
  obtain ⟨⟨z0, z1⟩, ⟨l0, l1⟩, ⟨m0, m1⟩, hnm⟩ := id hd
  have hne : d.holder ≠ [97#8] := fun e => hn ((hin d hd).2 e)
  unfold cle
  simp only
  rcases Int.lt_or_eq_of_le z0 with g | g
  · exact .inl g
  · refine .inr ⟨g, ?_⟩
    rcases Int.lt_or_eq_of_le l0 with g | g
    · exact .inl g
    · refine .inr ⟨g, ?_⟩
      rcases Int.lt_or_eq_of_le m0 with g | g
      · exact .inl g
      · exact .inr ⟨g, nle_b hnm hne⟩
theorem awk_wit {a : Aut} (ha : IsSet (holdsAll [awkP]) a) {c : Ctx} {ok : Bool} (h : WitR fullA a c ok) : c = ⟨0, 0, 0, [98#8]⟩ ∧ ok = true := by
  have hc := awk_cand ha
  rcases wit_main h full_set.1 ha.1 with ⟨h1, h2⟩ | ⟨h1, h2, h3⟩
  · exact ⟨h2.unique hc, h1⟩
  · exact absurd (h3 _ hc.1 hc.2.1) hc.2.2.1
theorem awk_in {a : Aut} (ha : IsSet (holdsAll [awkP]) a) : decide (wi a fullA) = true := decide_eq_true ⟨ha.1, full_set.1, fun d hd _ => (full_set.2 d hd).2 trivial⟩
set_option linter.unusedSimpArgs false in
set_option maxRecDepth 100000 in
set_option maxHeartbeats 4000000 in
theorem cawake (w : World) (hT : Tab w) : Calls Tryd.prog 5 #[] w fun e w' => e = .returned (.bool true) ∧ Below w.heap.size w w' := by
  have esn : ({ data := #[97] } : ByteArray) = sof [97#8] := by unfold sof; rfl
  have hP : Prds (w.alloc (.cells #[.int .i64 6, .int .u64 0, .int .i64 0, .int .i64 0, .string { data := #[97] }, .int .i64 0] 41)) (fun _ => True) (some ⟨w.heap.size, 0, none⟩) 1 [awkP] := Seq.mono (seq_one (f := pcl) (ok := pbd) (p := awkP) (heap_alloc_new w _) (by rw [esn]; rfl) ⟨by decide, by decide⟩) fun _ _ _ => trivial
  have hof := aof [awkP] _ _ _ _ hP
  have hb0 : Below w.heap.size w (w.alloc (.cells #[.int .i64 6, .int .u64 0, .int .i64 0, .int .i64 0, .string { data := #[97] }, .int .i64 0] 41)) := (Below.refl _ _).alloc (Nat.le_refl _) _
  have HB0 := Lib.hid hb0
  have HT := Lib.hid hT
  clear hP hb0 hT esn
  go_enter Tryd.func5, Tryd.ntmps5
  go_wp2_with fail
  refine hof.mono ?_
  rintro e u1 ⟨⟨x, a, er, rfl, hm, hr⟩, hb⟩
  obtain ⟨hs, rfl⟩ := of_ok hr (by decide) (by intro p hp; rw [List.mem_singleton.1 hp]; decide)
  obtain ⟨Aa, ca, rfl, hS, hab⟩ := hm
  obtain ⟨p, hp⟩ : ∃ p, p = u1.alloc (.cells (avl a Aa ca) 25) := ⟨_, rfl⟩
  have hup : Below u1.heap.size u1 p := by rw [hp]; exact (Below.refl u1.heap.size u1).alloc (Nat.le_refl _) _
  have hr1 : ARow p u1.heap.size a.none a.zones a.lines a.days a.lo a.hi (.slice Aa a.daily.length ca) a.holder := by rw [hp]; exact Whole.here _ _ _
  have hbl : Below w.heap.size w p := HB0.out.trans ((hb.trans (hup.mono hb.size)).mono HB0.out.size)
  have hav : Av p (fun _ => True) (.agg (avl a Aa ca)) a := ⟨Aa, ca, rfl, (hS.below hup (Nat.le_refl _)).mono fun _ _ _ => trivial, hab⟩
  have hTp : Tab p := HT.out.below hbl (Nat.le_refl _)
  have HP : Hid ((∀ W, Below p.heap.size p W → W.cell? ⟨u1.heap.size, 0, none⟩ = some (.bool a.none) ∧ W.cell? ⟨u1.heap.size, 1, none⟩ = some (.int .u64 (a.zones : Int)) ∧ W.cell? ⟨u1.heap.size, 2, none⟩ = some (.int .u64 (a.lines : Int)) ∧ W.cell? ⟨u1.heap.size, 3, none⟩ = some (.int .u64 (a.days : Int)) ∧ W.cell? ⟨u1.heap.size, 4, none⟩ = some (.int .i64 a.lo) ∧ W.cell? ⟨u1.heap.size, 5, none⟩ = some (.int .i64 a.hi) ∧ W.cell? ⟨u1.heap.size, 6, none⟩ = some (.slice Aa a.daily.length ca) ∧ W.cell? ⟨u1.heap.size, 7, none⟩ = some (.string (sof a.holder))) ∧ (∀ W, Below p.heap.size p W → Av W (fun _ => True) (.agg (arow a.none a.zones a.lines a.days a.lo a.hi (.slice Aa a.daily.length ca) a.holder)) a) ∧ (∀ W, Below p.heap.size p W → Tab W)) := Lib.hid ⟨fun W h => ARow.cells (Whole.below hr1 h (Whole.lt hr1)), fun W h => hav.below h (Nat.le_refl _), fun W h => hTp.below h (Nat.le_refl _)⟩
  have HBL := Lib.hid hbl
  have HS := Lib.hid hs
  clear hof hb hr hs hS hab hup hr1 hbl hav hTp HB0 HT
  go_upto_region 2 with fail
  rw [← hp]
  clear hp
  go_cut [3, 4] (fun s v wx => ∃ (g : Nat) (z l m : Int) (n : List B8) (ok : Bool), s = .pointer (some ⟨g, 0, none⟩) ∧ v = .bool ok ∧ CRow wx g z l m n ∧ WitR fullA a ⟨z, l, m, n⟩ ok ∧ Below p.heap.size p wx)
  case first =>
    have hb0 : Below p.heap.size p p.drew := Below.drew (Below.refl _ _)
    refine wp_region_held_drew (S := fun W : World => W.cell? ⟨u1.heap.size, 0, none⟩ = some (.bool a.none) ∧ W.cell? ⟨u1.heap.size, 1, none⟩ = some (.int .u64 (a.zones : Int)) ∧ W.cell? ⟨u1.heap.size, 2, none⟩ = some (.int .u64 (a.lines : Int)) ∧ W.cell? ⟨u1.heap.size, 3, none⟩ = some (.int .u64 (a.days : Int)) ∧ W.cell? ⟨u1.heap.size, 4, none⟩ = some (.int .i64 a.lo) ∧ W.cell? ⟨u1.heap.size, 5, none⟩ = some (.int .i64 a.hi) ∧ W.cell? ⟨u1.heap.size, 6, none⟩ = some (.slice Aa a.daily.length ca) ∧ W.cell? ⟨u1.heap.size, 7, none⟩ = some (.string (sof a.holder))) (by kernel_rfl) (HP.out.1 _ (Below.drew (Below.refl _ _))) (fun hHeld => ?_)
    apply wpAnyH_take (i := 1) rfl (by kernel_rfl) (by kernel_rfl) (by kernel_rfl)
    case hQ => exact fun _ _ _ h => h
    case hS => exact hHeld
    case hy => (refine Or.inl ⟨by rfl, ?_⟩; intro w hSw; go_split_ands; go_simp; (try with_reducible rfl))
    (try simp only [List.getElem_toArray, List.getElem_cons_succ, List.getElem_cons_zero, Act.put, List.setIfInBounds_toArray, List.set_cons_zero, List.set_cons_succ])
    refine wpAnyH_ready (rs := [0, 6]) (by kernel_rfl) (by simp) ?_
    refine AllReadyH.cons rfl (fun K hK => ?_) (AllReadyH.cons rfl (fun K hK => ?_) AllReadyH.nil)
    · (try simp only [List.getElem_toArray, List.getElem_cons_succ, List.getElem_cons_zero])
      go_simp
      go_at_call 14
      refine (afull _).mono ?_
      rintro e W1 ⟨⟨z1, rfl, hz1⟩, hc1⟩
      have hb1 := Below.trans hb0 (Below.mono hc1 (Below.size hb0))
      refine hK.out _ _ (HP.out.1 _ hb1) (fun hHeld => ?_)
      clear hK K
      (try simp only [List.getElem_toArray, List.getElem_cons_succ, List.getElem_cons_zero, Act.put, List.setIfInBounds_toArray, List.set_cons_zero, List.set_cons_succ])
      refine wpAnyH_ready (rs := [2, 6]) (by kernel_rfl) (by simp) ?_
      refine AllReadyH.cons rfl (fun K hK => ?_) (AllReadyH.cons rfl (fun K hK => ?_) AllReadyH.nil)
      · (try simp only [List.getElem_toArray, List.getElem_cons_succ, List.getElem_cons_zero])
        go_simp
        go_at_call 11
        refine (cWitness (HP.out.2.2 _ hb1) hz1 (HP.out.2.1 _ hb1)).mono ?_
        rintro e W2 ⟨⟨zz2, ll2, mm2, nn2, ok2, rfl, hw2⟩, hc2⟩
        have hb2 := Below.trans hb1 (Below.mono hc2 (Below.size hb1))
        refine hK.out _ _ (HP.out.1 _ hb2) (fun hHeld => ?_)
        clear hK K
        (try simp only [List.getElem_toArray, List.getElem_cons_succ, List.getElem_cons_zero, Act.put, List.setIfInBounds_toArray, List.set_cons_zero, List.set_cons_succ])
        apply wpAnyH_take (i := 3) rfl (by kernel_rfl) (by kernel_rfl) (by kernel_rfl)
        case hQ => exact fun _ _ _ h => h
        case hS => exact hHeld
        case hy => (refine Or.inl ⟨by rfl, ?_⟩; intro w hSw; go_split_ands; go_simp; (try with_reducible rfl))
        (try simp only [List.getElem_toArray, List.getElem_cons_succ, List.getElem_cons_zero, Act.put, List.setIfInBounds_toArray, List.set_cons_zero, List.set_cons_succ])
        apply wpAnyH_take (i := 4) rfl (by kernel_rfl) (by kernel_rfl) (by kernel_rfl)
        case hQ => exact fun _ _ _ h => h
        case hS => exact hHeld
        case hy => (refine Or.inl ⟨by rfl, ?_⟩; intro w hSw; go_split_ands; go_simp; (try with_reducible rfl))
        (try simp only [List.getElem_toArray, List.getElem_cons_succ, List.getElem_cons_zero, Act.put, List.setIfInBounds_toArray, List.set_cons_zero, List.set_cons_succ])
        apply wpAnyH_take (i := 5) rfl (by kernel_rfl) (by kernel_rfl) (by kernel_rfl)
        case hQ => exact fun _ _ _ h => h
        case hS => exact hHeld
        case hy => (refine Or.inl ⟨by rfl, ?_⟩; intro w hSw; go_split_ands; go_simp; (try with_reducible rfl))
        (try simp only [List.getElem_toArray, List.getElem_cons_succ, List.getElem_cons_zero, Act.put, List.setIfInBounds_toArray, List.set_cons_zero, List.set_cons_succ])
        refine wpAnyH_ready (rs := [6]) (by kernel_rfl) (by simp) ?_
        refine AllReadyH.cons rfl (fun K hK => ?_) AllReadyH.nil
        (try simp only [List.getElem_toArray, List.getElem_cons_succ, List.getElem_cons_zero])
        go_simp
        have hV3 : Whole (W2.alloc (.cells zctx 34)) W2.heap.size 34 zctx := Whole.here _ _ _
        have hb3 : Below p.heap.size p (W2.alloc (.cells zctx 34)) := Below.alloc hb2 (Below.size hb2) _
        generalize hWW3 : W2.alloc (.cells zctx 34) = V3 at hV3 hb3 ⊢
        refine hK.out _ _ (HP.out.1 _ hb3) (fun hHeld => ?_)
        clear hK K
        (try simp only [List.getElem_toArray, List.getElem_cons_succ, List.getElem_cons_zero, Act.put, List.setIfInBounds_toArray, List.set_cons_zero, List.set_cons_succ])
        refine wpAnyH_ready (rs := [7]) (by kernel_rfl) (by simp) ?_
        refine AllReadyH.cons rfl (fun K hK => ?_) AllReadyH.nil
        (try simp only [List.getElem_toArray, List.getElem_cons_succ, List.getElem_cons_zero])
        rw [if_pos (by kernel_rfl)]
        refine wp_store_row 34 _ _ rfl W2.heap.size _ rfl rfl 34 _ hV3 (by kernel_rfl) rfl (by with_unfolding_all rfl) ?_
        have hC4 : CRow (V3.setRow W2.heap.size (crow zz2 ll2 mm2 nn2)) W2.heap.size zz2 ll2 mm2 nn2 := Whole.setRow hV3 _
        have hb4 : Below p.heap.size p (V3.setRow W2.heap.size (crow zz2 ll2 mm2 nn2)) := below_setRow hb3 (Below.size hb2) _
        refine hK.out _ _ (HP.out.1 _ hb4) (fun hHeld => ?_)
        clear hK K
        (try simp only [List.getElem_toArray, List.getElem_cons_succ, List.getElem_cons_zero, Act.put, List.setIfInBounds_toArray, List.set_cons_zero, List.set_cons_succ])
        apply wpAnyH_take (i := 8) rfl (by kernel_rfl) (by kernel_rfl) (by kernel_rfl)
        case hQ => exact fun _ _ _ h => h
        case hS => exact hHeld
        case hy => (refine Or.inl ⟨by rfl, ?_⟩; intro w hSw; go_split_ands; go_simp; (try with_reducible rfl))
        (try simp only [List.getElem_toArray, List.getElem_cons_succ, List.getElem_cons_zero, Act.put, List.setIfInBounds_toArray, List.set_cons_zero, List.set_cons_succ])
        refine wpAnyH_done (by kernel_rfl) ?_ _
        go_wp2_with fail
        go_meet
        exact ⟨W2.heap.size, zz2, ll2, mm2, nn2, ok2, rfl, rfl, hC4, hw2, hb4⟩
      · (try simp only [List.getElem_toArray, List.getElem_cons_succ, List.getElem_cons_zero])
        go_simp
        have hV5 : Whole (W1.alloc (.cells zctx 34)) W1.heap.size 34 zctx := Whole.here _ _ _
        have hb5 : Below p.heap.size p (W1.alloc (.cells zctx 34)) := Below.alloc hb1 (Below.size hb1) _
        have hz5 := Av.below hz1 ((Below.refl W1.heap.size W1).alloc (Nat.le_refl _) (.cells zctx 34)) (Nat.le_refl _)
        generalize hWW5 : W1.alloc (.cells zctx 34) = V5 at hV5 hb5 hz5 ⊢
        refine hK.out _ _ (HP.out.1 _ hb5) (fun hHeld => ?_)
        clear hK K
        (try simp only [List.getElem_toArray, List.getElem_cons_succ, List.getElem_cons_zero, Act.put, List.setIfInBounds_toArray, List.set_cons_zero, List.set_cons_succ])
        refine wpAnyH_ready (rs := [2]) (by kernel_rfl) (by simp) ?_
        refine AllReadyH.cons rfl (fun K hK => ?_) AllReadyH.nil
        (try simp only [List.getElem_toArray, List.getElem_cons_succ, List.getElem_cons_zero])
        go_simp
        go_at_call 11
        refine (cWitness (HP.out.2.2 _ hb5) hz5 (HP.out.2.1 _ hb5)).mono ?_
        rintro e W6 ⟨⟨zz6, ll6, mm6, nn6, ok6, rfl, hw6⟩, hc6⟩
        have hb6 := Below.trans hb5 (Below.mono hc6 (Below.size hb5))
        have hV6 := Whole.below hV5 hc6 (Whole.lt hV5)
        refine hK.out _ _ (HP.out.1 _ hb6) (fun hHeld => ?_)
        clear hK K
        (try simp only [List.getElem_toArray, List.getElem_cons_succ, List.getElem_cons_zero, Act.put, List.setIfInBounds_toArray, List.set_cons_zero, List.set_cons_succ])
        apply wpAnyH_take (i := 3) rfl (by kernel_rfl) (by kernel_rfl) (by kernel_rfl)
        case hQ => exact fun _ _ _ h => h
        case hS => exact hHeld
        case hy => (refine Or.inl ⟨by rfl, ?_⟩; intro w hSw; go_split_ands; go_simp; (try with_reducible rfl))
        (try simp only [List.getElem_toArray, List.getElem_cons_succ, List.getElem_cons_zero, Act.put, List.setIfInBounds_toArray, List.set_cons_zero, List.set_cons_succ])
        apply wpAnyH_take (i := 4) rfl (by kernel_rfl) (by kernel_rfl) (by kernel_rfl)
        case hQ => exact fun _ _ _ h => h
        case hS => exact hHeld
        case hy => (refine Or.inl ⟨by rfl, ?_⟩; intro w hSw; go_split_ands; go_simp; (try with_reducible rfl))
        (try simp only [List.getElem_toArray, List.getElem_cons_succ, List.getElem_cons_zero, Act.put, List.setIfInBounds_toArray, List.set_cons_zero, List.set_cons_succ])
        apply wpAnyH_take (i := 5) rfl (by kernel_rfl) (by kernel_rfl) (by kernel_rfl)
        case hQ => exact fun _ _ _ h => h
        case hS => exact hHeld
        case hy => (refine Or.inl ⟨by rfl, ?_⟩; intro w hSw; go_split_ands; go_simp; (try with_reducible rfl))
        (try simp only [List.getElem_toArray, List.getElem_cons_succ, List.getElem_cons_zero, Act.put, List.setIfInBounds_toArray, List.set_cons_zero, List.set_cons_succ])
        refine wpAnyH_ready (rs := [7]) (by kernel_rfl) (by simp) ?_
        refine AllReadyH.cons rfl (fun K hK => ?_) AllReadyH.nil
        (try simp only [List.getElem_toArray, List.getElem_cons_succ, List.getElem_cons_zero])
        rw [if_pos (by kernel_rfl)]
        refine wp_store_row 34 _ _ rfl W1.heap.size _ rfl rfl 34 _ hV6 (by kernel_rfl) rfl (by with_unfolding_all rfl) ?_
        have hC7 : CRow (W6.setRow W1.heap.size (crow zz6 ll6 mm6 nn6)) W1.heap.size zz6 ll6 mm6 nn6 := Whole.setRow hV6 _
        have hb7 : Below p.heap.size p (W6.setRow W1.heap.size (crow zz6 ll6 mm6 nn6)) := below_setRow hb6 (Below.size hb1) _
        refine hK.out _ _ (HP.out.1 _ hb7) (fun hHeld => ?_)
        clear hK K
        (try simp only [List.getElem_toArray, List.getElem_cons_succ, List.getElem_cons_zero, Act.put, List.setIfInBounds_toArray, List.set_cons_zero, List.set_cons_succ])
        apply wpAnyH_take (i := 8) rfl (by kernel_rfl) (by kernel_rfl) (by kernel_rfl)
        case hQ => exact fun _ _ _ h => h
        case hS => exact hHeld
        case hy => (refine Or.inl ⟨by rfl, ?_⟩; intro w hSw; go_split_ands; go_simp; (try with_reducible rfl))
        (try simp only [List.getElem_toArray, List.getElem_cons_succ, List.getElem_cons_zero, Act.put, List.setIfInBounds_toArray, List.set_cons_zero, List.set_cons_succ])
        refine wpAnyH_done (by kernel_rfl) ?_ _
        go_wp2_with fail
        go_meet
        exact ⟨W1.heap.size, zz6, ll6, mm6, nn6, ok6, rfl, rfl, hC7, hw6, hb7⟩
    · (try simp only [List.getElem_toArray, List.getElem_cons_succ, List.getElem_cons_zero])
      go_simp
      have hV8 : Whole (p.alloc (.cells zctx 34)).drew p.heap.size 34 zctx := Whole.drew (Whole.here _ _ _)
      have hb8 : Below p.heap.size p (p.alloc (.cells zctx 34)).drew := Below.drew (Below.alloc (Below.refl _ _) (Nat.le_refl _) _)
      generalize (p.alloc (.cells zctx 34)).drew = W8 at hV8 hb8 ⊢
      refine hK.out _ _ (HP.out.1 _ hb8) (fun hHeld => ?_)
      clear hK K
      (try simp only [List.getElem_toArray, List.getElem_cons_succ, List.getElem_cons_zero, Act.put, List.setIfInBounds_toArray, List.set_cons_zero, List.set_cons_succ])
      refine wpAnyH_ready (rs := [0]) (by kernel_rfl) (by simp) ?_
      refine AllReadyH.cons rfl (fun K hK => ?_) AllReadyH.nil
      (try simp only [List.getElem_toArray, List.getElem_cons_succ, List.getElem_cons_zero])
      go_simp
      go_at_call 14
      refine (afull _).mono ?_
      rintro e W9 ⟨⟨z9, rfl, hz9⟩, hc9⟩
      have hb9 := Below.trans hb8 (Below.mono hc9 (Below.size hb8))
      have hV9 := Whole.below hV8 hc9 (Whole.lt hV8)
      refine hK.out _ _ (HP.out.1 _ hb9) (fun hHeld => ?_)
      clear hK K
      (try simp only [List.getElem_toArray, List.getElem_cons_succ, List.getElem_cons_zero, Act.put, List.setIfInBounds_toArray, List.set_cons_zero, List.set_cons_succ])
      refine wpAnyH_ready (rs := [2]) (by kernel_rfl) (by simp) ?_
      refine AllReadyH.cons rfl (fun K hK => ?_) AllReadyH.nil
      (try simp only [List.getElem_toArray, List.getElem_cons_succ, List.getElem_cons_zero])
      go_simp
      go_at_call 11
      refine (cWitness (HP.out.2.2 _ hb9) hz9 (HP.out.2.1 _ hb9)).mono ?_
      rintro e W10 ⟨⟨zz10, ll10, mm10, nn10, ok10, rfl, hw10⟩, hc10⟩
      have hb10 := Below.trans hb9 (Below.mono hc10 (Below.size hb9))
      have hV10 := Whole.below hV9 hc10 (Whole.lt hV9)
      refine hK.out _ _ (HP.out.1 _ hb10) (fun hHeld => ?_)
      clear hK K
      (try simp only [List.getElem_toArray, List.getElem_cons_succ, List.getElem_cons_zero, Act.put, List.setIfInBounds_toArray, List.set_cons_zero, List.set_cons_succ])
      apply wpAnyH_take (i := 3) rfl (by kernel_rfl) (by kernel_rfl) (by kernel_rfl)
      case hQ => exact fun _ _ _ h => h
      case hS => exact hHeld
      case hy => (refine Or.inl ⟨by rfl, ?_⟩; intro w hSw; go_split_ands; go_simp; (try with_reducible rfl))
      (try simp only [List.getElem_toArray, List.getElem_cons_succ, List.getElem_cons_zero, Act.put, List.setIfInBounds_toArray, List.set_cons_zero, List.set_cons_succ])
      apply wpAnyH_take (i := 4) rfl (by kernel_rfl) (by kernel_rfl) (by kernel_rfl)
      case hQ => exact fun _ _ _ h => h
      case hS => exact hHeld
      case hy => (refine Or.inl ⟨by rfl, ?_⟩; intro w hSw; go_split_ands; go_simp; (try with_reducible rfl))
      (try simp only [List.getElem_toArray, List.getElem_cons_succ, List.getElem_cons_zero, Act.put, List.setIfInBounds_toArray, List.set_cons_zero, List.set_cons_succ])
      apply wpAnyH_take (i := 5) rfl (by kernel_rfl) (by kernel_rfl) (by kernel_rfl)
      case hQ => exact fun _ _ _ h => h
      case hS => exact hHeld
      case hy => (refine Or.inl ⟨by rfl, ?_⟩; intro w hSw; go_split_ands; go_simp; (try with_reducible rfl))
      (try simp only [List.getElem_toArray, List.getElem_cons_succ, List.getElem_cons_zero, Act.put, List.setIfInBounds_toArray, List.set_cons_zero, List.set_cons_succ])
      refine wpAnyH_ready (rs := [7]) (by kernel_rfl) (by simp) ?_
      refine AllReadyH.cons rfl (fun K hK => ?_) AllReadyH.nil
      (try simp only [List.getElem_toArray, List.getElem_cons_succ, List.getElem_cons_zero])
      rw [if_pos (by kernel_rfl)]
      refine wp_store_row 34 _ _ rfl p.heap.size _ rfl rfl 34 _ hV10 (by kernel_rfl) rfl (by with_unfolding_all rfl) ?_
      have hC11 : CRow (W10.setRow p.heap.size (crow zz10 ll10 mm10 nn10)) p.heap.size zz10 ll10 mm10 nn10 := Whole.setRow hV10 _
      have hb11 : Below p.heap.size p (W10.setRow p.heap.size (crow zz10 ll10 mm10 nn10)) := below_setRow hb10 (Nat.le_refl p.heap.size) _
      refine hK.out _ _ (HP.out.1 _ hb11) (fun hHeld => ?_)
      clear hK K
      (try simp only [List.getElem_toArray, List.getElem_cons_succ, List.getElem_cons_zero, Act.put, List.setIfInBounds_toArray, List.set_cons_zero, List.set_cons_succ])
      apply wpAnyH_take (i := 8) rfl (by kernel_rfl) (by kernel_rfl) (by kernel_rfl)
      case hQ => exact fun _ _ _ h => h
      case hS => exact hHeld
      case hy => (refine Or.inl ⟨by rfl, ?_⟩; intro w hSw; go_split_ands; go_simp; (try with_reducible rfl))
      (try simp only [List.getElem_toArray, List.getElem_cons_succ, List.getElem_cons_zero, Act.put, List.setIfInBounds_toArray, List.set_cons_zero, List.set_cons_succ])
      refine wpAnyH_done (by kernel_rfl) ?_ _
      go_wp2_with fail
      go_meet
      exact ⟨p.heap.size, zz10, ll10, mm10, nn10, ok10, rfl, rfl, hC11, hw10, hb11⟩
  case rest =>
    obtain ⟨g, z, l, m, n, ok, rfl, rfl, hC, hw, hb⟩ := hcut
    obtain ⟨e1, rfl⟩ := awk_wit HS.out hw
    injection e1 with e1 e2 e3 e4
    subst e1 e2 e3 e4
    have HBC := Lib.hid hb
    have HC := Lib.hid hC
    have HWI := Lib.hid (awk_in HS.out)
    have es : sof [98#8] = ({ data := #[98] } : ByteArray) := by unfold sof; rfl
    have HQ : Hid (∀ W, Below wc.heap.size wc W → (fun W : World => W.cell? ⟨u1.heap.size, 0, none⟩ = some (.bool a.none) ∧ W.cell? ⟨u1.heap.size, 1, none⟩ = some (.int .u64 (a.zones : Int)) ∧ W.cell? ⟨u1.heap.size, 2, none⟩ = some (.int .u64 (a.lines : Int)) ∧ W.cell? ⟨u1.heap.size, 3, none⟩ = some (.int .u64 (a.days : Int)) ∧ W.cell? ⟨u1.heap.size, 4, none⟩ = some (.int .i64 a.lo) ∧ W.cell? ⟨u1.heap.size, 5, none⟩ = some (.int .i64 a.hi) ∧ W.cell? ⟨u1.heap.size, 6, none⟩ = some (.slice Aa a.daily.length ca) ∧ W.cell? ⟨u1.heap.size, 7, none⟩ = some (.string (sof a.holder)) ∧ W.cell? ⟨g, 0, none⟩ = some (.int .i64 0) ∧ W.cell? ⟨g, 1, none⟩ = some (.int .i64 0) ∧ W.cell? ⟨g, 2, none⟩ = some (.int .i64 0) ∧ W.cell? ⟨g, 3, none⟩ = some (.string { data := #[98] })) W) := Lib.hid fun W h => by
      obtain ⟨x0, x1, x2, x3, x4, x5, x6, x7⟩ := HP.out.1 W (HBC.out.trans (h.mono HBC.out.size))
      obtain ⟨k0, k1, k2, k3⟩ := CRow.cells (Whole.below HC.out h (Whole.lt HC.out))
      rw [es] at k3
      exact ⟨x0, x1, x2, x3, x4, x5, x6, x7, k0, k1, k2, k3⟩
    clear hC hw hb es HC
    go_upto_region 3 with fail
    refine wp_region_held_drew (S := fun W : World => W.cell? ⟨u1.heap.size, 0, none⟩ = some (.bool a.none) ∧ W.cell? ⟨u1.heap.size, 1, none⟩ = some (.int .u64 (a.zones : Int)) ∧ W.cell? ⟨u1.heap.size, 2, none⟩ = some (.int .u64 (a.lines : Int)) ∧ W.cell? ⟨u1.heap.size, 3, none⟩ = some (.int .u64 (a.days : Int)) ∧ W.cell? ⟨u1.heap.size, 4, none⟩ = some (.int .i64 a.lo) ∧ W.cell? ⟨u1.heap.size, 5, none⟩ = some (.int .i64 a.hi) ∧ W.cell? ⟨u1.heap.size, 6, none⟩ = some (.slice Aa a.daily.length ca) ∧ W.cell? ⟨u1.heap.size, 7, none⟩ = some (.string (sof a.holder)) ∧ W.cell? ⟨g, 0, none⟩ = some (.int .i64 0) ∧ W.cell? ⟨g, 1, none⟩ = some (.int .i64 0) ∧ W.cell? ⟨g, 2, none⟩ = some (.int .i64 0) ∧ W.cell? ⟨g, 3, none⟩ = some (.string { data := #[98] })) (by kernel_rfl) (HQ.out _ (Below.drew (Below.refl _ _))) (fun hHeld => ?_)
    apply wpAnyH_take (i := 0) rfl (by kernel_rfl) (by kernel_rfl) (by kernel_rfl)
    case hQ => exact fun _ _ _ h => h
    case hS => exact hHeld
    case hy => (refine Or.inl ⟨by rfl, ?_⟩; intro w hSw; go_split_ands; go_simp; (try with_reducible rfl))
    (try simp only [List.getElem_toArray, List.getElem_cons_zero, Act.put, List.setIfInBounds_toArray, List.set_cons_zero, List.set_cons_succ])
    apply wpAnyH_take (i := 1) rfl (by kernel_rfl) (by kernel_rfl) (by kernel_rfl)
    case hQ => exact fun _ _ _ h => h
    case hS => exact hHeld
    case hy => (refine Or.inl ⟨by rfl, ?_⟩; intro w hSw; go_split_ands; go_simp; (try with_reducible rfl))
    (try simp only [List.getElem_toArray, List.getElem_cons_succ, List.getElem_cons_zero, Act.put, List.setIfInBounds_toArray, List.set_cons_zero, List.set_cons_succ])
    apply wpAnyH_take (i := 2) rfl (by kernel_rfl) (by kernel_rfl) (by kernel_rfl)
    case hQ => exact fun _ _ _ h => h
    case hS => exact hHeld
    case hy => (refine Or.inl ⟨by rfl, ?_⟩; intro w hSw; go_split_ands; go_simp; (try with_reducible rfl))
    (try simp only [List.getElem_toArray, List.getElem_cons_succ, List.getElem_cons_zero, Act.put, List.setIfInBounds_toArray, List.set_cons_zero, List.set_cons_succ])
    apply wpAnyH_take (i := 3) rfl (by kernel_rfl) (by kernel_rfl) (by kernel_rfl)
    case hQ => exact fun _ _ _ h => h
    case hS => exact hHeld
    case hy => (refine Or.inl ⟨by rfl, ?_⟩; intro w hSw; go_split_ands; go_simp; (try with_reducible rfl))
    (try simp only [List.getElem_toArray, List.getElem_cons_succ, List.getElem_cons_zero, Act.put, List.setIfInBounds_toArray, List.set_cons_zero, List.set_cons_succ])
    apply wpAnyH_take (i := 4) rfl (by kernel_rfl) (by kernel_rfl) (by kernel_rfl)
    case hQ => exact fun _ _ _ h => h
    case hS => exact hHeld
    case hy => (refine Or.inl ⟨by rfl, ?_⟩; intro w hSw; go_split_ands; go_simp; (try with_reducible rfl))
    (try simp only [List.getElem_toArray, List.getElem_cons_succ, List.getElem_cons_zero, Act.put, List.setIfInBounds_toArray, List.set_cons_zero, List.set_cons_succ])
    apply wpAnyH_take (i := 5) rfl (by kernel_rfl) (by kernel_rfl) (by kernel_rfl)
    case hQ => exact fun _ _ _ h => h
    case hS => exact hHeld
    case hy => (refine Or.inl ⟨by rfl, ?_⟩; intro w hSw; go_split_ands; go_simp; (try with_reducible rfl))
    (try simp only [List.getElem_toArray, List.getElem_cons_succ, List.getElem_cons_zero, Act.put, List.setIfInBounds_toArray, List.set_cons_zero, List.set_cons_succ])
    apply wpAnyH_take (i := 6) rfl (by kernel_rfl) (by kernel_rfl) (by kernel_rfl)
    case hQ => exact fun _ _ _ h => h
    case hS => exact hHeld
    case hy => (refine Or.inl ⟨by rfl, ?_⟩; intro w hSw; go_split_ands; go_simp; (try with_reducible rfl))
    (try simp only [List.getElem_toArray, List.getElem_cons_succ, List.getElem_cons_zero, Act.put, List.setIfInBounds_toArray, List.set_cons_zero, List.set_cons_succ])
    apply wpAnyH_take (i := 7) rfl (by kernel_rfl) (by kernel_rfl) (by kernel_rfl)
    case hQ => exact fun _ _ _ h => h
    case hS => exact hHeld
    case hy => (refine Or.inl ⟨by rfl, ?_⟩; intro w hSw; go_split_ands; go_simp; (try with_reducible rfl))
    (try simp only [List.getElem_toArray, List.getElem_cons_succ, List.getElem_cons_zero, Act.put, List.setIfInBounds_toArray, List.set_cons_zero, List.set_cons_succ])
    refine wpAnyH_ready (rs := [8]) (by kernel_rfl) (by simp) ?_
    refine AllReadyH.cons rfl (fun K hK => ?_) AllReadyH.nil
    (try simp only [List.getElem_toArray, List.getElem_cons_succ, List.getElem_cons_zero])
    go_simp
    go_at_call 14
    refine (afull _).mono ?_
    rintro e X1 ⟨⟨zf, rfl, hzf⟩, hf1⟩
    refine hK.out _ _ (HQ.out _ (Below.trans (Below.drew (Below.refl _ _)) hf1)) (fun hHeld => ?_)
    clear hK K
    (try simp only [List.getElem_toArray, List.getElem_cons_succ, List.getElem_cons_zero, Act.put, List.setIfInBounds_toArray, List.set_cons_zero, List.set_cons_succ])
    refine wpAnyH_ready (rs := [9]) (by kernel_rfl) (by simp) ?_
    refine AllReadyH.cons rfl (fun K hK => ?_) AllReadyH.nil
    (try simp only [List.getElem_toArray, List.getElem_cons_succ, List.getElem_cons_zero])
    go_simp
    go_at_call 7
    refine (cWithin (HP.out.2.2 _ (HBC.out.drew.trans (hf1.mono HBC.out.size))) (HP.out.2.1 _ (HBC.out.drew.trans (hf1.mono HBC.out.size))) hzf).mono ?_
    rintro e X2 ⟨he, hf2⟩
    rw [HWI.out] at he
    subst he
    refine hK.out _ _ (HQ.out _ ((Below.trans (Below.drew (Below.refl _ _)) hf1).trans (hf2.mono (by have := hf1.size; exact this)))) (fun hHeld => ?_)
    clear hK K
    (try simp only [List.getElem_toArray, List.getElem_cons_succ, List.getElem_cons_zero, Act.put, List.setIfInBounds_toArray, List.set_cons_zero, List.set_cons_succ])
    apply wpAnyH_take (i := 10) rfl (by kernel_rfl) (by kernel_rfl) (by kernel_rfl)
    case hQ => exact fun _ _ _ h => h
    case hS => exact hHeld
    case hy => (refine Or.inl ⟨by rfl, ?_⟩; intro w hSw; go_split_ands; go_simp; (try with_reducible rfl))
    (try simp only [List.getElem_toArray, List.getElem_cons_succ, List.getElem_cons_zero, Act.put, List.setIfInBounds_toArray, List.set_cons_zero, List.set_cons_succ])
    apply wpAnyH_take (i := 11) rfl (by kernel_rfl) (by kernel_rfl) (by kernel_rfl)
    case hQ => exact fun _ _ _ h => h
    case hS => exact hHeld
    case hy => (refine Or.inl ⟨by rfl, ?_⟩; intro w hSw; go_split_ands; go_simp; (try with_reducible rfl))
    (try simp only [List.getElem_toArray, List.getElem_cons_succ, List.getElem_cons_zero, Act.put, List.setIfInBounds_toArray, List.set_cons_zero, List.set_cons_succ])
    refine wpAnyH_done (by kernel_rfl) ?_ _
    have HG : Hid (Below w.heap.size w X2) := Lib.hid (HBL.out.trans ((HBC.out.drew.trans ((hf1.trans (hf2.mono hf1.size)).mono HBC.out.size)).mono (Below.size HBL.out)))
    clear hf1 hf2 hzf
    go_wp2
    go_ret
    exact ⟨rfl, HG.out⟩
end Go.Proofs.YtgbcncfhmnhljaaDoor
namespace Go.Proofs.YtgbcncfhmnhljaaDoor
open Go Go.RowKit Sh Leaf

theorem law_win {p W : World} {x y : Value} {a b : Aut} {Q1 Q2 : Nat → Prop} (hb : Below p.heap.size p W) (hT : Tab W) (hx : Av W Q1 x a) (hy : Av W Q2 y b) {B : Bool} (e : decide (wi a b) = B) :
    Calls Tryd.prog 7 #[x, y] W fun e w' => e = .returned (.bool B) ∧ Below p.heap.size p w' :=
  (cWithin hT hx hy).mono fun _ _ h => ⟨by rw [h.1, e], hb.trans (h.2.mono hb.size)⟩
theorem law_cawk {p W : World} (hb : Below p.heap.size p W) (hT : Tab W) : Calls Tryd.prog 5 #[] W fun e w' => e = .returned (.bool true) ∧ Below p.heap.size p w' :=
  (cawake W hT).mono fun _ _ h => ⟨h.1, hb.trans (h.2.mono hb.size)⟩
end Go.Proofs.YtgbcncfhmnhljaaDoor
namespace Go.Proofs.YtgbcncfhmnhljaaDoor
open Go Go.RowKit Sh Leaf

theorem run_eq_ctx (z l m : Int) (n : List B8) (w : World) : (binOp .eql 34 (.agg #[.int .i64 z, .int .i64 l, .int .i64 m, .string (sof n)]) (.agg #[.int .i64 z, .int .i64 l, .int .i64 m, .string (sof n)])).run Tryd.prog w = .ok (.bool true) w := by
  simp [go_sem]
set_option linter.unusedSimpArgs false in
set_option linter.unusedVariables false in
set_option maxRecDepth 100000 in
set_option maxHeartbeats 8000000 in
theorem cwitness_law {x y : Value} {f h : Aut} (A2 : Option Addr) (l2 : List Int) (c2 : Nat) (w : World) (hT : Tab w) (hx : Av w (fun _ => True) x f) (hy : Av w (fun _ => True) y h) (hI2 : Ints w (fun b => b < w.heap.size) A2 c2 l2) :
    Calls Tryd.prog 4 #[x, y, .slice A2 l2.length c2] w fun e w' => e = .returned (.bool true) ∧ Below w.heap.size w w' := by
  obtain ⟨n2, hn2⟩ : ∃ n, n = l2.length := ⟨_, rfl⟩
  rw [← hn2]
  have HT := Lib.hid hT
  have HI2 := Lib.hid hI2
  have HN2 := Lib.hid hn2
  obtain ⟨Af, cf, rfl, hSf, hff⟩ := hx
  obtain ⟨Ah, ch, rfl, hSh, hhh⟩ := hy
  obtain ⟨p0, hp⟩ : ∃ p, p = (w.alloc (.cells (avl f Af cf) 25)).alloc (.cells (avl h Ah ch) 25) := ⟨_, rfl⟩
  have hb0 : Below w.heap.size w p0 := by rw [hp]; exact ab_below _ _ _
  clear hI2 hn2 hT
  go_enter Tryd.func4, Tryd.ntmps4
  go_upto_region 1 with fail
  rw [← hp]
  have H0 : Hid (Below w.heap.size w p0) := Lib.hid (hb0)
  have H1 : Hid (ARow p0 w.heap.size f.none f.zones f.lines f.days f.lo f.hi (.slice Af f.daily.length cf) f.holder) := Lib.hid (by rw [hp]; exact (Whole.here _ _ _).alloc _)
  have H2 : Hid (ARow p0 (w.heap.size + 1) h.none h.zones h.lines h.days h.lo h.hi (.slice Ah h.daily.length ch) h.holder) := Lib.hid (by rw [hp]; exact Whole.at_ _ _ _ _ (by simp))
  have H3 : Hid (Av p0 (fun _ => True) (.agg (arow f.none f.zones f.lines f.days f.lo f.hi (.slice Af f.daily.length cf) f.holder)) f) := Lib.hid (⟨Af, cf, rfl, (hSf.below hb0 (Nat.le_refl _)).mono fun _ _ _ => trivial, hff⟩)
  have H4 : Hid (Av p0 (fun _ => True) (.agg (arow h.none h.zones h.lines h.days h.lo h.hi (.slice Ah h.daily.length ch) h.holder)) h) := Lib.hid (⟨Ah, ch, rfl, (hSh.below hb0 (Nat.le_refl _)).mono fun _ _ _ => trivial, hhh⟩)
  clear hSf hff hSh hhh hb0 hp
  obtain ⟨nf, hnf⟩ : ∃ n, n = f.daily.length := ⟨_, rfl⟩
  obtain ⟨nh, hnh⟩ : ∃ n, n = h.daily.length := ⟨_, rfl⟩
  by_cases h60 : (60 : Int) < (nf : Int)
  · skip
    obtain ⟨k0, k1, k2, k3, k4, k5, k6, k7⟩ := ARow.cells H1.out
    obtain ⟨m0, m1, m2, m3, m4, m5, m6, m7⟩ := ARow.cells H2.out
    rw [← hnf] at k6
    rw [← hnh] at m6
    have hcl := law_cawk (Below.refl _ _) (Tab.below HT.out H0.out (Nat.le_refl _))
    go_wp2_with fail
    refine hcl.mono ?_
    rintro e w1 ⟨rfl, hb⟩
    have HB := Lib.hid (Below.trans H0.out (Below.mono hb (Below.size H0.out)))
    clear hb hcl k0 k1 k2 k3 k4 k5 k6 k7 m0 m1 m2 m3 m4 m5 m6 m7
    go_wp2
    go_ret
    exact ⟨rfl, HB.out⟩
  by_cases h61 : (60 : Int) < (nh : Int)
  · skip
    obtain ⟨k0, k1, k2, k3, k4, k5, k6, k7⟩ := ARow.cells H1.out
    obtain ⟨m0, m1, m2, m3, m4, m5, m6, m7⟩ := ARow.cells H2.out
    rw [← hnf] at k6
    rw [← hnh] at m6
    have hcl := law_cawk (Below.refl _ _) (Tab.below HT.out H0.out (Nat.le_refl _))
    go_wp2_with fail
    refine hcl.mono ?_
    rintro e w1 ⟨rfl, hb⟩
    have HB := Lib.hid (Below.trans H0.out (Below.mono hb (Below.size H0.out)))
    clear hb hcl k0 k1 k2 k3 k4 k5 k6 k7 m0 m1 m2 m3 m4 m5 m6 m7
    go_wp2
    go_ret
    exact ⟨rfl, HB.out⟩
  obtain ⟨k0, k1, k2, k3, k4, k5, k6, k7⟩ := ARow.cells H1.out
  obtain ⟨m0, m1, m2, m3, m4, m5, m6, m7⟩ := ARow.cells H2.out
  rw [← hnf] at k6
  rw [← hnh] at m6
  go_upto_region 3 with fail
  clear k0 k1 k2 k3 k4 k5 k6 k7 m0 m1 m2 m3 m4 m5 m6 m7 h60 h61 hnf hnh
  have hmd := cmade A2 l2 c2 p0 ((HI2.out.below H0.out).mono (Below.size H0.out))
  rw [← HN2.out] at hmd
  go_wp2_with fail
  refine hmd.mono ?_
  rintro e u1 ⟨⟨xx, yy, a, b, g1, rfl, hx, hy, ha, hb, hdk, hgl⟩, hbl⟩
  obtain ⟨Aa, ca, rfl, hSa, haa⟩ := hx
  obtain ⟨Ab, cb, rfl, hSb, hbb⟩ := hy
  obtain ⟨p1, hp⟩ : ∃ p, p = (u1.alloc (.cells (avl a Aa ca) 25)).alloc (.cells (avl b Ab cb) 25) := ⟨_, rfl⟩
  have hup : Below u1.heap.size u1 p1 := by rw [hp]; exact ab_below _ _ _
  have hle : Below p0.heap.size p0 p1 := hbl.trans (hup.mono hbl.size)
  have hgu1 : g1 < u1.heap.size := hdk.lt
  have hgw1 : p0.heap.size ≤ g1 := hgl
  have H5 : Hid (Below w.heap.size w p1) := Lib.hid (Below.trans H0.out (Below.mono hle (Below.size H0.out)))
  have H6 : Hid (ARow p1 w.heap.size f.none f.zones f.lines f.days f.lo f.hi (.slice Af f.daily.length cf) f.holder) := Lib.hid (Whole.below H1.out hle (Whole.lt H1.out))
  have H7 : Hid (ARow p1 (w.heap.size + 1) h.none h.zones h.lines h.days h.lo h.hi (.slice Ah h.daily.length ch) h.holder) := Lib.hid (Whole.below H2.out hle (Whole.lt H2.out))
  have H8 : Hid (Av p1 (fun _ => True) (.agg (arow f.none f.zones f.lines f.days f.lo f.hi (.slice Af f.daily.length cf) f.holder)) f) := Lib.hid (Av.below H3.out hle (Nat.le_refl _))
  have H9 : Hid (Av p1 (fun _ => True) (.agg (arow h.none h.zones h.lines h.days h.lo h.hi (.slice Ah h.daily.length ch) h.holder)) h) := Lib.hid (Av.below H4.out hle (Nat.le_refl _))
  clear H0 H1 H2 H3 H4
  have H10 : Hid (ARow p1 u1.heap.size a.none a.zones a.lines a.days a.lo a.hi (.slice Aa a.daily.length ca) a.holder) := Lib.hid (by rw [hp]; exact (Whole.here _ _ _).alloc _)
  have H11 : Hid (ARow p1 (u1.heap.size + 1) b.none b.zones b.lines b.days b.lo b.hi (.slice Ab b.daily.length cb) b.holder) := Lib.hid (by rw [hp]; exact Whole.at_ _ _ _ _ (by simp))
  have H12 : Hid (Av p1 (fun k => k ≠ g1) (.agg (arow a.none a.zones a.lines a.days a.lo a.hi (.slice Aa a.daily.length ca) a.holder)) a) := Lib.hid (⟨Aa, ca, rfl, (hSa.below hup (Nat.le_refl _)).mono fun k _ hk => hk.2, haa⟩)
  have H13 : Hid (Av p1 (fun k => k ≠ g1) (.agg (arow b.none b.zones b.lines b.days b.lo b.hi (.slice Ab b.daily.length cb) b.holder)) b) := Lib.hid (⟨Ab, cb, rfl, (hSb.below hup (Nat.le_refl _)).mono fun k _ hk => hk.2, hbb⟩)
  have HKa : Hid (aok a) := Lib.hid ha
  have HKb : Hid (aok b) := Lib.hid hb
  clear hmd hSa hSb haa hbb ha hb hdk hgl hbl hup hle
  go_upto_region 4 with fail
  rw [← hp]
  clear hp
  obtain ⟨k0, k1, k2, k3, k4, k5, k6, k7⟩ := ARow.cells H10.out
  obtain ⟨m0, m1, m2, m3, m4, m5, m6, m7⟩ := ARow.cells H11.out
  have hcl := cWitness (Tab.below HT.out H5.out (Nat.le_refl _)) H12.out H13.out
  go_wp2_with fail
  refine hcl.mono ?_
  rintro e v2 ⟨⟨oz, ol, om, on, oko, rfl, hWo⟩, hbb⟩
  clear hcl k0 k1 k2 k3 k4 k5 k6 k7 m0 m1 m2 m3 m4 m5 m6 m7
  have HWo := Lib.hid hWo
  clear hWo
  obtain ⟨q2, hp⟩ : ∃ p, p = v2.alloc (.cells (crow oz ol om on) 34) := ⟨_, rfl⟩
  have hup : Below v2.heap.size v2 q2 := by rw [hp]; exact (Below.refl _ _).alloc (Nat.le_refl _) _
  have hle := Below.trans hbb (Below.mono hup (Below.size hbb))
  have H14 : Hid (Below w.heap.size w q2) := Lib.hid (Below.trans H5.out (Below.mono hle (Below.size H5.out)))
  have H15 : Hid (ARow q2 w.heap.size f.none f.zones f.lines f.days f.lo f.hi (.slice Af f.daily.length cf) f.holder) := Lib.hid (Whole.below H6.out hle (Whole.lt H6.out))
  have H16 : Hid (ARow q2 (w.heap.size + 1) h.none h.zones h.lines h.days h.lo h.hi (.slice Ah h.daily.length ch) h.holder) := Lib.hid (Whole.below H7.out hle (Whole.lt H7.out))
  have H17 : Hid (Av q2 (fun _ => True) (.agg (arow f.none f.zones f.lines f.days f.lo f.hi (.slice Af f.daily.length cf) f.holder)) f) := Lib.hid (Av.below H8.out hle (Nat.le_refl _))
  have H18 : Hid (Av q2 (fun _ => True) (.agg (arow h.none h.zones h.lines h.days h.lo h.hi (.slice Ah h.daily.length ch) h.holder)) h) := Lib.hid (Av.below H9.out hle (Nat.le_refl _))
  have H19 : Hid (ARow q2 u1.heap.size a.none a.zones a.lines a.days a.lo a.hi (.slice Aa a.daily.length ca) a.holder) := Lib.hid (Whole.below H10.out hle (Whole.lt H10.out))
  have H20 : Hid (ARow q2 (u1.heap.size + 1) b.none b.zones b.lines b.days b.lo b.hi (.slice Ab b.daily.length cb) b.holder) := Lib.hid (Whole.below H11.out hle (Whole.lt H11.out))
  have H21 : Hid (Av q2 (fun k => k ≠ g1) (.agg (arow a.none a.zones a.lines a.days a.lo a.hi (.slice Aa a.daily.length ca) a.holder)) a) := Lib.hid (Av.below H12.out hle (Nat.le_refl _))
  have H22 : Hid (Av q2 (fun k => k ≠ g1) (.agg (arow b.none b.zones b.lines b.days b.lo b.hi (.slice Ab b.daily.length cb) b.holder)) b) := Lib.hid (Av.below H13.out hle (Nat.le_refl _))
  clear H5 H6 H7 H8 H9 H10 H11 H12 H13
  have H23 : Hid (CRow q2 v2.heap.size oz ol om on) := Lib.hid (by rw [hp]; exact Whole.here _ _ _)
  clear hup hle hbb
  go_upto_region 5 with fail
  rw [← hp]
  clear hp
  obtain ⟨k0, k1, k2, k3, k4, k5, k6, k7⟩ := ARow.cells H19.out
  obtain ⟨m0, m1, m2, m3, m4, m5, m6, m7⟩ := ARow.cells H20.out
  have hcl := rWitness H21.out H22.out
  go_wp2_with fail
  refine hcl.mono ?_
  rintro e v3 ⟨⟨ooz, ool, oom, oon, okoo, rfl, hWoo⟩, hbb⟩
  clear hcl k0 k1 k2 k3 k4 k5 k6 k7 m0 m1 m2 m3 m4 m5 m6 m7
  obtain ⟨e1, rfl⟩ := WitR.unique HWo.out hWoo
  injection e1 with e1 e2 e3 e4
  subst e1 e2 e3 e4
  clear hWoo
  obtain ⟨q3, hp⟩ : ∃ p, p = v3.alloc (.cells (crow oz ol om on) 34) := ⟨_, rfl⟩
  have hup : Below v3.heap.size v3 q3 := by rw [hp]; exact (Below.refl _ _).alloc (Nat.le_refl _) _
  have hle := Below.trans hbb (Below.mono hup (Below.size hbb))
  have H24 : Hid (Below w.heap.size w q3) := Lib.hid (Below.trans H14.out (Below.mono hle (Below.size H14.out)))
  have H25 : Hid (ARow q3 w.heap.size f.none f.zones f.lines f.days f.lo f.hi (.slice Af f.daily.length cf) f.holder) := Lib.hid (Whole.below H15.out hle (Whole.lt H15.out))
  have H26 : Hid (ARow q3 (w.heap.size + 1) h.none h.zones h.lines h.days h.lo h.hi (.slice Ah h.daily.length ch) h.holder) := Lib.hid (Whole.below H16.out hle (Whole.lt H16.out))
  have H27 : Hid (Av q3 (fun _ => True) (.agg (arow f.none f.zones f.lines f.days f.lo f.hi (.slice Af f.daily.length cf) f.holder)) f) := Lib.hid (Av.below H17.out hle (Nat.le_refl _))
  have H28 : Hid (Av q3 (fun _ => True) (.agg (arow h.none h.zones h.lines h.days h.lo h.hi (.slice Ah h.daily.length ch) h.holder)) h) := Lib.hid (Av.below H18.out hle (Nat.le_refl _))
  have H29 : Hid (ARow q3 u1.heap.size a.none a.zones a.lines a.days a.lo a.hi (.slice Aa a.daily.length ca) a.holder) := Lib.hid (Whole.below H19.out hle (Whole.lt H19.out))
  have H30 : Hid (ARow q3 (u1.heap.size + 1) b.none b.zones b.lines b.days b.lo b.hi (.slice Ab b.daily.length cb) b.holder) := Lib.hid (Whole.below H20.out hle (Whole.lt H20.out))
  have H31 : Hid (Av q3 (fun k => k ≠ g1) (.agg (arow a.none a.zones a.lines a.days a.lo a.hi (.slice Aa a.daily.length ca) a.holder)) a) := Lib.hid (Av.below H21.out hle (Nat.le_refl _))
  have H32 : Hid (Av q3 (fun k => k ≠ g1) (.agg (arow b.none b.zones b.lines b.days b.lo b.hi (.slice Ab b.daily.length cb) b.holder)) b) := Lib.hid (Av.below H22.out hle (Nat.le_refl _))
  have H33 : Hid (CRow q3 v2.heap.size oz ol om on) := Lib.hid (Whole.below H23.out hle (Whole.lt H23.out))
  clear H14 H15 H16 H17 H18 H19 H20 H21 H22 H23
  have H34 : Hid (CRow q3 v3.heap.size oz ol om on) := Lib.hid (by rw [hp]; exact Whole.here _ _ _)
  clear hup hle hbb
  go_upto_region 6 with fail
  rw [← hp]
  clear hp
  obtain ⟨k0, k1, k2, k3, k4, k5, k6, k7⟩ := ARow.cells H25.out
  obtain ⟨m0, m1, m2, m3, m4, m5, m6, m7⟩ := ARow.cells H30.out
  have hcl := cWitness (Tab.below HT.out H24.out (Nat.le_refl _)) H27.out H32.out
  go_wp2_with fail
  refine hcl.mono ?_
  rintro e v4 ⟨⟨sz, sl, sm, sn, oks, rfl, hWs⟩, hbb⟩
  clear hcl k0 k1 k2 k3 k4 k5 k6 k7 m0 m1 m2 m3 m4 m5 m6 m7
  have HWs := Lib.hid hWs
  clear hWs
  obtain ⟨q4, hp⟩ : ∃ p, p = v4.alloc (.cells (crow sz sl sm sn) 34) := ⟨_, rfl⟩
  have hup : Below v4.heap.size v4 q4 := by rw [hp]; exact (Below.refl _ _).alloc (Nat.le_refl _) _
  have hle := Below.trans hbb (Below.mono hup (Below.size hbb))
  have H35 : Hid (Below w.heap.size w q4) := Lib.hid (Below.trans H24.out (Below.mono hle (Below.size H24.out)))
  have H36 : Hid (ARow q4 w.heap.size f.none f.zones f.lines f.days f.lo f.hi (.slice Af f.daily.length cf) f.holder) := Lib.hid (Whole.below H25.out hle (Whole.lt H25.out))
  have H37 : Hid (ARow q4 (w.heap.size + 1) h.none h.zones h.lines h.days h.lo h.hi (.slice Ah h.daily.length ch) h.holder) := Lib.hid (Whole.below H26.out hle (Whole.lt H26.out))
  have H38 : Hid (Av q4 (fun _ => True) (.agg (arow f.none f.zones f.lines f.days f.lo f.hi (.slice Af f.daily.length cf) f.holder)) f) := Lib.hid (Av.below H27.out hle (Nat.le_refl _))
  have H39 : Hid (Av q4 (fun _ => True) (.agg (arow h.none h.zones h.lines h.days h.lo h.hi (.slice Ah h.daily.length ch) h.holder)) h) := Lib.hid (Av.below H28.out hle (Nat.le_refl _))
  have H40 : Hid (ARow q4 u1.heap.size a.none a.zones a.lines a.days a.lo a.hi (.slice Aa a.daily.length ca) a.holder) := Lib.hid (Whole.below H29.out hle (Whole.lt H29.out))
  have H41 : Hid (ARow q4 (u1.heap.size + 1) b.none b.zones b.lines b.days b.lo b.hi (.slice Ab b.daily.length cb) b.holder) := Lib.hid (Whole.below H30.out hle (Whole.lt H30.out))
  have H42 : Hid (Av q4 (fun k => k ≠ g1) (.agg (arow a.none a.zones a.lines a.days a.lo a.hi (.slice Aa a.daily.length ca) a.holder)) a) := Lib.hid (Av.below H31.out hle (Nat.le_refl _))
  have H43 : Hid (Av q4 (fun k => k ≠ g1) (.agg (arow b.none b.zones b.lines b.days b.lo b.hi (.slice Ab b.daily.length cb) b.holder)) b) := Lib.hid (Av.below H32.out hle (Nat.le_refl _))
  have H44 : Hid (CRow q4 v2.heap.size oz ol om on) := Lib.hid (Whole.below H33.out hle (Whole.lt H33.out))
  have H45 : Hid (CRow q4 v3.heap.size oz ol om on) := Lib.hid (Whole.below H34.out hle (Whole.lt H34.out))
  clear H24 H25 H26 H27 H28 H29 H30 H31 H32 H33 H34
  have H46 : Hid (CRow q4 v4.heap.size sz sl sm sn) := Lib.hid (by rw [hp]; exact Whole.here _ _ _)
  clear hup hle hbb
  go_upto_region 7 with fail
  rw [← hp]
  clear hp
  obtain ⟨k0, k1, k2, k3, k4, k5, k6, k7⟩ := ARow.cells H36.out
  obtain ⟨m0, m1, m2, m3, m4, m5, m6, m7⟩ := ARow.cells H41.out
  have hcl := rWitness H38.out H43.out
  go_wp2_with fail
  refine hcl.mono ?_
  rintro e v5 ⟨⟨ssz, ssl, ssm, ssn, okss, rfl, hWss⟩, hbb⟩
  clear hcl k0 k1 k2 k3 k4 k5 k6 k7 m0 m1 m2 m3 m4 m5 m6 m7
  obtain ⟨e1, rfl⟩ := WitR.unique HWs.out hWss
  injection e1 with e1 e2 e3 e4
  subst e1 e2 e3 e4
  clear hWss
  obtain ⟨q5, hp⟩ : ∃ p, p = v5.alloc (.cells (crow sz sl sm sn) 34) := ⟨_, rfl⟩
  have hup : Below v5.heap.size v5 q5 := by rw [hp]; exact (Below.refl _ _).alloc (Nat.le_refl _) _
  have hle := Below.trans hbb (Below.mono hup (Below.size hbb))
  have H47 : Hid (Below w.heap.size w q5) := Lib.hid (Below.trans H35.out (Below.mono hle (Below.size H35.out)))
  have H48 : Hid (ARow q5 w.heap.size f.none f.zones f.lines f.days f.lo f.hi (.slice Af f.daily.length cf) f.holder) := Lib.hid (Whole.below H36.out hle (Whole.lt H36.out))
  have H49 : Hid (ARow q5 (w.heap.size + 1) h.none h.zones h.lines h.days h.lo h.hi (.slice Ah h.daily.length ch) h.holder) := Lib.hid (Whole.below H37.out hle (Whole.lt H37.out))
  have H50 : Hid (Av q5 (fun _ => True) (.agg (arow f.none f.zones f.lines f.days f.lo f.hi (.slice Af f.daily.length cf) f.holder)) f) := Lib.hid (Av.below H38.out hle (Nat.le_refl _))
  have H51 : Hid (Av q5 (fun _ => True) (.agg (arow h.none h.zones h.lines h.days h.lo h.hi (.slice Ah h.daily.length ch) h.holder)) h) := Lib.hid (Av.below H39.out hle (Nat.le_refl _))
  have H52 : Hid (ARow q5 u1.heap.size a.none a.zones a.lines a.days a.lo a.hi (.slice Aa a.daily.length ca) a.holder) := Lib.hid (Whole.below H40.out hle (Whole.lt H40.out))
  have H53 : Hid (ARow q5 (u1.heap.size + 1) b.none b.zones b.lines b.days b.lo b.hi (.slice Ab b.daily.length cb) b.holder) := Lib.hid (Whole.below H41.out hle (Whole.lt H41.out))
  have H54 : Hid (Av q5 (fun k => k ≠ g1) (.agg (arow a.none a.zones a.lines a.days a.lo a.hi (.slice Aa a.daily.length ca) a.holder)) a) := Lib.hid (Av.below H42.out hle (Nat.le_refl _))
  have H55 : Hid (Av q5 (fun k => k ≠ g1) (.agg (arow b.none b.zones b.lines b.days b.lo b.hi (.slice Ab b.daily.length cb) b.holder)) b) := Lib.hid (Av.below H43.out hle (Nat.le_refl _))
  have H56 : Hid (CRow q5 v2.heap.size oz ol om on) := Lib.hid (Whole.below H44.out hle (Whole.lt H44.out))
  have H57 : Hid (CRow q5 v3.heap.size oz ol om on) := Lib.hid (Whole.below H45.out hle (Whole.lt H45.out))
  have H58 : Hid (CRow q5 v4.heap.size sz sl sm sn) := Lib.hid (Whole.below H46.out hle (Whole.lt H46.out))
  clear H35 H36 H37 H38 H39 H40 H41 H42 H43 H44 H45 H46
  have H59 : Hid (CRow q5 v5.heap.size sz sl sm sn) := Lib.hid (by rw [hp]; exact Whole.here _ _ _)
  clear hup hle hbb
  go_upto_region 8 with fail
  rw [← hp]
  clear hp
  obtain ⟨k0, k1, k2, k3, k4, k5, k6, k7⟩ := ARow.cells H48.out
  obtain ⟨m0, m1, m2, m3, m4, m5, m6, m7⟩ := ARow.cells H49.out
  have hcl := cWitness (Tab.below HT.out H47.out (Nat.le_refl _)) H50.out H51.out
  go_wp2_with fail
  refine hcl.mono ?_
  rintro e v6 ⟨⟨dz, dl, dm, dn, okd, rfl, hWd⟩, hbb⟩
  clear hcl k0 k1 k2 k3 k4 k5 k6 k7 m0 m1 m2 m3 m4 m5 m6 m7
  have HWd := Lib.hid hWd
  clear hWd
  obtain ⟨q6, hp⟩ : ∃ p, p = v6.alloc (.cells (crow dz dl dm dn) 34) := ⟨_, rfl⟩
  have hup : Below v6.heap.size v6 q6 := by rw [hp]; exact (Below.refl _ _).alloc (Nat.le_refl _) _
  have hle := Below.trans hbb (Below.mono hup (Below.size hbb))
  have H60 : Hid (Below w.heap.size w q6) := Lib.hid (Below.trans H47.out (Below.mono hle (Below.size H47.out)))
  have H61 : Hid (ARow q6 w.heap.size f.none f.zones f.lines f.days f.lo f.hi (.slice Af f.daily.length cf) f.holder) := Lib.hid (Whole.below H48.out hle (Whole.lt H48.out))
  have H62 : Hid (ARow q6 (w.heap.size + 1) h.none h.zones h.lines h.days h.lo h.hi (.slice Ah h.daily.length ch) h.holder) := Lib.hid (Whole.below H49.out hle (Whole.lt H49.out))
  have H63 : Hid (Av q6 (fun _ => True) (.agg (arow f.none f.zones f.lines f.days f.lo f.hi (.slice Af f.daily.length cf) f.holder)) f) := Lib.hid (Av.below H50.out hle (Nat.le_refl _))
  have H64 : Hid (Av q6 (fun _ => True) (.agg (arow h.none h.zones h.lines h.days h.lo h.hi (.slice Ah h.daily.length ch) h.holder)) h) := Lib.hid (Av.below H51.out hle (Nat.le_refl _))
  have H65 : Hid (ARow q6 u1.heap.size a.none a.zones a.lines a.days a.lo a.hi (.slice Aa a.daily.length ca) a.holder) := Lib.hid (Whole.below H52.out hle (Whole.lt H52.out))
  have H66 : Hid (ARow q6 (u1.heap.size + 1) b.none b.zones b.lines b.days b.lo b.hi (.slice Ab b.daily.length cb) b.holder) := Lib.hid (Whole.below H53.out hle (Whole.lt H53.out))
  have H67 : Hid (Av q6 (fun k => k ≠ g1) (.agg (arow a.none a.zones a.lines a.days a.lo a.hi (.slice Aa a.daily.length ca) a.holder)) a) := Lib.hid (Av.below H54.out hle (Nat.le_refl _))
  have H68 : Hid (Av q6 (fun k => k ≠ g1) (.agg (arow b.none b.zones b.lines b.days b.lo b.hi (.slice Ab b.daily.length cb) b.holder)) b) := Lib.hid (Av.below H55.out hle (Nat.le_refl _))
  have H69 : Hid (CRow q6 v2.heap.size oz ol om on) := Lib.hid (Whole.below H56.out hle (Whole.lt H56.out))
  have H70 : Hid (CRow q6 v3.heap.size oz ol om on) := Lib.hid (Whole.below H57.out hle (Whole.lt H57.out))
  have H71 : Hid (CRow q6 v4.heap.size sz sl sm sn) := Lib.hid (Whole.below H58.out hle (Whole.lt H58.out))
  have H72 : Hid (CRow q6 v5.heap.size sz sl sm sn) := Lib.hid (Whole.below H59.out hle (Whole.lt H59.out))
  clear H47 H48 H49 H50 H51 H52 H53 H54 H55 H56 H57 H58 H59
  have H73 : Hid (CRow q6 v6.heap.size dz dl dm dn) := Lib.hid (by rw [hp]; exact Whole.here _ _ _)
  clear hup hle hbb
  go_upto_region 9 with fail
  rw [← hp]
  clear hp
  obtain ⟨k0, k1, k2, k3, k4, k5, k6, k7⟩ := ARow.cells H61.out
  obtain ⟨m0, m1, m2, m3, m4, m5, m6, m7⟩ := ARow.cells H62.out
  have hcl := rWitness H63.out H64.out
  go_wp2_with fail
  refine hcl.mono ?_
  rintro e v7 ⟨⟨ddz, ddl, ddm, ddn, okdd, rfl, hWdd⟩, hbb⟩
  clear hcl k0 k1 k2 k3 k4 k5 k6 k7 m0 m1 m2 m3 m4 m5 m6 m7
  obtain ⟨e1, rfl⟩ := WitR.unique HWd.out hWdd
  injection e1 with e1 e2 e3 e4
  subst e1 e2 e3 e4
  clear hWdd
  obtain ⟨q7, hp⟩ : ∃ p, p = v7.alloc (.cells (crow dz dl dm dn) 34) := ⟨_, rfl⟩
  have hup : Below v7.heap.size v7 q7 := by rw [hp]; exact (Below.refl _ _).alloc (Nat.le_refl _) _
  have hle := Below.trans hbb (Below.mono hup (Below.size hbb))
  have H74 : Hid (Below w.heap.size w q7) := Lib.hid (Below.trans H60.out (Below.mono hle (Below.size H60.out)))
  have H75 : Hid (ARow q7 w.heap.size f.none f.zones f.lines f.days f.lo f.hi (.slice Af f.daily.length cf) f.holder) := Lib.hid (Whole.below H61.out hle (Whole.lt H61.out))
  have H76 : Hid (ARow q7 (w.heap.size + 1) h.none h.zones h.lines h.days h.lo h.hi (.slice Ah h.daily.length ch) h.holder) := Lib.hid (Whole.below H62.out hle (Whole.lt H62.out))
  have H77 : Hid (Av q7 (fun _ => True) (.agg (arow f.none f.zones f.lines f.days f.lo f.hi (.slice Af f.daily.length cf) f.holder)) f) := Lib.hid (Av.below H63.out hle (Nat.le_refl _))
  have H78 : Hid (Av q7 (fun _ => True) (.agg (arow h.none h.zones h.lines h.days h.lo h.hi (.slice Ah h.daily.length ch) h.holder)) h) := Lib.hid (Av.below H64.out hle (Nat.le_refl _))
  have H79 : Hid (ARow q7 u1.heap.size a.none a.zones a.lines a.days a.lo a.hi (.slice Aa a.daily.length ca) a.holder) := Lib.hid (Whole.below H65.out hle (Whole.lt H65.out))
  have H80 : Hid (ARow q7 (u1.heap.size + 1) b.none b.zones b.lines b.days b.lo b.hi (.slice Ab b.daily.length cb) b.holder) := Lib.hid (Whole.below H66.out hle (Whole.lt H66.out))
  have H81 : Hid (Av q7 (fun k => k ≠ g1) (.agg (arow a.none a.zones a.lines a.days a.lo a.hi (.slice Aa a.daily.length ca) a.holder)) a) := Lib.hid (Av.below H67.out hle (Nat.le_refl _))
  have H82 : Hid (Av q7 (fun k => k ≠ g1) (.agg (arow b.none b.zones b.lines b.days b.lo b.hi (.slice Ab b.daily.length cb) b.holder)) b) := Lib.hid (Av.below H68.out hle (Nat.le_refl _))
  have H83 : Hid (CRow q7 v2.heap.size oz ol om on) := Lib.hid (Whole.below H69.out hle (Whole.lt H69.out))
  have H84 : Hid (CRow q7 v3.heap.size oz ol om on) := Lib.hid (Whole.below H70.out hle (Whole.lt H70.out))
  have H85 : Hid (CRow q7 v4.heap.size sz sl sm sn) := Lib.hid (Whole.below H71.out hle (Whole.lt H71.out))
  have H86 : Hid (CRow q7 v5.heap.size sz sl sm sn) := Lib.hid (Whole.below H72.out hle (Whole.lt H72.out))
  have H87 : Hid (CRow q7 v6.heap.size dz dl dm dn) := Lib.hid (Whole.below H73.out hle (Whole.lt H73.out))
  clear H60 H61 H62 H63 H64 H65 H66 H67 H68 H69 H70 H71 H72 H73
  have H88 : Hid (CRow q7 v7.heap.size dz dl dm dn) := Lib.hid (by rw [hp]; exact Whole.here _ _ _)
  clear hup hle hbb
  go_upto_region 10 with fail
  rw [← hp]
  clear hp
  have eqo := fun W => run_eq_ctx oz ol om on W
  have eko : (oko == oko) = true := by simp
  have eqs := fun W => run_eq_ctx sz sl sm sn W
  have eks : (oks == oks) = true := by simp
  have eqd := fun W => run_eq_ctx dz dl dm dn W
  have ekd : (okd == okd) = true := by simp
  obtain ⟨k00, k01, k02, k03⟩ := CRow.cells H83.out
  obtain ⟨k10, k11, k12, k13⟩ := CRow.cells H84.out
  obtain ⟨k20, k21, k22, k23⟩ := CRow.cells H85.out
  obtain ⟨k30, k31, k32, k33⟩ := CRow.cells H86.out
  obtain ⟨k40, k41, k42, k43⟩ := CRow.cells H87.out
  obtain ⟨k50, k51, k52, k53⟩ := CRow.cells H88.out
  have hcl := law_cawk (Below.refl _ _) (Tab.below (Tab.below HT.out H74.out (Nat.le_refl _)) (Below.refl _ _) (Nat.le_refl _))
  go_wp2_with fail
  refine hcl.mono ?_
  rintro e y12 ⟨rfl, b12⟩
  clear hcl 
  have HG := Lib.hid (Below.trans H74.out (Below.mono b12 (Below.size H74.out)))
  go_wp2
  go_ret
  exact ⟨rfl, HG.out⟩
end Go.Proofs.YtgbcncfhmnhljaaDoor
