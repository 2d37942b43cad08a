/-
  The law AuthorityLattice.
-/
import Derived.Deep.RegionHeld3
import Derived.Test.YtedjbjplnjnnlaaPk23
import Derived.Test.YtedjbjplnjnnlaaPk31
import Derived.Test.YtedjbjplnjnnlaaPk35
namespace Go.Proofs.Ytedjbjplnjnnlaa
open Go Go.RowKit Sh Leaf

theorem lat_comm {a b m n : Aut} (h : IsSet (both a b) m) (k : IsSet (both b a) n) : m = n := h.unique (k.congr fun _ _ => ⟨fun q => ⟨q.2.1, q.1, q.2.2.2, q.2.2.1⟩, fun q => ⟨q.2.1, q.1, q.2.2.2, q.2.2.1⟩⟩)
theorem lat_assoc {a b c m n p q : Aut} (ha : aok a) (hb : aok b) (hc : aok c) (h : IsSet (both a b) m) (k : IsSet (both m c) n) (h' : IsSet (both b c) p) (k' : IsSet (both a p) q) : n = q :=
  k.unique (k'.congr fun x hx => by
    unfold both
    rw [h.2 x hx, h'.2 x hx]
    exact ⟨fun r => ⟨h.1, hc, ⟨ha, hb, r.2.2.1, r.2.2.2.2.2.1⟩, r.2.2.2.2.2.2⟩, fun r => ⟨ha, h'.1, r.2.2.1.2.2.1, ⟨hb, hc, r.2.2.1.2.2.2, r.2.2.2⟩⟩⟩)
theorem lat_self {a m : Aut} (ha : aok a) (h : IsSet (both a a) m) : m = a := aok_unique h.1 ha fun c hc => (h.2 c hc).trans ⟨fun k => k.2.2.1, fun k => ⟨ha, ha, k, k⟩⟩
theorem lat_full {a m : Aut} (ha : aok a) (h : IsSet (both a fullA) m) : m = a := aok_unique h.1 ha fun c hc => (h.2 c hc).trans ⟨fun k => k.2.2.1, fun k => ⟨ha, full_set.1, k, (full_set.2 c hc).2 trivial⟩⟩
set_option linter.unusedSimpArgs false in
set_option linter.unusedVariables false in
set_option maxRecDepth 100000 in
set_option maxHeartbeats 8000000 in
theorem alat_law (A0 : Option Addr) (l0 : List Int) (c0 : Nat) (A1 : Option Addr) (l1 : List Int) (c1 : Nat) (w : World) (hI0 : Ints w (fun b => b < w.heap.size) A0 c0 l0) (hI1 : Ints w (fun b => b < w.heap.size) A1 c1 l1) :
    Calls Try.prog 7 #[.slice A0 l0.length c0, .slice A1 l1.length c1] w fun e w' => e = .returned (.bool true) ∧ Below w.heap.size w w' := by
  obtain ⟨n0, hn0⟩ : ∃ n, n = l0.length := ⟨_, rfl⟩
  obtain ⟨n1, hn1⟩ : ∃ n, n = l1.length := ⟨_, rfl⟩
  rw [← hn0, ← hn1]
  have HI0 := Lib.hid hI0
  have HI1 := Lib.hid hI1
  have HN0 := Lib.hid hn0
  have HN1 := Lib.hid hn1
  clear hI0 hI1 hn0 hn1
  go_enter Try.func7, Try.ntmps7
  have H0 : Hid (Below w.heap.size w w) := Lib.hid (Below.refl _ _)
  have hmd := amade rofc_ A0 l0 c0 w ((HI0.out.below H0.out).mono (Below.size H0.out))
  rw [← HN0.out] at hmd
  go_wp2_with fail
  refine hmd.mono ?_
  rintro e u1 ⟨⟨xx, yy, a, b, g1, rfl, hx, hy, ha, hb, hdk, hgl⟩, hbl⟩
  obtain ⟨Aa, ca, rfl, hSa, haa⟩ := hx
  obtain ⟨Ab, cb, rfl, hSb, hbb⟩ := hy
  obtain ⟨p1, hp⟩ : ∃ p, p = (u1.alloc (.cells (avl a Aa ca) 25)).alloc (.cells (avl b Ab cb) 25) := ⟨_, rfl⟩
  have hup : Below u1.heap.size u1 p1 := by rw [hp]; exact ab_below _ _ _
  have hle : Below w.heap.size w p1 := hbl.trans (hup.mono hbl.size)
  have hgu1 : g1 < u1.heap.size := hdk.lt
  have hgw1 : w.heap.size ≤ g1 := hgl
  have H1 : Hid (Below w.heap.size w p1) := Lib.hid (Below.trans H0.out (Below.mono hle (Below.size H0.out)))
  clear H0
  have H2 : Hid (ARow p1 u1.heap.size a.none a.zones a.lines a.days a.lo a.hi (.slice Aa a.daily.length ca) a.holder) := Lib.hid (by rw [hp]; exact (Whole.here _ _ _).alloc _)
  have H3 : Hid (ARow p1 (u1.heap.size + 1) b.none b.zones b.lines b.days b.lo b.hi (.slice Ab b.daily.length cb) b.holder) := Lib.hid (by rw [hp]; exact Whole.at_ _ _ _ _ (by simp))
  have H4 : Hid (Av p1 (fun k => k ≠ g1) (.agg (arow a.none a.zones a.lines a.days a.lo a.hi (.slice Aa a.daily.length ca) a.holder)) a) := Lib.hid (⟨Aa, ca, rfl, (hSa.below hup (Nat.le_refl _)).mono fun k _ hk => hk.2, haa⟩)
  have H5 : Hid (Av p1 (fun k => k ≠ g1) (.agg (arow b.none b.zones b.lines b.days b.lo b.hi (.slice Ab b.daily.length cb) b.holder)) b) := Lib.hid (⟨Ab, cb, rfl, (hSb.below hup (Nat.le_refl _)).mono fun k _ hk => hk.2, hbb⟩)
  have HKa : Hid (aok a) := Lib.hid ha
  have HKb : Hid (aok b) := Lib.hid hb
  clear hmd hSa hSb haa hbb ha hb hdk hgl hbl hup hle
  go_upto_region 2 with fail
  rw [← hp]
  clear hp
  have hmd := amade rofc_ A1 l1 c1 p1 ((HI1.out.below H1.out).mono (Below.size H1.out))
  rw [← HN1.out] at hmd
  go_wp2_with fail
  refine hmd.mono ?_
  rintro e u2 ⟨⟨xx, yy, c, d, g2, rfl, hx, hy, ha, hb, hdk, hgl⟩, hbl⟩
  obtain ⟨Ac, cc, rfl, hSa, haa⟩ := hx
  obtain ⟨Ad, cd, rfl, hSb, hbb⟩ := hy
  obtain ⟨p2, hp⟩ : ∃ p, p = (u2.alloc (.cells (avl c Ac cc) 25)).alloc (.cells (avl d Ad cd) 25) := ⟨_, rfl⟩
  have hup : Below u2.heap.size u2 p2 := by rw [hp]; exact ab_below _ _ _
  have hle : Below p1.heap.size p1 p2 := hbl.trans (hup.mono hbl.size)
  have hgu2 : g2 < u2.heap.size := hdk.lt
  have hgw2 : p1.heap.size ≤ g2 := hgl
  have H6 : Hid (Below w.heap.size w p2) := Lib.hid (Below.trans H1.out (Below.mono hle (Below.size H1.out)))
  have H7 : Hid (ARow p2 u1.heap.size a.none a.zones a.lines a.days a.lo a.hi (.slice Aa a.daily.length ca) a.holder) := Lib.hid (Whole.below H2.out hle (Whole.lt H2.out))
  have H8 : Hid (ARow p2 (u1.heap.size + 1) b.none b.zones b.lines b.days b.lo b.hi (.slice Ab b.daily.length cb) b.holder) := Lib.hid (Whole.below H3.out hle (Whole.lt H3.out))
  have H9 : Hid (Av p2 (fun k => k ≠ g1) (.agg (arow a.none a.zones a.lines a.days a.lo a.hi (.slice Aa a.daily.length ca) a.holder)) a) := Lib.hid (Av.below H4.out hle (Nat.le_refl _))
  have H10 : Hid (Av p2 (fun k => k ≠ g1) (.agg (arow b.none b.zones b.lines b.days b.lo b.hi (.slice Ab b.daily.length cb) b.holder)) b) := Lib.hid (Av.below H5.out hle (Nat.le_refl _))
  clear H1 H2 H3 H4 H5
  have H11 : Hid (ARow p2 u2.heap.size c.none c.zones c.lines c.days c.lo c.hi (.slice Ac c.daily.length cc) c.holder) := Lib.hid (by rw [hp]; exact (Whole.here _ _ _).alloc _)
  have H12 : Hid (ARow p2 (u2.heap.size + 1) d.none d.zones d.lines d.days d.lo d.hi (.slice Ad d.daily.length cd) d.holder) := Lib.hid (by rw [hp]; exact Whole.at_ _ _ _ _ (by simp))
  have H13 : Hid (Av p2 (fun k => k ≠ g2) (.agg (arow c.none c.zones c.lines c.days c.lo c.hi (.slice Ac c.daily.length cc) c.holder)) c) := Lib.hid (⟨Ac, cc, rfl, (hSa.below hup (Nat.le_refl _)).mono fun k _ hk => hk.2, haa⟩)
  have H14 : Hid (Av p2 (fun k => k ≠ g2) (.agg (arow d.none d.zones d.lines d.days d.lo d.hi (.slice Ad d.daily.length cd) d.holder)) d) := Lib.hid (⟨Ad, cd, rfl, (hSb.below hup (Nat.le_refl _)).mono fun k _ hk => hk.2, hbb⟩)
  have HKc : Hid (aok c) := Lib.hid ha
  have HKd : Hid (aok d) := Lib.hid hb
  clear hmd hSa hSb haa hbb ha hb hdk hgl hbl hup hle
  go_upto_region 3 with fail
  rw [← hp]
  clear hp
  have hcc : ∀ W, Below p2.heap.size p2 W → W.cell? ⟨u1.heap.size, 0, none⟩ = some (.bool a.none) ∧ W.cell? ⟨u1.heap.size, 1, none⟩ = some (.int .u64 (a.zones : Int)) ∧ W.cell? ⟨u1.heap.size, 2, none⟩ = some (.int .u64 (a.lines : Int)) ∧ W.cell? ⟨u1.heap.size, 3, none⟩ = some (.int .u64 (a.days : Int)) ∧ W.cell? ⟨u1.heap.size, 4, none⟩ = some (.int .i64 a.lo) ∧ W.cell? ⟨u1.heap.size, 5, none⟩ = some (.int .i64 a.hi) ∧ W.cell? ⟨u1.heap.size, 6, none⟩ = some (.slice Aa a.daily.length ca) ∧ W.cell? ⟨u1.heap.size, 7, none⟩ = some (.string (sof a.holder)) ∧ W.cell? ⟨(u1.heap.size + 1), 0, none⟩ = some (.bool b.none) ∧ W.cell? ⟨(u1.heap.size + 1), 1, none⟩ = some (.int .u64 (b.zones : Int)) ∧ W.cell? ⟨(u1.heap.size + 1), 2, none⟩ = some (.int .u64 (b.lines : Int)) ∧ W.cell? ⟨(u1.heap.size + 1), 3, none⟩ = some (.int .u64 (b.days : Int)) ∧ W.cell? ⟨(u1.heap.size + 1), 4, none⟩ = some (.int .i64 b.lo) ∧ W.cell? ⟨(u1.heap.size + 1), 5, none⟩ = some (.int .i64 b.hi) ∧ W.cell? ⟨(u1.heap.size + 1), 6, none⟩ = some (.slice Ab b.daily.length cb) ∧ W.cell? ⟨(u1.heap.size + 1), 7, none⟩ = some (.string (sof b.holder)) ∧ W.cell? ⟨u2.heap.size, 0, none⟩ = some (.bool c.none) ∧ W.cell? ⟨u2.heap.size, 1, none⟩ = some (.int .u64 (c.zones : Int)) ∧ W.cell? ⟨u2.heap.size, 2, none⟩ = some (.int .u64 (c.lines : Int)) ∧ W.cell? ⟨u2.heap.size, 3, none⟩ = some (.int .u64 (c.days : Int)) ∧ W.cell? ⟨u2.heap.size, 4, none⟩ = some (.int .i64 c.lo) ∧ W.cell? ⟨u2.heap.size, 5, none⟩ = some (.int .i64 c.hi) ∧ W.cell? ⟨u2.heap.size, 6, none⟩ = some (.slice Ac c.daily.length cc) ∧ W.cell? ⟨u2.heap.size, 7, none⟩ = some (.string (sof c.holder)) := fun W hb => by
    obtain ⟨x0_0, x0_1, x0_2, x0_3, x0_4, x0_5, x0_6, x0_7⟩ := ARow.cells (Whole.below H7.out hb (Whole.lt H7.out))
    obtain ⟨x1_0, x1_1, x1_2, x1_3, x1_4, x1_5, x1_6, x1_7⟩ := ARow.cells (Whole.below H8.out hb (Whole.lt H8.out))
    obtain ⟨x2_0, x2_1, x2_2, x2_3, x2_4, x2_5, x2_6, x2_7⟩ := ARow.cells (Whole.below H11.out hb (Whole.lt H11.out))
    exact ⟨x0_0, x0_1, x0_2, x0_3, x0_4, x0_5, x0_6, x0_7, x1_0, x1_1, x1_2, x1_3, x1_4, x1_5, x1_6, x1_7, x2_0, x2_1, x2_2, x2_3, x2_4, x2_5, x2_6, x2_7⟩
  refine wp_region_held_drew (S := fun W => W.cell? ⟨u1.heap.size, 0, none⟩ = some (.bool a.none) ∧ W.cell? ⟨u1.heap.size, 1, none⟩ = some (.int .u64 (a.zones : Int)) ∧ W.cell? ⟨u1.heap.size, 2, none⟩ = some (.int .u64 (a.lines : Int)) ∧ W.cell? ⟨u1.heap.size, 3, none⟩ = some (.int .u64 (a.days : Int)) ∧ W.cell? ⟨u1.heap.size, 4, none⟩ = some (.int .i64 a.lo) ∧ W.cell? ⟨u1.heap.size, 5, none⟩ = some (.int .i64 a.hi) ∧ W.cell? ⟨u1.heap.size, 6, none⟩ = some (.slice Aa a.daily.length ca) ∧ W.cell? ⟨u1.heap.size, 7, none⟩ = some (.string (sof a.holder)) ∧ W.cell? ⟨(u1.heap.size + 1), 0, none⟩ = some (.bool b.none) ∧ W.cell? ⟨(u1.heap.size + 1), 1, none⟩ = some (.int .u64 (b.zones : Int)) ∧ W.cell? ⟨(u1.heap.size + 1), 2, none⟩ = some (.int .u64 (b.lines : Int)) ∧ W.cell? ⟨(u1.heap.size + 1), 3, none⟩ = some (.int .u64 (b.days : Int)) ∧ W.cell? ⟨(u1.heap.size + 1), 4, none⟩ = some (.int .i64 b.lo) ∧ W.cell? ⟨(u1.heap.size + 1), 5, none⟩ = some (.int .i64 b.hi) ∧ W.cell? ⟨(u1.heap.size + 1), 6, none⟩ = some (.slice Ab b.daily.length cb) ∧ W.cell? ⟨(u1.heap.size + 1), 7, none⟩ = some (.string (sof b.holder)) ∧ W.cell? ⟨u2.heap.size, 0, none⟩ = some (.bool c.none) ∧ W.cell? ⟨u2.heap.size, 1, none⟩ = some (.int .u64 (c.zones : Int)) ∧ W.cell? ⟨u2.heap.size, 2, none⟩ = some (.int .u64 (c.lines : Int)) ∧ W.cell? ⟨u2.heap.size, 3, none⟩ = some (.int .u64 (c.days : Int)) ∧ W.cell? ⟨u2.heap.size, 4, none⟩ = some (.int .i64 c.lo) ∧ W.cell? ⟨u2.heap.size, 5, none⟩ = some (.int .i64 c.hi) ∧ W.cell? ⟨u2.heap.size, 6, none⟩ = some (.slice Ac c.daily.length cc) ∧ W.cell? ⟨u2.heap.size, 7, none⟩ = some (.string (sof c.holder))) (by kernel_rfl) (hcc _ (Below.drew (Below.refl _ _))) (fun hHeld => ?_)
  apply wpAnyH_take (i := 0) rfl (by kernel_rfl) (by kernel_rfl) (by kernel_rfl)
  case hQ => exact fun _ _ _ h => h
  case hS => exact hHeld
  case hy => (refine Or.inl ⟨by rfl, ?_⟩; intro w hSw; go_split_ands; go_simp; (try with_reducible rfl))
  (try simp only [List.getElem_toArray, List.getElem_cons_zero, Act.put, List.setIfInBounds_toArray, List.set_cons_zero, List.set_cons_succ])
  apply wpAnyH_take (i := 1) rfl (by kernel_rfl) (by kernel_rfl) (by kernel_rfl)
  case hQ => exact fun _ _ _ h => h
  case hS => exact hHeld
  case hy => (refine Or.inl ⟨by rfl, ?_⟩; intro w hSw; go_split_ands; go_simp; (try with_reducible rfl))
  (try simp only [List.getElem_toArray, List.getElem_cons_succ, List.getElem_cons_zero, Act.put, List.setIfInBounds_toArray, List.set_cons_zero, List.set_cons_succ])
  apply wpAnyH_take (i := 3) rfl (by kernel_rfl) (by kernel_rfl) (by kernel_rfl)
  case hQ => exact fun _ _ _ h => h
  case hS => exact hHeld
  case hy => (refine Or.inl ⟨by rfl, ?_⟩; intro w hSw; go_split_ands; go_simp; (try with_reducible rfl))
  (try simp only [List.getElem_toArray, List.getElem_cons_succ, List.getElem_cons_zero, Act.put, List.setIfInBounds_toArray, List.set_cons_zero, List.set_cons_succ])
  apply wpAnyH_take (i := 4) rfl (by kernel_rfl) (by kernel_rfl) (by kernel_rfl)
  case hQ => exact fun _ _ _ h => h
  case hS => exact hHeld
  case hy => (refine Or.inl ⟨by rfl, ?_⟩; intro w hSw; go_split_ands; go_simp; (try with_reducible rfl))
  (try simp only [List.getElem_toArray, List.getElem_cons_succ, List.getElem_cons_zero, Act.put, List.setIfInBounds_toArray, List.set_cons_zero, List.set_cons_succ])
  refine wpAnyH_ready (rs := [2]) (by kernel_rfl) (by simp) ?_
  refine AllReadyH.cons rfl (fun K hK => ?_) AllReadyH.nil
  (try simp only [List.getElem_toArray, List.getElem_cons_succ, List.getElem_cons_zero])
  go_simp
  go_at_call 23
  refine (law_meet (Below.drew (Below.refl _ _)) (Av.below H9.out (Below.drew (Below.refl _ _)) (Nat.le_refl _)) (Av.below H10.out (Below.drew (Below.refl _ _)) (Nat.le_refl _))).mono ?_
  rintro e w10 ⟨⟨z10, m10, rfl, hz10, hm10⟩, b10, r10⟩
  refine hK.out _ _ (hcc _ b10) (fun hHeld => ?_)
  clear hK K
  (try simp only [List.getElem_toArray, List.getElem_cons_succ, List.getElem_cons_zero, Act.put, List.setIfInBounds_toArray, List.set_cons_zero, List.set_cons_succ])
  refine wpAnyH_ready (rs := [5]) (by kernel_rfl) (by simp) ?_
  refine AllReadyH.cons rfl (fun K hK => ?_) AllReadyH.nil
  (try simp only [List.getElem_toArray, List.getElem_cons_succ, List.getElem_cons_zero])
  go_simp
  go_at_call 23
  refine (law_meet b10 (Av.below H10.out b10 (Nat.le_refl _)) (Av.below H9.out b10 (Nat.le_refl _))).mono ?_
  rintro e w11 ⟨⟨z11, m11, rfl, hz11, hm11⟩, b11, r11⟩
  refine hK.out _ _ (hcc _ b11) (fun hHeld => ?_)
  clear hK K
  (try simp only [List.getElem_toArray, List.getElem_cons_succ, List.getElem_cons_zero, Act.put, List.setIfInBounds_toArray, List.set_cons_zero, List.set_cons_succ])
  refine wpAnyH_ready (rs := [6]) (by kernel_rfl) (by simp) ?_
  refine AllReadyH.cons rfl (fun K hK => ?_) AllReadyH.nil
  (try simp only [List.getElem_toArray, List.getElem_cons_succ, List.getElem_cons_zero])
  go_simp
  go_at_call 15
  refine (law_same b11 (Av.below hz10 r11 (Nat.le_refl _)) hz11 (decide_eq_true (lat_comm hm10 hm11))).mono ?_
  rintro e w12 ⟨rfl, b12, r12⟩
  refine hK.out _ _ (hcc _ b12) (fun hHeld => ?_)
  clear hK K
  (try simp only [List.getElem_toArray, List.getElem_cons_succ, List.getElem_cons_zero, Act.put, List.setIfInBounds_toArray, List.set_cons_zero, List.set_cons_succ])
  apply wpAnyH_take (i := 7) rfl (by kernel_rfl) (by kernel_rfl) (by kernel_rfl)
  case hQ => exact fun _ _ _ h => h
  case hS => exact hHeld
  case hy => (refine Or.inl ⟨by rfl, ?_⟩; intro w hSw; go_split_ands; go_simp; (try with_reducible rfl))
  (try simp only [List.getElem_toArray, List.getElem_cons_succ, List.getElem_cons_zero, Act.put, List.setIfInBounds_toArray, List.set_cons_zero, List.set_cons_succ])
  apply wpAnyH_take (i := 8) rfl (by kernel_rfl) (by kernel_rfl) (by kernel_rfl)
  case hQ => exact fun _ _ _ h => h
  case hS => exact hHeld
  case hy => (refine Or.inl ⟨by rfl, ?_⟩; intro w hSw; go_split_ands; go_simp; (try with_reducible rfl))
  (try simp only [List.getElem_toArray, List.getElem_cons_succ, List.getElem_cons_zero, Act.put, List.setIfInBounds_toArray, List.set_cons_zero, List.set_cons_succ])
  apply wpAnyH_take (i := 9) rfl (by kernel_rfl) (by kernel_rfl) (by kernel_rfl)
  case hQ => exact fun _ _ _ h => h
  case hS => exact hHeld
  case hy => (refine Or.inl ⟨by rfl, ?_⟩; intro w hSw; go_split_ands; go_simp; (try with_reducible rfl))
  (try simp only [List.getElem_toArray, List.getElem_cons_succ, List.getElem_cons_zero, Act.put, List.setIfInBounds_toArray, List.set_cons_zero, List.set_cons_succ])
  apply wpAnyH_take (i := 11) rfl (by kernel_rfl) (by kernel_rfl) (by kernel_rfl)
  case hQ => exact fun _ _ _ h => h
  case hS => exact hHeld
  case hy => (refine Or.inl ⟨by rfl, ?_⟩; intro w hSw; go_split_ands; go_simp; (try with_reducible rfl))
  (try simp only [List.getElem_toArray, List.getElem_cons_succ, List.getElem_cons_zero, Act.put, List.setIfInBounds_toArray, List.set_cons_zero, List.set_cons_succ])
  apply wpAnyH_take (i := 13) rfl (by kernel_rfl) (by kernel_rfl) (by kernel_rfl)
  case hQ => exact fun _ _ _ h => h
  case hS => exact hHeld
  case hy => (refine Or.inl ⟨by rfl, ?_⟩; intro w hSw; go_split_ands; go_simp; (try with_reducible rfl))
  (try simp only [List.getElem_toArray, List.getElem_cons_succ, List.getElem_cons_zero, Act.put, List.setIfInBounds_toArray, List.set_cons_zero, List.set_cons_succ])
  apply wpAnyH_take (i := 14) rfl (by kernel_rfl) (by kernel_rfl) (by kernel_rfl)
  case hQ => exact fun _ _ _ h => h
  case hS => exact hHeld
  case hy => (refine Or.inl ⟨by rfl, ?_⟩; intro w hSw; go_split_ands; go_simp; (try with_reducible rfl))
  (try simp only [List.getElem_toArray, List.getElem_cons_succ, List.getElem_cons_zero, Act.put, List.setIfInBounds_toArray, List.set_cons_zero, List.set_cons_succ])
  apply wpAnyH_take (i := 15) rfl (by kernel_rfl) (by kernel_rfl) (by kernel_rfl)
  case hQ => exact fun _ _ _ h => h
  case hS => exact hHeld
  case hy => (refine Or.inl ⟨by rfl, ?_⟩; intro w hSw; go_split_ands; go_simp; (try with_reducible rfl))
  (try simp only [List.getElem_toArray, List.getElem_cons_succ, List.getElem_cons_zero, Act.put, List.setIfInBounds_toArray, List.set_cons_zero, List.set_cons_succ])
  refine wpAnyH_ready (rs := [10]) (by kernel_rfl) (by simp) ?_
  refine AllReadyH.cons rfl (fun K hK => ?_) AllReadyH.nil
  (try simp only [List.getElem_toArray, List.getElem_cons_succ, List.getElem_cons_zero])
  go_simp
  go_at_call 23
  refine (law_meet b12 (Av.below H9.out b12 (Nat.le_refl _)) (Av.below H10.out b12 (Nat.le_refl _))).mono ?_
  rintro e w13 ⟨⟨z13, m13, rfl, hz13, hm13⟩, b13, r13⟩
  refine hK.out _ _ (hcc _ b13) (fun hHeld => ?_)
  clear hK K
  (try simp only [List.getElem_toArray, List.getElem_cons_succ, List.getElem_cons_zero, Act.put, List.setIfInBounds_toArray, List.set_cons_zero, List.set_cons_succ])
  refine wpAnyH_ready (rs := [12]) (by kernel_rfl) (by simp) ?_
  refine AllReadyH.cons rfl (fun K hK => ?_) AllReadyH.nil
  (try simp only [List.getElem_toArray, List.getElem_cons_succ, List.getElem_cons_zero])
  go_simp
  go_at_call 23
  refine (law_meet b13 hz13 (Av.below H13.out b13 (Nat.le_refl _))).mono ?_
  rintro e w14 ⟨⟨z14, m14, rfl, hz14, hm14⟩, b14, r14⟩
  refine hK.out _ _ (hcc _ b14) (fun hHeld => ?_)
  clear hK K
  (try simp only [List.getElem_toArray, List.getElem_cons_succ, List.getElem_cons_zero, Act.put, List.setIfInBounds_toArray, List.set_cons_zero, List.set_cons_succ])
  refine wpAnyH_ready (rs := [16]) (by kernel_rfl) (by simp) ?_
  refine AllReadyH.cons rfl (fun K hK => ?_) AllReadyH.nil
  (try simp only [List.getElem_toArray, List.getElem_cons_succ, List.getElem_cons_zero])
  go_simp
  go_at_call 23
  refine (law_meet b14 (Av.below H10.out b14 (Nat.le_refl _)) (Av.below H13.out b14 (Nat.le_refl _))).mono ?_
  rintro e w15 ⟨⟨z15, m15, rfl, hz15, hm15⟩, b15, r15⟩
  refine hK.out _ _ (hcc _ b15) (fun hHeld => ?_)
  clear hK K
  (try simp only [List.getElem_toArray, List.getElem_cons_succ, List.getElem_cons_zero, Act.put, List.setIfInBounds_toArray, List.set_cons_zero, List.set_cons_succ])
  refine wpAnyH_ready (rs := [17]) (by kernel_rfl) (by simp) ?_
  refine AllReadyH.cons rfl (fun K hK => ?_) AllReadyH.nil
  (try simp only [List.getElem_toArray, List.getElem_cons_succ, List.getElem_cons_zero])
  go_simp
  go_at_call 23
  refine (law_meet b15 (Av.below H9.out b15 (Nat.le_refl _)) hz15).mono ?_
  rintro e w16 ⟨⟨z16, m16, rfl, hz16, hm16⟩, b16, r16⟩
  refine hK.out _ _ (hcc _ b16) (fun hHeld => ?_)
  clear hK K
  (try simp only [List.getElem_toArray, List.getElem_cons_succ, List.getElem_cons_zero, Act.put, List.setIfInBounds_toArray, List.set_cons_zero, List.set_cons_succ])
  refine wpAnyH_ready (rs := [18]) (by kernel_rfl) (by simp) ?_
  refine AllReadyH.cons rfl (fun K hK => ?_) AllReadyH.nil
  (try simp only [List.getElem_toArray, List.getElem_cons_succ, List.getElem_cons_zero])
  go_simp
  go_at_call 15
  refine (law_same b16 (Av.below (Av.below hz14 r15 (Nat.le_refl _)) r16 (Nat.le_refl _)) hz16 (decide_eq_true (lat_assoc HKa.out HKb.out HKc.out hm13 hm14 hm15 hm16))).mono ?_
  rintro e w17 ⟨rfl, b17, r17⟩
  refine hK.out _ _ (hcc _ b17) (fun hHeld => ?_)
  clear hK K
  (try simp only [List.getElem_toArray, List.getElem_cons_succ, List.getElem_cons_zero, Act.put, List.setIfInBounds_toArray, List.set_cons_zero, List.set_cons_succ])
  apply wpAnyH_take (i := 19) rfl (by kernel_rfl) (by kernel_rfl) (by kernel_rfl)
  case hQ => exact fun _ _ _ h => h
  case hS => exact hHeld
  case hy => (refine Or.inl ⟨by rfl, ?_⟩; intro w hSw; go_split_ands; go_simp; (try with_reducible rfl))
  (try simp only [List.getElem_toArray, List.getElem_cons_succ, List.getElem_cons_zero, Act.put, List.setIfInBounds_toArray, List.set_cons_zero, List.set_cons_succ])
  apply wpAnyH_take (i := 20) rfl (by kernel_rfl) (by kernel_rfl) (by kernel_rfl)
  case hQ => exact fun _ _ _ h => h
  case hS => exact hHeld
  case hy => (refine Or.inl ⟨by rfl, ?_⟩; intro w hSw; go_split_ands; go_simp; (try with_reducible rfl))
  (try simp only [List.getElem_toArray, List.getElem_cons_succ, List.getElem_cons_zero, Act.put, List.setIfInBounds_toArray, List.set_cons_zero, List.set_cons_succ])
  apply wpAnyH_take (i := 21) rfl (by kernel_rfl) (by kernel_rfl) (by kernel_rfl)
  case hQ => exact fun _ _ _ h => h
  case hS => exact hHeld
  case hy => (refine Or.inl ⟨by rfl, ?_⟩; intro w hSw; go_split_ands; go_simp; (try with_reducible rfl))
  (try simp only [List.getElem_toArray, List.getElem_cons_succ, List.getElem_cons_zero, Act.put, List.setIfInBounds_toArray, List.set_cons_zero, List.set_cons_succ])
  apply wpAnyH_take (i := 22) rfl (by kernel_rfl) (by kernel_rfl) (by kernel_rfl)
  case hQ => exact fun _ _ _ h => h
  case hS => exact hHeld
  case hy => (refine Or.inl ⟨by rfl, ?_⟩; intro w hSw; go_split_ands; go_simp; (try with_reducible rfl))
  (try simp only [List.getElem_toArray, List.getElem_cons_succ, List.getElem_cons_zero, Act.put, List.setIfInBounds_toArray, List.set_cons_zero, List.set_cons_succ])
  apply wpAnyH_take (i := 24) rfl (by kernel_rfl) (by kernel_rfl) (by kernel_rfl)
  case hQ => exact fun _ _ _ h => h
  case hS => exact hHeld
  case hy => (refine Or.inl ⟨by rfl, ?_⟩; intro w hSw; go_split_ands; go_simp; (try with_reducible rfl))
  (try simp only [List.getElem_toArray, List.getElem_cons_succ, List.getElem_cons_zero, Act.put, List.setIfInBounds_toArray, List.set_cons_zero, List.set_cons_succ])
  refine wpAnyH_ready (rs := [23]) (by kernel_rfl) (by simp) ?_
  refine AllReadyH.cons rfl (fun K hK => ?_) AllReadyH.nil
  (try simp only [List.getElem_toArray, List.getElem_cons_succ, List.getElem_cons_zero])
  go_simp
  go_at_call 23
  refine (law_meet b17 (Av.below H9.out b17 (Nat.le_refl _)) (Av.below H9.out b17 (Nat.le_refl _))).mono ?_
  rintro e w18 ⟨⟨z18, m18, rfl, hz18, hm18⟩, b18, r18⟩
  refine hK.out _ _ (hcc _ b18) (fun hHeld => ?_)
  clear hK K
  (try simp only [List.getElem_toArray, List.getElem_cons_succ, List.getElem_cons_zero, Act.put, List.setIfInBounds_toArray, List.set_cons_zero, List.set_cons_succ])
  refine wpAnyH_ready (rs := [25]) (by kernel_rfl) (by simp) ?_
  refine AllReadyH.cons rfl (fun K hK => ?_) AllReadyH.nil
  (try simp only [List.getElem_toArray, List.getElem_cons_succ, List.getElem_cons_zero])
  go_simp
  go_at_call 15
  refine (law_same b18 hz18 (Av.below H9.out b18 (Nat.le_refl _)) (decide_eq_true (lat_self HKa.out hm18))).mono ?_
  rintro e w19 ⟨rfl, b19, r19⟩
  refine hK.out _ _ (hcc _ b19) (fun hHeld => ?_)
  clear hK K
  (try simp only [List.getElem_toArray, List.getElem_cons_succ, List.getElem_cons_zero, Act.put, List.setIfInBounds_toArray, List.set_cons_zero, List.set_cons_succ])
  apply wpAnyH_take (i := 26) rfl (by kernel_rfl) (by kernel_rfl) (by kernel_rfl)
  case hQ => exact fun _ _ _ h => h
  case hS => exact hHeld
  case hy => (refine Or.inl ⟨by rfl, ?_⟩; intro w hSw; go_split_ands; go_simp; (try with_reducible rfl))
  (try simp only [List.getElem_toArray, List.getElem_cons_succ, List.getElem_cons_zero, Act.put, List.setIfInBounds_toArray, List.set_cons_zero, List.set_cons_succ])
  apply wpAnyH_take (i := 27) rfl (by kernel_rfl) (by kernel_rfl) (by kernel_rfl)
  case hQ => exact fun _ _ _ h => h
  case hS => exact hHeld
  case hy => (refine Or.inl ⟨by rfl, ?_⟩; intro w hSw; go_split_ands; go_simp; (try with_reducible rfl))
  (try simp only [List.getElem_toArray, List.getElem_cons_succ, List.getElem_cons_zero, Act.put, List.setIfInBounds_toArray, List.set_cons_zero, List.set_cons_succ])
  apply wpAnyH_take (i := 28) rfl (by kernel_rfl) (by kernel_rfl) (by kernel_rfl)
  case hQ => exact fun _ _ _ h => h
  case hS => exact hHeld
  case hy => (refine Or.inl ⟨by rfl, ?_⟩; intro w hSw; go_split_ands; go_simp; (try with_reducible rfl))
  (try simp only [List.getElem_toArray, List.getElem_cons_succ, List.getElem_cons_zero, Act.put, List.setIfInBounds_toArray, List.set_cons_zero, List.set_cons_succ])
  apply wpAnyH_take (i := 31) rfl (by kernel_rfl) (by kernel_rfl) (by kernel_rfl)
  case hQ => exact fun _ _ _ h => h
  case hS => exact hHeld
  case hy => (refine Or.inl ⟨by rfl, ?_⟩; intro w hSw; go_split_ands; go_simp; (try with_reducible rfl))
  (try simp only [List.getElem_toArray, List.getElem_cons_succ, List.getElem_cons_zero, Act.put, List.setIfInBounds_toArray, List.set_cons_zero, List.set_cons_succ])
  refine wpAnyH_ready (rs := [29]) (by kernel_rfl) (by simp) ?_
  refine AllReadyH.cons rfl (fun K hK => ?_) AllReadyH.nil
  (try simp only [List.getElem_toArray, List.getElem_cons_succ, List.getElem_cons_zero])
  go_simp
  go_at_call 13
  refine (law_full b19).mono ?_
  rintro e w20 ⟨⟨z20, rfl, hz20⟩, b20, r20⟩
  refine hK.out _ _ (hcc _ b20) (fun hHeld => ?_)
  clear hK K
  (try simp only [List.getElem_toArray, List.getElem_cons_succ, List.getElem_cons_zero, Act.put, List.setIfInBounds_toArray, List.set_cons_zero, List.set_cons_succ])
  refine wpAnyH_ready (rs := [30]) (by kernel_rfl) (by simp) ?_
  refine AllReadyH.cons rfl (fun K hK => ?_) AllReadyH.nil
  (try simp only [List.getElem_toArray, List.getElem_cons_succ, List.getElem_cons_zero])
  go_simp
  go_at_call 23
  refine (law_meet b20 (Av.below H9.out b20 (Nat.le_refl _)) hz20).mono ?_
  rintro e w21 ⟨⟨z21, m21, rfl, hz21, hm21⟩, b21, r21⟩
  refine hK.out _ _ (hcc _ b21) (fun hHeld => ?_)
  clear hK K
  (try simp only [List.getElem_toArray, List.getElem_cons_succ, List.getElem_cons_zero, Act.put, List.setIfInBounds_toArray, List.set_cons_zero, List.set_cons_succ])
  refine wpAnyH_ready (rs := [32]) (by kernel_rfl) (by simp) ?_
  refine AllReadyH.cons rfl (fun K hK => ?_) AllReadyH.nil
  (try simp only [List.getElem_toArray, List.getElem_cons_succ, List.getElem_cons_zero])
  go_simp
  go_at_call 15
  refine (law_same b21 hz21 (Av.below H9.out b21 (Nat.le_refl _)) (decide_eq_true (lat_full HKa.out hm21))).mono ?_
  rintro e w22 ⟨rfl, b22, r22⟩
  refine hK.out _ _ (hcc _ b22) (fun hHeld => ?_)
  clear hK K
  (try simp only [List.getElem_toArray, List.getElem_cons_succ, List.getElem_cons_zero, Act.put, List.setIfInBounds_toArray, List.set_cons_zero, List.set_cons_succ])
  apply wpAnyH_take (i := 33) rfl (by kernel_rfl) (by kernel_rfl) (by kernel_rfl)
  case hQ => exact fun _ _ _ h => h
  case hS => exact hHeld
  case hy => (refine Or.inl ⟨by rfl, ?_⟩; intro w hSw; go_split_ands; go_simp; (try with_reducible rfl))
  (try simp only [List.getElem_toArray, List.getElem_cons_succ, List.getElem_cons_zero, Act.put, List.setIfInBounds_toArray, List.set_cons_zero, List.set_cons_succ])
  apply wpAnyH_take (i := 34) rfl (by kernel_rfl) (by kernel_rfl) (by kernel_rfl)
  case hQ => exact fun _ _ _ h => h
  case hS => exact hHeld
  case hy => (refine Or.inl ⟨by rfl, ?_⟩; intro w hSw; go_split_ands; go_simp; (try with_reducible rfl))
  (try simp only [List.getElem_toArray, List.getElem_cons_succ, List.getElem_cons_zero, Act.put, List.setIfInBounds_toArray, List.set_cons_zero, List.set_cons_succ])
  refine wpAnyH_ready (rs := [35]) (by kernel_rfl) (by simp) ?_
  refine AllReadyH.cons rfl (fun K hK => ?_) AllReadyH.nil
  (try simp only [List.getElem_toArray, List.getElem_cons_succ, List.getElem_cons_zero])
  go_simp
  go_at_call 8
  refine (law_awake b22).mono ?_
  rintro e w23 ⟨rfl, b23, -⟩
  refine hK.out _ _ (hcc _ b23) (fun hHeld => ?_)
  clear hK K
  (try simp only [List.getElem_toArray, List.getElem_cons_succ, List.getElem_cons_zero, Act.put, List.setIfInBounds_toArray, List.set_cons_zero, List.set_cons_succ])
  apply wpAnyH_take (i := 36) rfl (by kernel_rfl) (by kernel_rfl) (by kernel_rfl)
  case hQ => exact fun _ _ _ h => h
  case hS => exact hHeld
  case hy => (refine Or.inl ⟨by rfl, ?_⟩; intro w hSw; go_split_ands; go_simp; (try with_reducible rfl))
  (try simp only [List.getElem_toArray, List.getElem_cons_succ, List.getElem_cons_zero, Act.put, List.setIfInBounds_toArray, List.set_cons_zero, List.set_cons_succ])
  apply wpAnyH_take (i := 37) rfl (by kernel_rfl) (by kernel_rfl) (by kernel_rfl)
  case hQ => exact fun _ _ _ h => h
  case hS => exact hHeld
  case hy => (refine Or.inl ⟨by rfl, ?_⟩; intro w hSw; go_split_ands; go_simp; (try with_reducible rfl))
  (try simp only [List.getElem_toArray, List.getElem_cons_succ, List.getElem_cons_zero, Act.put, List.setIfInBounds_toArray, List.set_cons_zero, List.set_cons_succ])
  refine wpAnyH_done (by kernel_rfl) ?_ _
  have HG := Lib.hid (Below.trans H6.out (Below.mono b23 (Below.size H6.out)))
  go_wp2
  go_ret
  exact ⟨rfl, HG.out⟩
end Go.Proofs.Ytedjbjplnjnnlaa
