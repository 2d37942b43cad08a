/-
  The law PredicateCode.
-/
import Derived.Test.YtpodgmmgphibfaaDoorPk32
import Derived.Test.YtpodgmmgphibfaaDoorPk38
import Derived.Test.YtpodgmmgphibfaaDoorPk39
namespace Go.Proofs.YtpodgmmgphibfaaDoor
open Go Go.RowKit Sh Leaf

theorem lists_of_cells {w : World} (g c : Nat) (us : List Value) (ll : List (List B8)) (hl : ll.length ≤ c) (hc : c ≤ 1000000) (he : us.length = ll.length) (hcell : ∀ j u, us[j]? = some u → w.cell? ⟨g, j, none⟩ = some u)
    (hb : ∀ (j : Nat) (u : Value) (x : List B8), us[j]? = some u → ll[j]? = some x → Bytes w (fun _ => True) u x) : Lists w (.slice (some ⟨g, 0, none⟩) ll.length c) ll :=
  ⟨_, c, us, rfl, hl, by unfold maxLen; omega, fun h => (by cases h), ⟨he, fun j u x h1 h2 => Bytes.mono (hb j u x h1 h2) fun g hg _ => .inl hg⟩, fun _ => ⟨g, 0, rfl, fun j u hj => by rw [Nat.zero_add]; exact hcell j u hj⟩⟩
theorem run_neq_prd (k m lo hi nu : Int) (nm : List B8) (w : World) :
    (binOp .neq 24 (.agg #[.int .i64 k, .int .u64 m, .int .i64 lo, .int .i64 hi, .string (sof nm), .int .i64 nu]) (.agg #[.int .i64 k, .int .u64 m, .int .i64 lo, .int .i64 hi, .string (sof nm), .int .i64 nu])).run Tryd.prog w = .ok (.bool false) w := by
  simp [go_sem]
set_option linter.unusedVariables false in
set_option maxRecDepth 100000 in
set_option maxHeartbeats 4000000 in
theorem code_law (p : Prd) (hm : p.mask < 18446744073709551616) (hn : p.name.length ≤ 9223372036854775807) (A1 : Option Addr) (l1 : List B8) (c1 : Nat) (Q : Nat → Prop) (A : Option Addr) (l : List Int) (c : Nat) (at_ : Int) (hat : -9223372036854775808 ≤ at_ ∧ at_ ≤ 9223372036854775807) (y : B8) (cut : Int) (hcut : -9223372036854775808 ≤ cut ∧ cut ≤ 9223372036854775807) (w : World)
    (hb : Bytes w Q (.slice A1 l1.length c1) l1) (hI : Ints w (fun b => b < w.heap.size) A c l) (hS : Std w) :
    Calls Tryd.prog 7 #[pv p, .slice A1 l1.length c1, .slice A l.length c, .int .i64 at_, byt y, .int .i64 cut] w fun e w' => e = .returned (.bool true) ∧ Below w.heap.size w w' := by
  obtain ⟨A0, c0, e0, h1, h2, h3, h4⟩ := id hb
  cases e0
  obtain ⟨N, hN, hNc, hN60, q, hq, hqN⟩ := cut_cases hb 100
  unfold maxLen at h2
  clear hb h4 h3
  have hql : q.length ≤ 100 := by omega
  have hmin : min (l1.length : Int) 100 = (N : Int) := by rcases hN with ⟨h, e⟩ | ⟨h, e⟩ | ⟨h, h', e⟩ <;> omega
  have HQN := Lib.hid hqN
  have hlow := Lib.hid (hq.mono (Q' := fun g => g < w.heap.size) fun g hg _ => hg)
  have hbx : ∀ o, Below w.heap.size w (w.alloc o) := fun o => (Below.refl w.heap.size w).alloc (Nat.le_refl _) o
  clear hN hq hqN
  have hpe := fun W => pencode p hm hn W
  have hre := fun W => rencode p hm hn W
  have hedl : (ed p).1.length ≤ 30 := by
    unfold ed
    split
    · exact en_len (by assumption)
    · simp
  generalize ed p = E at hpe hre hedl
  obtain ⟨EL, EE⟩ := E
  obtain ⟨pk, pm, pl, ph, pn, pu⟩ := p
  unfold pv at hpe hre ⊢
  simp only at hpe hre hedl ⊢
  have HP0 : Hid (PRow (w.alloc (.cells (prow pk pm pl ph pn pu) 24)) w.heap.size pk pm pl ph pn pu) := Lib.hid (Whole.here w _ _)
  clear hm hn
  go_enter Tryd.func7, Tryd.ntmps7
  go_wp2_with (first | (with_reducible refine wpList_load_prd rfl _ rfl (g := w.heap.size) rfl HP0.out ?_))
  refine (hpe _).mono ?_
  rintro e w1 ⟨v1, rfl, hv1, hb1⟩
  have HP1 := Lib.hid (HP0.out.below hb1 (by simp))
  have HB1 := Lib.hid ((hbx (.cells (prow pk pm pl ph pn pu) 24)).trans (hb1.mono (by simp)))
  clear hb1 HP0 hpe hbx
  go_wp2_with (first | (with_reducible refine wpList_load_prd rfl _ rfl (g := w.heap.size) rfl HP1.out ?_))
  refine (hre _).mono ?_
  rintro e w2 ⟨v2, rfl, ho2, hb2⟩
  have hv1' := hv1.below hb2 (Nat.le_refl _)
  have HB2 := Lib.hid (HB1.out.trans (hb2.mono HB1.out.size))
  clear hv1 hb2 HB1 HP1 hre
  go_wp2_with fail
  refine (same_ _ _ EL EL _ _ _ hv1' (Bytes.of_own ho2) (by omega) (by omega)).mono ?_
  rintro e w3 ⟨rfl, hb3⟩
  rw [show decide (EL = EL) = true by simp]
  have hB3 := HB2.out.trans (hb3.mono HB2.out.size)
  have hdn := dnew A l.length c l w3 rfl ((hI.below hB3).mono hB3.size)
  have HB3 := Lib.hid hB3
  clear hv1' ho2 hb3 hB3 HB2 hI
  go_wp2_with fail
  refine hdn.mono ?_
  rintro e w4 ⟨rfl, hd4, hb4⟩
  go_wp2_with fail
  refine (dpred _ _ hd4).mono ?_
  rintro e w5 ⟨x, hx, hxm, rfl, ht5⟩
  have hb35 := hb4.trans (ht5.2.1.mono (Nat.le_refl _))
  have HB5 := Lib.hid (HB3.out.trans (hb35.mono HB3.out.size))
  have hre := fun W => rencode x hxm (by have := pok_nm hx; omega) W
  rw [show ed x = (en x, 0) from if_pos hx] at hre
  have hel := en_len hx
  have hep := en_pos x
  clear hdn hd4 ht5 hx hb4 hb35 HB3
  obtain ⟨X, hX⟩ : ∃ X, X = en x := ⟨_, rfl⟩
  simp only [← hX] at hre hel hep
  clear hX
  go_wp2_with fail
  refine (hre _).mono ?_
  rintro e w6 ⟨v6, rfl, ho6, hb6⟩
  have HB6 := Lib.hid (HB5.out.trans (hb6.mono HB5.out.size))
  have hx6 := (Bytes.of_own ho6).mono (Q' := fun g => g < w6.heap.size) fun g hg _ => hg
  obtain ⟨A6, c6, rfl, hx61, hx62, -⟩ := id hx6
  unfold maxLen at hx62
  clear ho6 hb6 HB5 hre
  go_wp2_with (at_builtin; go_must (refine wpList_append_bytes rfl _ _ rfl w6.heap.size (.slice (some ⟨w6.heap.size, 0, none⟩) 0 0) [] rfl (own_lit w6 w6.heap.size [] (Nat.le_refl _) (by simp)) _ _ X rfl (hx6.alloc _) (by simp; omega) (by simp) ?_; intro v7 w7 ho7 hb7; rw [List.nil_append] at ho7; obtain ⟨A7, c7, rfl, -⟩ := id (Bytes.of_own ho7)))
  have hb67 := ((Below.refl w6.heap.size w6).alloc (Nat.le_refl _) (.cells #[] 5)).trans hb7
  have hx7 := hx6.below hb67 (Nat.le_refl _)
  have HB7 := Lib.hid (HB6.out.trans (hb67.mono HB6.out.size))
  have hw67 := hb67.size
  clear hx6 hb7 hb67
  refine (within_ at_ X.length (by omega) (by omega) hat _).mono ?_
  rintro e w8 ⟨⟨i, hi, rfl⟩, rfl⟩
  have hi' : i < X.length := by omega
  obtain ⟨g, cap, e0, hg, ⟨u, hcell⟩, hfr, hc1, hc2, hst⟩ := own_store ho7 i hi' y
  injection e0 with e1 e2 e3
  subst e1 e3
  unfold maxLen at hc2
  have HY := Lib.hid ((Bytes.of_own hst).mono (Q' := fun _ => True) fun _ _ _ => trivial)
  have hYl : (X.set i y).length = X.length := by simp
  have HX := Lib.hid (hx7.keep (w' := w8.setCell ⟨g, i, none⟩ (byt y)) (fun b _ hq => heap_setCell_other w8 ⟨g, i, none⟩ b (byt y) (by show b ≠ g; omega)) |>.mono (Q' := fun _ => True) fun _ _ _ => trivial)
  have HB8 := Lib.hid (HB7.out.setCell (p := ⟨g, i, none⟩) (by show w.heap.size ≤ g; have := HB6.out.size; omega) (byt y))
  have HPX := Lib.hid ((hlow.out.below HB7.out (Nat.le_refl _)).keep (w' := w8.setCell ⟨g, i, none⟩ (byt y)) (fun b _ hq => heap_setCell_other w8 ⟨g, i, none⟩ b (byt y) (by show b ≠ g; have := HB6.out.size; omega)) |>.mono (Q' := fun _ => True) fun _ _ _ => trivial)
  obtain ⟨Y, hY⟩ : ∃ Y, Y = X.set i y := ⟨_, rfl⟩
  rw [← hY] at HY hYl
  have hsz8 : (w8.setCell ⟨g, i, none⟩ (byt y)).heap.size = w8.heap.size := by simp
  clear hst hY ho7 hx7 HB7 HB6 hw67 hlow
  go_wp2_with fail
  refine (within_ cut X.length (by omega) (by omega) hcut _).mono ?_
  rintro e w9 ⟨⟨j, hj, rfl⟩, rfl⟩
  have hj1 : (j : Int) ≤ (c6 : Int) := by omega
  have hj0 : (0 : Int) ≤ (j : Int) := by omega
  have hj2 : j ≤ X.length := by omega
  have hXj := HX.out.take j hj2
  have hXjl : (X.take j).length = j := by simp; omega
  obtain ⟨LL, hLLe⟩ : ∃ LL : List (List B8), LL = [q, X, Y, X.take j] := ⟨_, rfl⟩
  have HLL : Hid (LL.length = 4 ∧ ∀ z ∈ LL, z.length ≤ 100) := Lib.hid ⟨by rw [hLLe]; rfl, by
    rw [hLLe]
    intro z hz
    simp only [List.mem_cons, List.mem_nil_iff, or_false] at hz
    rcases hz with rfl | rfl | rfl | rfl <;> omega⟩
  have HL : Hid (Lists ((w8.setCell ⟨g, i, none⟩ (byt y)).alloc (.cells #[.slice A1 N c1, .slice A6 X.length c6, .slice (some ⟨g, 0, none⟩) X.length c7, .slice A6 j c6] 37)) (.slice (some ⟨w8.heap.size, 0, none⟩) 4 4) LL) := Lib.hid (by
    rw [hLLe]
    refine lists_of_cells _ 4 [.slice A1 N c1, .slice A6 X.length c6, .slice (some ⟨g, 0, none⟩) X.length c7, .slice A6 j c6] [q, X, Y, X.take j] (Nat.le_refl 4) (by omega) rfl (cells_new _ _ _ _ hsz8.symm) ?_
    intro r u x h1 h2
    match r, h1, h2 with
    | 0, h1, h2 => simp only [List.getElem?_cons_zero, Option.some.injEq] at h1 h2; subst h1 h2; exact HPX.out.alloc _
    | 1, h1, h2 => simp only [List.getElem?_cons_zero, List.getElem?_cons_succ, Option.some.injEq] at h1 h2; subst h1 h2; exact HX.out.alloc _
    | 2, h1, h2 => simp only [List.getElem?_cons_zero, List.getElem?_cons_succ, Option.some.injEq] at h1 h2; subst h1 h2; exact HY.out.alloc _
    | 3, h1, h2 => simp only [List.getElem?_cons_zero, List.getElem?_cons_succ, Option.some.injEq] at h1 h2; subst h1 h2; exact hXj.alloc _
    | r + 4, h1, h2 => simp at h1)
  have HB9 := Lib.hid (HB8.out.alloc HB8.out.size (.cells #[.slice A1 N c1, .slice A6 X.length c6, .slice (some ⟨g, 0, none⟩) X.length c7, .slice A6 j c6] 37))
  clear hXj hXjl hLLe
  go_wp2_with fail
  go_loopw [21] (fun vi wr => ∃ k : Nat, k ≤ 4 ∧ vi = .int .i64 k ∧ Lists wr (.slice (some ⟨w8.heap.size, 0, none⟩) 4 4) LL ∧ Below w.heap.size w wr) (fun vi _ => 4 - (intOf vi).toNat)
  case atStart => exact ⟨0, by omega, rfl, HL.out, HB9.out⟩
  case round =>
    clear HL HB9 HX HPX HY HB8
    obtain ⟨k, hk, rfl, hL, hq⟩ := hrel
    by_cases hk4 : k = 4
    · subst hk4
      clear hL
      go_wp2_with (go_at_call 14; refine (pawake _ (hS.below hq (Nat.le_refl _))).mono ?_; rintro e w9 ⟨rfl, hb9⟩)
      go_ret
      exact ⟨rfl, hq.trans (hb9.mono hq.size)⟩
    · have hk4' : (k : Int) < 4 := by omega
      obtain ⟨-, -, -, hget⟩ := hL.get
      obtain ⟨g0, o0, A9, c9, e0, hc, hx, hg9⟩ := hget k (by rw [HLL.out.1]; omega)
      injection e0 with e0
      injection e0 with e1 e2 _
      subst e1 e2
      rw [Nat.zero_add] at hc
      have hzl : (LL[k]'(by rw [HLL.out.1]; omega)).length ≤ 100 := HLL.out.2 _ (List.getElem_mem _)
      have hlen4 : LL.length = 4 := HLL.out.1
      generalize LL[k]'(by rw [hlen4]; omega) = z at *
      clear hlen4 hget hk4
      have hdec := fun W hW => pdecode (.slice A9 z.length c9) z (fun _ => True) W hW
      have hrdc := fun W hW => rdecode (.slice A9 z.length c9) z (fun _ => True) W hW
      generalize dn z = D at hdec hrdc
      obtain ⟨⟨dk, dm, dl, dh, dnm, du⟩, DN, DE⟩ := D
      unfold pv at hdec hrdc
      simp only at hdec hrdc
      go_wp2_with fail
      refine (hdec _ hx).mono ?_
      rintro e w9 ⟨rfl, hb9⟩
      have hb9' := hb9.alloc hb9.size (.cells (prow dk dm dl dh dnm du) 24)
      have hP9 : PRow (w9.alloc (.cells (prow dk dm dl dh dnm du) 24)) w9.heap.size dk dm dl dh dnm du := Whole.here w9 _ _
      have hxx := hx.below hb9' (Nat.le_refl _)
      have hc9 := (hb9'.cell (p := ⟨w8.heap.size, k, none⟩) hg9).trans hc
      have HL9 := Lib.hid (hL.below hb9' (Nat.le_refl _))
      have HQ9 := Lib.hid (hq.trans (hb9'.mono hq.size))
      have HP9 := Lib.hid hP9
      have hg99 := Nat.lt_of_lt_of_le hg9 hb9'.size
      clear hb9 hb9' hP9 hx hc hL hq hg9 hdec
      go_wp2_with fail
      refine (hrdc _ hxx).mono ?_
      rintro e w10 ⟨rfl, hb10⟩
      have hb10' := hb10.alloc hb10.size (.cells (prow dk dm dl dh dnm du) 24)
      have hP10 : PRow (w10.alloc (.cells (prow dk dm dl dh dnm du) 24)) w10.heap.size dk dm dl dh dnm du := Whole.here w10 _ _
      have hP9' : PRow (w10.alloc (.cells (prow dk dm dl dh dnm du) 24)) w9.heap.size dk dm dl dh dnm du := HP9.out.below hb10' (by simp)
      have c1 := PRow.cells hP9'
      have c2 := PRow.cells hP10
      have HL10 := Lib.hid (HL9.out.below hb10' (Nat.le_refl _))
      have HQ10 := Lib.hid (HQ9.out.trans (hb10'.mono HQ9.out.size))
      have hne := fun W => run_neq_prd dk (dm : Int) dl dh du dnm W
      clear hb10 hb10' hP9' hP10 HL9 HQ9 HP9 hxx hc9 hrdc
      go_wp2
      go_roundw
      case rel => exact ⟨k + 1, by omega, by go_num, HL10.out, HQ10.out⟩
      case measure => simp [intOf]; omega
end Go.Proofs.YtpodgmmgphibfaaDoor
