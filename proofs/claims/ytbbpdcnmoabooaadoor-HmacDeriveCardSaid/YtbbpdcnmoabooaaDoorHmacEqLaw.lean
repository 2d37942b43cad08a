/-
  The law of HmacEqual: true, for all arguments.
-/
import Derived.Test.YtbbpdcnmoabooaaDoorHmacTag
namespace Go.Proofs.YtbbpdcnmoabooaaDoor
open Go Go.RowKit Sh Leaf

/-- A number from 0 to n - 1. -/
theorem within (x n : Int) (h0 : 0 < n) (h1 : n ≤ 1000000) (_ : -9223372036854775808 ≤ x ∧ x ≤ 9223372036854775807) (w : World) :
    Calls Tryd.prog 24 #[.int .i64 x, .int .i64 n] w fun e w' => (∃ i : Nat, (i : Int) < n ∧ e = .returned (.int .i64 i)) ∧ w' = w := by
  have hlo : -n < x.tmod n := by
    have := Int.tmod_lt_of_pos (-x) h0
    rw [Int.neg_tmod] at this
    omega
  have hhi : x.tmod n < n := Int.tmod_lt_of_pos x h0
  obtain ⟨r, hr⟩ : ∃ r, r = x.tmod n := ⟨_, rfl⟩
  rw [← hr] at hlo hhi
  have h2 : (r + n).tmod n = (r + n) % n := Int.tmod_eq_emod_of_nonneg (by omega)
  have h3 := Int.emod_nonneg (r + n) (by omega : n ≠ 0)
  have h4 := Int.emod_lt_of_pos (r + n) h0
  go_enter Tryd.func24, Tryd.ntmps24
  go_wp2
  rw [hr] at h3 h4
  go_ret
  exact ⟨⟨((x.tmod n + n) % n).toNat, by omega, by rw [Int.toNat_of_nonneg h3]; rfl⟩, rfl⟩

/-- A list in the first cells of a row. -/
theorem bytes_row {w : World} {g cap : Nat} {cur : Array Value} {l : List B8} (h : Whole w g 5 cur) (hc : l.length ≤ cap) (hm : cap ≤ maxLen) (ht : ∀ (j : Nat) (x : B8), l[j]? = some x → cur[j]? = some (byt x)) : Bytes w (fun b => b = g) (.slice (some ⟨g, 0, none⟩) l.length cap) l :=
  ⟨some ⟨g, 0, none⟩, cap, rfl, hc, hm, fun h => (by cases h), fun _ => ⟨g, 0, rfl, rfl, fun j x hj => by rw [h.cell, Nat.zero_add]; exact ht j x hj⟩⟩

theorem own_open {w : World} {base : Nat} {v : Value} {l : List B8} (h : w.ownsRow base 5 1 v l.length (l.map byt)) (h0 : 0 < l.length) :
    ∃ g cap cur, v = .slice (some ⟨g, 0, none⟩) l.length cap ∧ base ≤ g ∧ Whole w g 5 cur ∧ l.length ≤ cap ∧ cap ≤ maxLen ∧ l.length ≤ cur.size ∧ ∀ (j : Nat) (x : B8), l[j]? = some x → cur[j]? = some (byt x) := by
  rcases h.2 with ⟨_, hn⟩ | ⟨g, cap, cur, rfl, hg, hh, hc, hm, hs, ht⟩
  · omega
  · refine ⟨g, cap, cur, rfl, hg, hh, hc, hm, by omega, fun j x hj => ?_⟩
    have h1 : (l.map byt)[j]? = some (byt x) := by rw [List.getElem?_map, hj]; rfl
    rw [← ht, List.getElem?_take] at h1
    split at h1
    · simpa using h1
    · cases h1

/-- append(own, src...) under a guard that holds. -/
theorem wpList_append_wanted {w : World} {ops : Array Oper} {rest : List Oper} {o : Oper} {a : Act} {R : Exit → Act → World → Prop} (hw : Region.wanted o (yielded ops a.tmps) = true) (s x : Operand)
    (ho : o.op = .call { callee := .builtin .append, args := #[s, x], argTypes := #[22, 22] })
    (base : Nat) (v : Value) (xs : List B8) (hs : a.eval s = v) (hown : w.ownsRow base 5 1 v xs.length (xs.map byt))
    (Q : Nat → Prop) (v2 : Value) (ys : List B8) (hx : a.eval x = v2) (hr : Bytes w Q v2 ys) (h47 : xs.length + ys.length ≤ 140737488355328) (hbase : base ≤ w.heap.size)
    (h : ∀ v' w', w'.ownsRow base 5 1 v' (xs ++ ys).length ((xs ++ ys).map byt) → Below base w w' → wpList Tryd.prog ops R rest (a.put o.dst v') w') : wpList Tryd.prog ops R (o :: rest) a w := by
  obtain ⟨v', w', hrun, h1, h2⟩ := run_append_bytes o.type base v xs hown Q v2 ys hr h47 hbase
  show if Region.wanted o (yielded ops a.tmps) then _ else _
  rw [if_pos hw]
  left
  unfold Oper.wp
  simp [execOp, ho, resolve, invoke, builtin, hs, hx, hrun, Result.andThen]
  exact h v' w' h1 h2

theorem set_ne (p : List B8) (i : Nat) (hi : i < p.length) (y : B8) : decide (p = p.set i (p[i] ^^^ y)) = decide (y = 0) := by
  rw [decide_eq_decide]
  constructor
  · intro h
    have h1 := congrArg (fun l => l[i]?) h
    simp [hi] at h1
    have h2 : p[i] ^^^ (p[i] ^^^ y) = p[i] ^^^ p[i] := by rw [← h1]
    rw [← BitVec.xor_assoc, BitVec.xor_self, BitVec.zero_xor] at h2
    exact h2
  · rintro rfl
    simp

set_option maxHeartbeats 2000000 in
theorem eq_law (A A' : Option Addr) (l l' : List B8) (c c' : Nat) (Q Q' : Nat → Prop) (at_ : Int) (hat : -9223372036854775808 ≤ at_ ∧ at_ ≤ 9223372036854775807) (y : B8) (w : World) (hb : Bytes w Q (.slice A l.length c) l) (hb' : Bytes w Q' (.slice A' l'.length c') l') (hT : Tables w) :
    Calls Tryd.prog 10 #[.slice A l.length c, .slice A' l'.length c', .int .i64 at_, byt y] w fun e w' => e = .returned (.bool true) ∧ Below w.heap.size w w' := by
  obtain ⟨A0, c0, e0, h1, h2, h3, h4⟩ := id hb
  cases e0
  obtain ⟨A0, c0, e0, h1', h2', h3', h4'⟩ := id hb'
  cases e0
  have hp := hb.cut 300
  have hp' := hb'.cut 300
  have E1 := Lib.hid (min_take l 300)
  have E2 := Lib.hid (min_take l' 300)
  clear hb hb' h4 h4'
  go_enter Tryd.func10, Tryd.ntmps10
  go_wp2
  go_quiet (fail)
  rw [show (300 : Int) = ((300 : Nat) : Int) by rfl, E1.out, E2.out]
  simp only [Int.toNat_natCast]
  have hpl : (l.take 300).length ≤ 300 := by simp; omega
  have hpl' : (l'.take 300).length ≤ 300 := by simp; omega
  clear E1 E2
  generalize l.take 300 = p at hp hpl ⊢
  generalize l'.take 300 = p' at hp' hpl' ⊢
  have hp0 := hp.drewN nq
  have hp0' := hp'.drewN nq
  have hT0 : Tables (w.drewN nq) := hT
  have hb0 : Below w.heap.size w (w.drewN nq) := below_drewN (Below.refl _ _) nq
  generalize w.drewN nq = W0 at hp0 hp0' hT0 hb0 ⊢
  clear hp hp' hT
  have hyb : (bv y = 0 ∧ y = 0) ∨ (¬ bv y = 0 ∧ y ≠ 0) := by
    by_cases h : y = 0
    · left; subst h; exact ⟨by unfold bv; rfl, rfl⟩
    · right
      refine ⟨fun h2 => h ?_, h⟩
      unfold bv at h2
      exact BitVec.eq_of_toNat_eq (by simp; omega)
  by_cases hl0 : p.length = 0
  rotate_left
  focus
    go_wp2_with (at_builtin; refine wpList_append_bytes rfl _ _ rfl W0.heap.size (.slice (some ⟨W0.heap.size, 0, none⟩) 0 0) [] rfl (own_lit W0 W0.heap.size [] (Nat.le_refl _) (by simp)) Q _ p rfl (hp0.alloc _) (by simp; omega) (by simp) ?_; intro v1 w1 hown hb1; rw [List.nil_append] at hown; obtain ⟨g, cap, cur, rfl, hg, hh, hcap, hm, hcs, ht⟩ := own_open hown (by omega))
    refine (within at_ p.length (by omega) (by omega) hat _).mono ?_
    rintro e w2 ⟨⟨i, hi, rfl⟩, rfl⟩
    have hi' : i < p.length := by omega
    have hc := hh.cell i
    rw [ht i p[i] (List.getElem?_eq_getElem hi')] at hc
    have hz := hh.frozen i
    have hx := bits_xor_bv p[i] y
    have hset := hh.set i (byt (p[i] ^^^ y))
    have hCa : Bytes (w2.setCell ⟨g, i, none⟩ (byt (p[i] ^^^ y))) (fun b => b = g) (.slice (some ⟨g, 0, none⟩) p.length cap) (p.set i (p[i] ^^^ y)) := by
      have := bytes_row (l := p.set i (p[i] ^^^ y)) hset (by simp; omega) hm (fun j x hj => by
        rw [Array.getElem?_setIfInBounds]
        rw [List.getElem?_set] at hj
        by_cases e : i = j
        · rw [if_pos e] at hj ⊢
          rw [if_pos (by omega)] at hj ⊢
          rw [Option.some.inj hj]
        · rw [if_neg e] at hj ⊢
          exact ht j x hj)
      rwa [List.length_set] at this
    have hdec := set_ne p i hi' y
    have hb2 := (((Below.refl _ W0).alloc (Nat.le_refl _) _).trans hb1).setCell (p := ⟨g, i, none⟩) hg (byt (p[i] ^^^ y))
    have H := Lib.hid (And.intro hCa (And.intro hdec hb2))
    clear hset hCa hdec hb2 hb1 hown hh ht hcs
    go_wp2_with fail
    have hH := H.out
    clear H hc hz hx
    have hCl : (p.set i (p[i] ^^^ y)).length = p.length := by simp
    have hbW : Bytes (w2.setCell ⟨g, i, none⟩ (byt (p[i] ^^^ y))) Q (.slice A p.length c) p := hp0.below hH.2.2 (Nat.le_refl _)
    have hbW' : Bytes (w2.setCell ⟨g, i, none⟩ (byt (p[i] ^^^ y))) Q' (.slice A' p'.length c') p' := hp0'.below hH.2.2 (Nat.le_refl _)
    have hTW : Tables (w2.setCell ⟨g, i, none⟩ (byt (p[i] ^^^ y))) := hT0.below (Nat.le_refl _) hH.2.2
    have hW : Below w.heap.size w (w2.setCell ⟨g, i, none⟩ (byt (p[i] ^^^ y))) := hb0.trans (hH.2.2.mono hb0.size)
    have hbC := hH.1
    have hdec := hH.2.1
    generalize hCC : p.set i (p[i] ^^^ y) = C at hCl hbC hdec
    clear hCC hH hp0 hp0' hT0 hb0
    generalize w2.setCell ⟨g, i, none⟩ (.int .u8 (bv (p[i] ^^^ y))) = W2 at hbW hbW' hTW hW hbC ⊢
    clear h1 h2 h3 h1' h2' h3' hCl hcap hm hg
    rcases hyb with ⟨hy, hy'⟩ | ⟨hy, hy'⟩
    focus
      have hdec' : decide (p = C) = true := by rw [hdec]; exact decide_eq_true hy'
      clear hdec
    rotate_left
    focus
      have hdec' : decide (p = C) = false := by rw [hdec]; exact decide_eq_false hy'
      clear hdec
  rotate_left 2
  focus
    go_wp2_with (at_builtin; refine wpList_append_bytes rfl _ _ rfl W0.heap.size (.slice (some ⟨W0.heap.size, 0, none⟩) 0 0) [] rfl (own_lit W0 W0.heap.size [] (Nat.le_refl _) (by simp)) Q _ p rfl (hp0.alloc _) (by simp; omega) (by simp) ?_; intro v1 w1 hown hb1; rw [List.nil_append] at hown; obtain ⟨A1, c1, rfl, -⟩ := id (Bytes.of_own hown))
    have hb2 := ((Below.refl _ W0).alloc (Nat.le_refl _) _).trans hb1
    have hbW : Bytes w1 Q (.slice A p.length c) p := hp0.below hb2 (Nat.le_refl _)
    have hbW' : Bytes w1 Q' (.slice A' p'.length c') p' := hp0'.below hb2 (Nat.le_refl _)
    have hTW : Tables w1 := hT0.below (Nat.le_refl _) hb2
    have hW : Below w.heap.size w w1 := hb0.trans (hb2.mono hb0.size)
    have hbC := Bytes.of_own hown
    rw [hl0] at hbW hbC
    clear hp0 hp0' hT0 hb0 hb1 hb2 hown
    clear h1 h2 h3 h1' h2' h3'
    go_wp2_with fail
    obtain ⟨C, hC⟩ : ∃ C, C = p := ⟨_, rfl⟩
    rw [← hC] at hbC
    have hdec' : decide (p = C) = true := by rw [hC]; simp
    clear hC
    generalize w1 = W2 at hbW hbW' hTW hW hbC ⊢
    rcases hyb with ⟨hy, hy'⟩ | ⟨hy, hy'⟩
  all_goals
    clear hy'
    refine (equal_ _ _ p p' _ _ _ hbW hbW' (by omega)).mono ?_
    rintro e w3 ⟨rfl, hb3⟩
    have hbX := hbW.below hb3 (Nat.le_refl _)
    have hbX' := hbW'.below hb3 (Nat.le_refl _)
    have hbXC := hbC.below hb3 (Nat.le_refl _)
    have hTX := hTW.below (Nat.le_refl _) hb3
    have hX := hW.trans (hb3.mono hW.size)
    clear hbW hbW' hbC hTW hW hb3
    go_wp2_with fail
    refine (same_ _ _ p p' _ _ _ hbX hbX' (by omega) (by omega)).mono ?_
    rintro e w4 ⟨rfl, hb4⟩
    have hbY := hbX.below hb4 (Nat.le_refl _)
    have hbYC := hbXC.below hb4 (Nat.le_refl _)
    have hTY := hTX.below (Nat.le_refl _) hb4
    have hY := hX.trans (hb4.mono hX.size)
    clear hbX hbX' hbXC hTX hX hb4
    go_wp2_with fail
    refine (equal_ _ _ p C _ _ _ hbY hbYC (by omega)).mono ?_
    rintro e w5 ⟨rfl, hb5⟩
    rw [hdec']
    have hbZ := hbY.below hb5 (Nat.le_refl _)
    have hTZ := hTY.below (Nat.le_refl _) hb5
    have hZ := hY.trans (hb5.mono hY.size)
    clear hbY hbYC hTY hY hb5
    go_wp2_with fail
    refine (equal_ _ _ p p _ _ _ hbZ hbZ (by omega)).mono ?_
    rintro e w6 ⟨rfl, hb6⟩
    rw [show decide (p = p) = true by simp]
    have hbA := hbZ.below hb6 (Nat.le_refl _)
    have hTA := hTZ.below (Nat.le_refl _) hb6
    have hA := hZ.trans (hb6.mono hZ.size)
    clear hbZ hTZ hZ hb6
    go_wp2_with (first
      | (at_builtin; (refine wpList_append_wanted (by go_simp) (.tmp 65) (.tmp 67) (by rfl) w6.heap.size _ p (by rfl) hown8 (fun _ => True) _ [y] (by rfl) hby8 (by simp; omega) hs8 ?_); intro v9 w9 hown9 hb9)
      | (at_builtin; (refine wpList_append_wanted (by go_simp) (.tmp 63) (.tmp 64) (by rfl) w6.heap.size (.slice (some ⟨w6.heap.size, 0, none⟩) 0 0) [] (by rfl) (own_lit w6 w6.heap.size [] (Nat.le_refl _) (by simp)) Q _ p (by rfl) (hbA.alloc _) (by simp; omega) (by simp) ?_); intro v7 w7 hown7 hb7; rw [List.nil_append] at hown7; have hs7 := hb7.size; have hown8 := hown7.alloc (.cells #[byt y] 5); have hby8 := bytes_one w7 (bv y) y rfl; have hs8 : w6.heap.size ≤ (w7.alloc (.cells #[byt y] 5)).heap.size := by simp at hs7 ⊢; omega))
    have hq7 := ((Below.refl w6.heap.size w6).alloc (Nat.le_refl _) _).trans hb7
    have hq9 := (hq7.alloc hq7.size _).trans hb9
    have hbD := hbA.below hq9 (Nat.le_refl _)
    have hTD := hTA.below (Nat.le_refl _) hq9
    have hD := hA.trans (hq9.mono hA.size)
    have hby9 := Bytes.of_own hown9
    clear hq7 hq9 hb7 hb9 hown9 hown8 hown7 hby8 hbA hTA hA hs7 hs8
    refine (equal_ _ _ p (p ++ [y]) _ _ _ hbD hby9 (by omega)).mono ?_
    rintro e w10 ⟨rfl, hb10⟩
    rw [show decide (p = p ++ [y]) = false by simp]
    have hTE := hTD.below (Nat.le_refl _) hb10
    have hE := hD.trans (hb10.mono hD.size)
    clear hbD hTD hD hby9 hb10
    go_wp2_with fail
    refine (hawake _ hTE).mono ?_
    rintro e w11 ⟨rfl, hb11⟩
    have hF := hE.trans (hb11.mono hE.size)
    clear hb11 hTE hE
    go_wp2
    go_ret
    refine ⟨?_, hF⟩
    first
      | rfl
      | (have e1 : (bv y == 0) = false := (by simpa using hy)
         have e2 : ((p.length : Int) == 0) = false := (by simp; exact fun h => hl0 (by rw [h]; rfl))
         show Ending.returned (.bool (!bv y == 0 && !(p.length : Int) == 0)) = _
         rw [e1, e2]
         rfl)
end Go.Proofs.YtbbpdcnmoabooaaDoor
