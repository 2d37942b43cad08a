/-
  The reference's Encode.
  The reference's Encode.
-/
import Derived.Test.YtknhnkmooaopmaaPk32
import Derived.Test.YtknhnkmooaopmaaPk31
import Derived.Test.YtknhnkmooaopmaaPk33
import Derived.Deep.CutBlock
import Derived.Deep.RegionHeld3
namespace Go.Proofs.Ytknhnkmooaopmaa
open Go Go.RowKit Sh Leaf

/-- append to a row of the call's own, and which block it turns. -/
theorem run_append_grown {w : World} (ty : TypeId) (base : Nat) (v : Value) (xs : List B8) (hown : Own w base v xs) (Q : Nat → Prop) (v2 : Value) (ys : List B8) (hr : Bytes w Q v2 ys) (h47 : xs.length + ys.length ≤ 140737488355328) (hbase : base ≤ w.heap.size) :
    ∃ v' w', (Builtin.append_ #[25, 25] ty #[v, v2]).run Try.prog w = .ok v' w' ∧ Own w' base v' (xs ++ ys) ∧ Below base w w' ∧ (v' = v ∧ w' = w ∨ w.grownBy w' v.ownBlock) := by
  obtain ⟨i0, hi, hz0, hz1, hz2⟩ := info_parts byteInfo
  obtain ⟨v', w', hrun, h1, h2⟩ := run_append_bytes ty base v xs hown Q v2 ys hr h47 hbase
  refine ⟨v', w', hrun, h1, h2, ?_⟩
  obtain ⟨A, c, hv, hc1, hc2, hc3, hc4⟩ := hr
  cases A with
  | none =>
    have h0 := hc3 rfl
    subst h0
    have hy : ys = [] := List.eq_nil_of_length_eq_zero (by omega)
    subst hy
    have e := run_append_owned_none w base 25 ty 5 i0 1 Try.underlying25 hi v xs.length (xs.map byt) hown
    rw [hv, List.length_nil] at hrun
    rw [hrun] at e
    injection e with e1 e2
    exact .inl ⟨e1, e2⟩
  | some ad =>
    obtain ⟨v'', w'', hrun', _, h4⟩ := run_append_own w base 25 ty 5 i0 (.int .u8 0) 1 1 Try.underlying25 hi hz0 hz1 hz2 rfl (by decide) v xs.length (xs.map byt) hown ad ys.length c (ys.map byt) (by simp)
      (by
        intro j b hb
        have hj : j < ys.length := by
          have := (List.getElem?_eq_some_iff.1 hb).1
          simpa using this
        obtain ⟨g, o, hA, _, hcell⟩ := hc4 (by omega)
        obtain rfl := Option.some.inj hA
        rw [Addr.add_mid]
        rw [List.getElem?_map, List.getElem?_eq_getElem hj] at hb
        obtain rfl := Option.some.inj hb
        exact hcell j _ (List.getElem?_eq_getElem hj)) (byt_one ys) (by unfold maxLen; omega) (by omega) hbase
    rw [hv, hrun'] at hrun
    injection hrun with e1 e2
    subst e1 e2
    exact .inr h4.1
theorem wpList_append_grown {w : World} {ops : Array Oper} {rest : List Oper} {o : Oper} {a : Act} {R : Exit → Act → World → Prop} (hw : Region.wanted o (yielded ops a.tmps) = true) (s x : Operand)
    (ho : o.op = .call { callee := .builtin .append, args := #[s, x], argTypes := #[25, 25] })
    (base : Nat) (v : Value) (xs : List B8) (hs : a.eval s = v) (hown : Own w base v xs)
    (Q : Nat → Prop) (v2 : Value) (ys : List B8) (hx : a.eval x = v2) (hr : Bytes w Q v2 ys) (h47 : xs.length + ys.length ≤ 140737488355328) (hbase : base ≤ w.heap.size)
    (h : ∀ v' w', Own w' base v' (xs ++ ys) → Below base w w' → (v' = v ∧ w' = w ∨ w.grownBy w' v.ownBlock) → wpList Try.prog ops R rest (a.put o.dst v') w') : wpList Try.prog ops R (o :: rest) a w := by
  obtain ⟨v', w', hrun, h1, h2, h3⟩ := run_append_grown o.type base v xs hown Q v2 ys hr h47 hbase
  show if Region.wanted o (yielded ops a.tmps) then _ else _
  rw [if_pos hw]
  left
  unfold Oper.wp
  simp [execOp, ho, resolve, invoke, builtin, hs, hx, hrun, Result.andThen]
  exact h v' w' h1 h2 h3
theorem step_append_grown {w : World} {ops : Array Oper} {o : Oper} {a : Act} {K : Act → World → Prop} {R : Exit → Act → World → Prop} {E : Prop} (hw : Region.wanted o (yielded ops a.tmps) = true) (s x : Operand)
    (ho : o.op = .call { callee := .builtin .append, args := #[s, x], argTypes := #[25, 25] })
    (base : Nat) (v : Value) (xs : List B8) (hs : a.eval s = v) (hown : Own w base v xs)
    (Q : Nat → Prop) (v2 : Value) (ys : List B8) (hx : a.eval x = v2) (hr : Bytes w Q v2 ys) (h47 : xs.length + ys.length ≤ 140737488355328) (hbase : base ≤ w.heap.size)
    (h : ∀ v' w', Own w' base v' (xs ++ ys) → Below base w w' → (v' = v ∧ w' = w ∨ w.grownBy w' v.ownBlock) → K (a.put o.dst v') w') :
    if Region.wanted o (yielded ops a.tmps) = true then Oper.wp Try.prog o a w K R else E := by
  rw [if_pos hw]
  obtain ⟨v', w', hrun, h1, h2, h3⟩ := run_append_grown o.type base v xs hown Q v2 ys hr h47 hbase
  unfold Oper.wp
  simp [execOp, ho, resolve, invoke, builtin, hs, hx, hrun, Result.andThen]
  exact h v' w' h1 h2 h3
theorem below_step {B : Nat} {a W w' : World} (hb : Below W.heap.size W w') (h : Below B a W) (hB : B ≤ a.heap.size) : Below B a w' := h.trans (hb.mono (Nat.le_trans hB h.size))
/-- A row of the call's own stays when an older row grows. -/
theorem own_beside {w w' : World} {base B : Nat} {v v' u : Value} {xs ys : List B8} (hu : Own w B u ys) (hv : Own w base v xs) (hvB : ∀ k, v.ownBlock = some k → k < B) (hg : v' = v ∧ w' = w ∨ w.grownBy w' v.ownBlock) : Own w' B u ys := by
  rcases hg with ⟨_, rfl⟩ | hg
  · exact hu
  · refine World.ownsRow.kept hu hg ?_
    cases hk : u.ownBlock with
    | none => exact .inl rfl
    | some k =>
      refine .inr fun e => ?_
      have h1 := (World.ownsRow.lt hu k hk).1
      have h2 := hvB k e.symm
      omega
theorem own_lt {w : World} {base : Nat} {v : Value} {xs : List B8} (h : Own w base v xs) {B : Nat} (hB : w.heap.size ≤ B) : ∀ k, v.ownBlock = some k → k < B := fun k hk => by have := (World.ownsRow.lt h k hk).2; omega
set_option linter.unusedVariables false in
set_option maxRecDepth 100000 in
set_option maxHeartbeats 2000000 in
theorem rencode (p : Prd) (hm : p.mask < 18446744073709551616) (hn : p.name.length ≤ 9223372036854775807) (w : World) :
    Calls Try.prog 37 #[pv p] w fun e w' => ∃ v', e = .returned (.tuple #[v', .int .i64 ((ed p).2 : Int)]) ∧ Own w' w.heap.size v' (ed p).1 ∧ Below w.heap.size w w' := by
  have hv := rvalid p hm hn
  by_cases hp : pok p
  case neg =>
    have hf : ed p = ([], 5) := by unfold ed; rw [if_neg hp]
    rw [hf]
    have hv2 : ∀ W, Calls Try.prog 30 #[pv p] W fun e w' => e = .returned (.bool false) ∧ Below W.heap.size W w' := fun W => by have := hv W; rw [decide_eq_false hp] at this; exact this
    clear hf hv hp
    obtain ⟨k, m, lo, hi, nm, nu⟩ := p
    unfold pv at hv2 ⊢
    simp only at hm hn hv2 ⊢
    go_enter Try.func37, Try.ntmps37
    go_wp2_with (first | (go_at_call 30; refine (hv2 _).mono ?_; rintro e w1 ⟨rfl, hb1⟩))
    go_ret2
    exact ⟨_, rfl, own_nil _ _, ((Below.refl w.heap.size w).alloc (Nat.le_refl _) _).trans (hb1.mono (by simp))⟩
  have hf : ed p = (en p, 0) := by unfold ed; rw [if_pos hp]
  rw [hf]
  have hv2 : ∀ W, Calls Try.prog 30 #[pv p] W fun e w' => e = .returned (.bool true) ∧ Below W.heap.size W w' := fun W => by have := hv W; rw [decide_eq_true hp] at this; exact this
  clear hf hv
  obtain ⟨k, m, lo, hi, nm, nu⟩ := p
  unfold pv at hv2 ⊢
  have hk := pok_kind hp
  obtain ⟨k, rfl⟩ := Int.eq_ofNat_of_zero_le (show 0 ≤ k by have := hk.1; simp only at this; omega)
  have hE : en ⟨(k : Int), m, lo, hi, nm, nu⟩ = enc k ++ ebody ⟨(k : Int), m, lo, hi, nm, nu⟩ := by unfold en; simp only [Int.toNat_natCast]
  rw [hE]
  clear hE
  obtain ⟨EB, hEB⟩ : ∃ EB, EB = ebody ⟨(k : Int), m, lo, hi, nm, nu⟩ := ⟨_, rfl⟩
  rw [← hEB]
  unfold pok at hp
  simp only at hm hn hv2 hp hk ⊢
  have hk7 : 1 ≤ k ∧ k ≤ 7 := by omega
  have hek : (enc k).length ≤ 7 := enc_len7 (by omega)
  go_enter Try.func37, Try.ntmps37
  go_wp2_with fail
  refine (hv2 _).mono ?_
  rintro e w1 ⟨rfl, hb1⟩
  have hW1 : PRow w1 w.heap.size k m lo hi nm nu := (Whole.here w _ _).below hb1 (by simp)
  obtain ⟨c0, c1, c2, c3, c4, c5⟩ := hW1.cells
  have HW1 := Lib.hid hW1
  have HB1 := Lib.hid (((Below.refl w.heap.size w).alloc (Nat.le_refl _) _).trans (hb1.mono (by simp)))
  have hg1 := hW1.lt
  clear hW1 hb1 hv2
  go_wp2_with fail
  refine (number k w1 (by omega)).mono ?_
  rintro e w2 ⟨v2, rfl, ho2, hb2⟩
  have hW2 : PRow w2 w.heap.size k m lo hi nm nu := HW1.out.below hb2 hg1
  obtain ⟨c0, c1, c2, c3, c4, c5⟩ := hW2.cells
  have HW2 := Lib.hid hW2
  have HB2 := Lib.hid (HB1.out.trans (hb2.mono HB1.out.size))
  have HO2 := Lib.hid (own_mono ho2 (Nat.le_of_lt hg1))
  have HOO := Lib.hid ho2
  have hg12 : w1.heap.size ≤ w2.heap.size := hb2.size
  have hgw := hg1
  have hg2 := hW2.lt
  clear hW2 hb2 ho2 HW1 HB1 hg1
  rcases (by omega : k ≤ 3 ∨ (4 ≤ k ∧ k ≤ 5) ∨ k = 6 ∨ k = 7) with hk3 | ⟨hk4, hk5⟩ | rfl | rfl
  · have HE : Hid (EB = be8 m) := Lib.hid (by rw [hEB]; unfold ebody; exact if_pos (show (k : Int) ≤ 3 by omega))
    have hkk : (k : Int) = 1 ∨ (k : Int) = 2 ∨ (k : Int) = 3 := by omega
    clear hEB hp hk
    rcases hkk with hkk | hkk | hkk
    all_goals
      go_wp2_with fail
      refine (eight m w2).mono ?_
      rintro e w3 ⟨v3, rfl, ho3, hb3⟩
      have HB3 := Lib.hid (HB2.out.trans (hb3.mono HB2.out.size))
      have hO3 := own_below HO2.out hb3 (Nat.le_refl _)
      have hs3 := HB3.out.size
      have h8 := be8_length m
      clear hb3
      go_wp2_with (at_builtin; go_must (refine wpList_append_grown rfl _ _ rfl w.heap.size v2 (enc k) rfl hO3 _ v3 (be8 m) rfl (Bytes.of_own ho3) (by omega) hs3 ?_; intro v4 w4 ho4 hb4 _))
      go_ret2
      rw [HE.out]
      exact ⟨_, rfl, ho4, HB3.out.trans hb4⟩
  · have hEB1 : EB = enc lo.toNat ++ enc hi.toNat := by rw [hEB]; unfold ebody; exact (if_neg (show ¬ (k : Int) ≤ 3 by omega)).trans (if_pos (show (k : Int) ≤ 5 by omega))
    clear hEB
    obtain ⟨lo, rfl⟩ := Int.eq_ofNat_of_zero_le (show 0 ≤ lo by omega)
    obtain ⟨hi, rfl⟩ := Int.eq_ofNat_of_zero_le (show 0 ≤ hi by omega)
    simp only [Int.toNat_natCast] at hEB1
    have HE := Lib.hid hEB1
    clear hEB1
    have hlo : lo ≤ 67108864 := by omega
    have hhi : hi ≤ 67108864 := by omega
    have hel : (enc lo).length ≤ 7 := enc_len7 (by omega)
    have heh : (enc hi).length ≤ 7 := enc_len7 (by omega)
    have hkk : (k : Int) = 4 ∨ (k : Int) = 5 := by omega
    have hcc : ∀ W, Below w1.heap.size w2 W → (W.cell? ⟨w.heap.size, 2, none⟩ = some (.int .i64 (lo : Int)) ∧ W.cell? ⟨w.heap.size, 3, none⟩ = some (.int .i64 (hi : Int))) := fun W hb => ⟨(PRow.cells (Whole.below HW2.out hb hgw)).2.2.1, (PRow.cells (Whole.below HW2.out hb hgw)).2.2.2.1⟩
    have hc0 := hcc w2 (Below.refl _ _)
    have hOd : Hid (Own w2.drew w1.heap.size v2 (enc k)) := Lib.hid HOO.out
    clear hp hk
    rcases hkk with hkk | hkk
    all_goals
      go_wp2_with fail
      go_region_held3 (fun W => W.cell? ⟨w.heap.size, 2, none⟩ = some (.int .i64 (lo : Int)) ∧ W.cell? ⟨w.heap.size, 3, none⟩ = some (.int .i64 (hi : Int))) (first | exact hc0 | assumption | go_keep)
        (first
          | (have hX4' := hX4; go_at_call 38; refine (number hi _ (by omega)).mono ?_; rintro e wB ⟨vB, rfl, hoB, hbB⟩; have hXB : Below w1.heap.size w2 wB := below_step hbB hX4' hg12; have hsB := hcc wB hXB; have ho4B := own_below ho4 hbB (Nat.le_refl _))
          | (go_at_call 38; refine (number lo _ (by omega)).mono ?_; rintro e wA ⟨vA, rfl, hoA, hbA⟩; have hXA : Below w1.heap.size w2 wA := (below_step (W := w2.drew) hbA (Below.drew (Below.refl w1.heap.size w2)) hg12); have hsA := hcc wA hXA; have hownA := own_below hOd.out hbA (Nat.le_refl _))
          | (refine step_append_grown (by rfl) (.tmp 25) (.tmp 28) (by rfl) w1.heap.size v2 (enc k) (by rfl) hownA _ vA (enc lo) (by rfl) (Bytes.of_own hoA) (by omega) (Nat.le_trans hg12 hXA.size) ?_; intro v4 w4 ho4 hb4 _; have hX4 := Below.trans hXA hb4; have hs4 := hcc w4 hX4)
          | (refine step_append_grown (by rfl) (.tmp 29) (.tmp 32) (by rfl) w1.heap.size v4 (enc k ++ enc lo) (by rfl) ho4B _ vB (enc hi) (by rfl) (Bytes.of_own hoB) (by rw [List.length_append]; omega) (Nat.le_trans hg12 hXB.size) ?_; intro v5 w5 ho5 hb5 _; have hX5 := Below.trans hXB hb5; have hs5 := hcc w5 hX5))
      have HF := Lib.hid (own_mono ho5 (Nat.le_of_lt hgw))
      have HB5 := Lib.hid (HB2.out.trans (hX5.mono (Nat.le_of_lt hgw)))
      clear hX5 hX4 hXA hXB hs5 hs4 hsA hsB ho5 ho4 ho4B hownA hoA hoB hb4 hb5 hbA hbB hc0
      go_wp2
      go_ret2
      rw [HE.out, ← List.append_assoc]
      exact ⟨_, rfl, HF.out, HB5.out⟩
  · have HE : Hid (EB = fld nm) := Lib.hid (by rw [hEB]; rfl)
    clear hEB
    have hnm : nm.length ≤ 16 := by
      have : nmok nm := by
        rcases hp with h | h | h | h | h | h | h
        all_goals first | (exact h.2.2.2.2.1) | (have := h.1; omega)
      exact this.2.1
    have hcv := fun W => conv_str (sof nm) W
    clear hp hk
    have hM := (own_str (sof nm) (by rw [sof_size]; omega) w2 w2.heap.size (Nat.le_refl _)).bytes
    rw [sbytes_sof] at hM
    have hbm := ((Below.refl w2.heap.size w2).alloc (Nat.le_refl _) (Obj.cells (strRow (sof nm) w2) 5 ((strRow (sof nm) w2).size, (strRow (sof nm) w2).size + 1))).drew
    have hO := own_below HO2.out hbm (Nat.le_refl _)
    have hap := rfield _ nm _ _ hM (by omega)
    have HAP := Lib.hid hap
    have HBW := Lib.hid (HB2.out.trans (hbm.mono HB2.out.size))
    have HO := Lib.hid hO
    clear hM hO hap hbm
    go_wp2_with fail
    refine HAP.out.mono ?_
    rintro e w4 ⟨v4, rfl, ho4, hb4⟩
    have HB4 := Lib.hid (HBW.out.trans (hb4.mono HBW.out.size))
    have hO4 := own_below HO.out hb4 (Nat.le_refl _)
    have hs4 := HB4.out.size
    have hfl : (fld nm).length ≤ 30 := by unfold fld; rw [List.length_append]; have := enc_len7 (n := nm.length) (by omega); omega
    clear hb4
    go_wp2_with (at_builtin; go_must (refine wpList_append_grown rfl _ _ rfl w.heap.size v2 (enc 6) rfl hO4 _ v4 (fld nm) rfl (Bytes.of_own ho4) (by omega) hs4 ?_; intro v5 w5 ho5 hb5 _))
    go_ret2
    rw [HE.out]
    exact ⟨_, rfl, ho5, HB4.out.trans hb5⟩
  · have hEB1 : EB = enc nu.toNat := by rw [hEB]; rfl
    clear hEB
    obtain ⟨nu, rfl⟩ := Int.eq_ofNat_of_zero_le (show 0 ≤ nu by omega)
    simp only [Int.toNat_natCast] at hEB1
    have HE := Lib.hid hEB1
    clear hEB1
    have hnu : nu ≤ 1000000 := by omega
    clear hp hk
    go_wp2_with fail
    refine (number nu w2 (by omega)).mono ?_
    rintro e w3 ⟨v3, rfl, ho3, hb3⟩
    have HB3 := Lib.hid (HB2.out.trans (hb3.mono HB2.out.size))
    have hO3 := own_below HO2.out hb3 (Nat.le_refl _)
    have hs3 := HB3.out.size
    have h8 := enc_len7 (n := nu) (by omega)
    clear hb3
    go_wp2_with (at_builtin; go_must (refine wpList_append_grown rfl _ _ rfl w.heap.size v2 (enc 7) rfl hO3 _ v3 (enc nu) rfl (Bytes.of_own ho3) (by omega) hs3 ?_; intro v4 w4 ho4 hb4 _))
    go_ret2
    rw [HE.out]
    exact ⟨_, rfl, ho4, HB3.out.trans hb4⟩
end Go.Proofs.Ytknhnkmooaopmaa
namespace Go.Proofs.Ytknhnkmooaopmaa
open Go Go.RowKit Sh Leaf

theorem lit_one {w : World} (n : Int) (y : B8) (h : Value.int .u8 n = byt y) : Own (w.alloc (.cells #[.int .u8 n] 5)) w.heap.size (.slice (some ⟨w.heap.size, 0, none⟩) 1 1) [y] := by
  have := own_lit w w.heap.size [y] (Nat.le_refl _) (by simp)
  rw [h]
  exact this
set_option linter.unusedSimpArgs false in
set_option linter.unusedVariables false in
set_option maxRecDepth 100000 in
set_option maxHeartbeats 4000000 in
theorem rcenc {w : World} {Q : Nat → Prop} {v : Value} {c : Cav} (h : CavV w Q v c) :
    Calls Try.prog 20 #[v] w fun e w' => ∃ v', e = .returned (.tuple #[v', .int .i64 ((ce c).2 : Int)]) ∧ Bytes w' (fun g => w.heap.size ≤ g) v' (ce c).1 ∧ Below w.heap.size w w' := by
  have hV := h
  obtain ⟨th, fi, pa, ti, bo⟩ := c
  obtain ⟨A1, c1, A2, c2, rfl, hB1, hB2, hm, hn, hl1, hl2⟩ := h
  dsimp only at hB1 hB2 hm hn hl1 hl2 hV ⊢
  obtain ⟨p, hp⟩ : ∃ p, p = w.alloc (.cells (cvrow th fi pa (.slice A1 ti.length c1) (.slice A2 bo.length c2)) 27) := ⟨_, rfl⟩
  have hr : CvRow p w.heap.size th fi pa (.slice A1 ti.length c1) (.slice A2 bo.length c2) := by rw [hp]; exact Whole.here _ _ _
  have hb : Below w.heap.size w p := by rw [hp]; exact (Below.refl _ _).alloc (Nat.le_refl _) _
  have hps : w.heap.size < p.heap.size := hr.lt
  have hcl := rcvalid (hV.below hb (Nat.le_refl _))
  obtain ⟨R, hR⟩ : ∃ R, R = decide (cvok ⟨th, fi, pa, ti, bo⟩) := ⟨_, rfl⟩
  obtain ⟨E, hE⟩ : ∃ E, E = ce ⟨th, fi, pa, ti, bo⟩ := ⟨_, rfl⟩
  rw [← hR] at hcl
  rw [← hE]
  have HB := Lib.hid hb
  have HR := Lib.hid hr
  have HRD := Lib.hid hR
  have HE := Lib.hid hE
  have HB1 := Lib.hid (hB1.below hb (Nat.le_refl _))
  have HB2 := Lib.hid (hB2.below hb (Nat.le_refl _))
  clear hb hr hR hV hE hB1 hB2
  go_enter Try.func20, Try.ntmps20
  go_upto_region 1 with fail
  rw [← hp]
  clear hp
  go_wp2_with (with_reducible refine wpList_load_cav rfl _ rfl rfl HR.out ?_)
  refine hcl.mono ?_
  rintro e w1 ⟨rfl, hbw⟩
  clear hcl
  have hsw1 : p.heap.size ≤ w1.heap.size := hbw.size
  have HBW := Lib.hid hbw
  have HR1 := Lib.hid (Whole.below HR.out hbw hps)
  have HG1 := Lib.hid (HB.out.trans (hbw.mono (Nat.le_of_lt hps)))
  clear hbw HR
  cases R
  case false =>
    have hEE : E = ([], 5) := by
      rw [HE.out]
      unfold ce
      exact if_neg (by have := HRD.out; simpa using this)
    have HEE := Lib.hid hEE
    clear hEE
    go_wp2_with fail
    go_ret2
    rw [HEE.out]
    exact ⟨_, rfl, Bytes.nil _ _, HG1.out⟩
  have hok : cvok ⟨th, fi, pa, ti, bo⟩ := by have := HRD.out; simpa using this
  have hEE : E = (cen ⟨th, fi, pa, ti, bo⟩, 0) := by
    rw [HE.out]
    unfold ce
    exact if_pos hok
  have HOK := Lib.hid (cvok_mk.1 hok)
  clear HE HRD hok
  obtain ⟨k0, k7, k8, k9⟩ := CvRow.cells HR1.out
  cases th
  case false =>
    have hed : ed fi = (en fi, 0) := by
      unfold ed
      rcases HOK.out with h | h
      · exact absurd h.1 (by simp)
      · exact if_pos h.2.1
    have hpk : (en fi).length ≤ 30 := by
      rcases HOK.out with h | h
      · exact absurd h.1 (by simp)
      · exact en_len h.2.1
    have hcn : cen ⟨false, fi, pa, ti, bo⟩ = [1#8] ++ en fi := by unfold cen; rw [if_neg (by simp), enc_lt (by omega)]
    rw [hcn] at hEE
    obtain ⟨L2, hL2⟩ : ∃ L, L = en fi := ⟨_, rfl⟩
    have hpe := rencode fi hm hn w1
    rw [hed] at hpe
    rw [← hL2] at hpe hpk hEE
    have HEE := Lib.hid hEE
    clear hEE hed hcn hL2 k7 k8 k9 HOK
    go_wp2_with (with_reducible refine wpList_load_cprd rfl _ rfl rfl HR1.out ?_)
    refine hpe.mono ?_
    rintro e w2 ⟨v2, rfl, ho2, hb2⟩
    clear hpe k0
    have h2 := Bytes.of_own ho2
    obtain ⟨Ab, cb, rfl, -⟩ := id h2
    have hsw2 : w1.heap.size ≤ w2.heap.size := hb2.size
    have HG2 := Lib.hid (HG1.out.trans (hb2.mono (by omega)))
    have H2 := Lib.hid h2
    have HL := Lib.hid (lit_one (w := w2) 1 1#8 (byt_lit 1 (by omega)).symm)
    clear h2 ho2 hb2
    go_wp2_with (at_builtin; go_must (refine wpList_append_bytes rfl _ _ rfl w2.heap.size (.slice (some ⟨w2.heap.size, 0, none⟩) 1 1) [1#8] rfl HL.out _ _ L2 rfl (H2.out.alloc _) (by simp only [List.length_singleton]; omega) (by simp) ?_; intro v4 w4 ho4 hb4))
    have hb24 : Below w2.heap.size w2 w4 := ((Below.refl _ _).alloc (Nat.le_refl _) _).trans hb4
    have HG4 := Lib.hid (HG2.out.trans (hb24.mono (by omega)))
    have HV4 := Lib.hid ((Bytes.of_own ho4).mono (Q' := fun g => w.heap.size ≤ g) fun g _ h => by have h : w2.heap.size ≤ g := h; omega)
    clear ho4 hb4 hb24
    go_ret2
    rw [HEE.out]
    exact ⟨v4, rfl, HV4.out, HG4.out⟩
  case true =>
    obtain ⟨-, -, q3, q4, q5, q6, q7, q8⟩ : true = true ∧ fi = .zero ∧ 0 ≤ pa ∧ pa ≤ 7 ∧ 1 ≤ ti.length ∧ ti.length ≤ 1024 ∧ 1 ≤ bo.length ∧ bo.length ≤ 1024 := by
      rcases HOK.out with h | h
      · exact h
      · exact absurd h.1 (by simp)
    obtain ⟨pn, rfl⟩ := Int.eq_ofNat_of_zero_le q3
    have hpn : pn ≤ 7 := by omega
    have hcn : cen ⟨true, fi, (pn : Int), ti, bo⟩ = (([2#8] ++ enc pn) ++ fld ti) ++ fld bo := by
      unfold cen
      rw [if_pos rfl, show enc 2 = [2#8] from enc_lt (by omega)]
      simp only [Int.toNat_natCast, List.append_assoc]
    rw [hcn] at hEE
    have he8 := enc_len7 (n := pn) (by omega)
    have hl3 := fld_len (x := ti) (by omega)
    have hl4 := fld_len (x := bo) (by omega)
    obtain ⟨L2, hL2⟩ : ∃ L, L = enc pn := ⟨_, rfl⟩
    obtain ⟨L3, hL3⟩ : ∃ L, L = fld ti := ⟨_, rfl⟩
    obtain ⟨L4, hL4⟩ : ∃ L, L = fld bo := ⟨_, rfl⟩
    have hnum := fun W => number pn W (by omega)
    have hf3 := fun v Q W hv => rfield v ti Q W hv (by omega)
    have hf4 := fun v Q W hv => rfield v bo Q W hv (by omega)
    rw [← hL2] at hnum he8 hEE
    rw [← hL3] at hf3 hl3 hEE
    rw [← hL4] at hf4 hl4 hEE
    have HEE := Lib.hid hEE
    have HNUM := Lib.hid hnum
    have HF3 := Lib.hid hf3
    have HF4 := Lib.hid hf4
    have hB1w := Lib.hid (HB1.out.below HBW.out (Nat.le_refl _))
    have hB2w := Lib.hid (HB2.out.below HBW.out (Nat.le_refl _))
    have HCC : Hid (∀ W, Below w1.heap.size w1 W → W.cell? ⟨w.heap.size, 7, none⟩ = some (.int .i64 (pn : Int)) ∧ W.cell? ⟨w.heap.size, 8, none⟩ = some (.slice A1 ti.length c1) ∧ W.cell? ⟨w.heap.size, 9, none⟩ = some (.slice A2 bo.length c2)) := Lib.hid fun W hW => (CvRow.cells (Whole.below HR1.out hW (by omega))).2
    clear hEE hcn hL2 hL3 hL4 HOK q3 q4 q5 q7 hnum hf3 hf4 k7 k8 k9
    go_upto_region 6 with fail
    clear k0
    have hb0 : Below w1.heap.size w1 w1.drew := (Below.refl _ _).drew
    refine wp_region_held_drew (S := fun W : World => W.cell? ⟨w.heap.size, 7, none⟩ = some (.int .i64 (pn : Int)) ∧ W.cell? ⟨w.heap.size, 8, none⟩ = some (.slice A1 ti.length c1) ∧ W.cell? ⟨w.heap.size, 9, none⟩ = some (.slice A2 bo.length c2)) (by kernel_rfl) (HCC.out _ hb0) (fun hHeld => ?_)
    generalize w1.drew = W0 at hb0 hHeld ⊢
    apply wpAnyH_take (i := 1) rfl (by kernel_rfl) (by kernel_rfl) (by kernel_rfl)
    case hQ => exact fun _ _ _ h => h
    case hS => exact hHeld
    case hy => (refine Or.inl ⟨by rfl, ?_⟩; intro w hSw; (try go_split_ands); go_simp; (try with_reducible rfl))
    (try simp only [List.getElem_toArray, List.getElem_cons_succ, List.getElem_cons_zero, Act.put, List.setIfInBounds_toArray, List.set_cons_zero, List.set_cons_succ])
    apply wpAnyH_take (i := 2) rfl (by kernel_rfl) (by kernel_rfl) (by kernel_rfl)
    case hQ => exact fun _ _ _ h => h
    case hS => exact hHeld
    case hy => (refine Or.inl ⟨by rfl, ?_⟩; intro w hSw; (try go_split_ands); go_simp; (try with_reducible rfl))
    (try simp only [List.getElem_toArray, List.getElem_cons_succ, List.getElem_cons_zero, Act.put, List.setIfInBounds_toArray, List.set_cons_zero, List.set_cons_succ])
    apply wpAnyH_take (i := 5) rfl (by kernel_rfl) (by kernel_rfl) (by kernel_rfl)
    case hQ => exact fun _ _ _ h => h
    case hS => exact hHeld
    case hy => (refine Or.inl ⟨by rfl, ?_⟩; intro w hSw; (try go_split_ands); go_simp; (try with_reducible rfl))
    (try simp only [List.getElem_toArray, List.getElem_cons_succ, List.getElem_cons_zero, Act.put, List.setIfInBounds_toArray, List.set_cons_zero, List.set_cons_succ])
    apply wpAnyH_take (i := 6) rfl (by kernel_rfl) (by kernel_rfl) (by kernel_rfl)
    case hQ => exact fun _ _ _ h => h
    case hS => exact hHeld
    case hy => (refine Or.inl ⟨by rfl, ?_⟩; intro w hSw; (try go_split_ands); go_simp; (try with_reducible rfl))
    (try simp only [List.getElem_toArray, List.getElem_cons_succ, List.getElem_cons_zero, Act.put, List.setIfInBounds_toArray, List.set_cons_zero, List.set_cons_succ])
    apply wpAnyH_take (i := 9) rfl (by kernel_rfl) (by kernel_rfl) (by kernel_rfl)
    case hQ => exact fun _ _ _ h => h
    case hS => exact hHeld
    case hy => (refine Or.inl ⟨by rfl, ?_⟩; intro w hSw; (try go_split_ands); go_simp; (try with_reducible rfl))
    (try simp only [List.getElem_toArray, List.getElem_cons_succ, List.getElem_cons_zero, Act.put, List.setIfInBounds_toArray, List.set_cons_zero, List.set_cons_succ])
    apply wpAnyH_take (i := 10) rfl (by kernel_rfl) (by kernel_rfl) (by kernel_rfl)
    case hQ => exact fun _ _ _ h => h
    case hS => exact hHeld
    case hy => (refine Or.inl ⟨by rfl, ?_⟩; intro w hSw; (try go_split_ands); go_simp; (try with_reducible rfl))
    (try simp only [List.getElem_toArray, List.getElem_cons_succ, List.getElem_cons_zero, Act.put, List.setIfInBounds_toArray, List.set_cons_zero, List.set_cons_succ])
    refine wpAnyH_ready (rs := [0, 3]) (by kernel_rfl) (by simp) ?_
    refine AllReadyH.cons rfl (fun KK hKK => ?_) (AllReadyH.cons rfl (fun KK hKK => ?_) AllReadyH.nil)
    · (try simp only [List.getElem_toArray, List.getElem_cons_succ, List.getElem_cons_zero])
      go_simp
      have ol1 := lit_one (w := W0) 2 2#8 (byt_lit 2 (by omega)).symm
      obtain ⟨G, hG⟩ : ∃ g, g = W0.heap.size := ⟨_, rfl⟩
      obtain ⟨V1, hV1⟩ : ∃ qq, qq = W0.alloc (.cells #[.int .u8 2] 5) := ⟨_, rfl⟩
      have hb1 : Below w1.heap.size w1 V1 := by rw [hV1]; exact hb0.alloc hb0.size _
      rw [← hG, ← hV1] at ol1
      have oA1 := own_mono ol1 (by rw [hG]; exact hb0.size)
      rw [← hG, ← hV1]
      clear hV1 hG ol1
      refine hKK.out _ _ (HCC.out _ hb1) (fun hHeld => ?_)
      clear hKK KK
      (try simp only [List.getElem_toArray, List.getElem_cons_succ, List.getElem_cons_zero, Act.put, List.setIfInBounds_toArray, List.set_cons_zero, List.set_cons_succ])
      refine wpAnyH_ready (rs := [3]) (by kernel_rfl) (by simp) ?_
      refine AllReadyH.cons rfl (fun KK hKK => ?_) AllReadyH.nil
      (try simp only [List.getElem_toArray, List.getElem_cons_succ, List.getElem_cons_zero])
      go_simp
      go_at_call 38
      refine (HNUM.out V1).mono ?_
      rintro e V2 ⟨vB, rfl, ob2, hv2⟩
      obtain ⟨AB, cB, rfl, -⟩ := id (Bytes.of_own ob2)
      have oB2 := (Bytes.of_own ob2).mono (Q' := fun _ => True) fun _ _ _ => trivial
      have hb2 := hb1.trans (hv2.mono hb1.size)
      have oA2 := own_below oA1 hv2 (Nat.le_refl _)
      clear hv2 ob2
      refine hKK.out _ _ (HCC.out _ hb2) (fun hHeld => ?_)
      clear hKK KK
      (try simp only [List.getElem_toArray, List.getElem_cons_succ, List.getElem_cons_zero, Act.put, List.setIfInBounds_toArray, List.set_cons_zero, List.set_cons_succ])
      refine wpAnyH_ready (rs := [4]) (by kernel_rfl) (by simp) ?_
      refine AllReadyH.cons rfl (fun KK hKK => ?_) AllReadyH.nil
      refine step_append_bytes (by rfl) _ _ (by rfl) w1.heap.size _ ([2#8]) (by rfl) oA2 _ (.slice AB L2.length cB) L2 (by rfl) oB2 (by simp only [List.length_append, List.length_singleton]; omega) hb2.size ?_
      intro vN3 V3 oA3 hv3
      have hb3 := hb2.trans hv3
      clear hv3
      refine hKK.out _ _ (HCC.out _ hb3) (fun hHeld => ?_)
      clear hKK KK
      (try simp only [List.getElem_toArray, List.getElem_cons_succ, List.getElem_cons_zero, Act.put, List.setIfInBounds_toArray, List.set_cons_zero, List.set_cons_succ])
      refine wpAnyH_ready (rs := [7]) (by kernel_rfl) (by simp) ?_
      refine AllReadyH.cons rfl (fun KK hKK => ?_) AllReadyH.nil
      (try simp only [List.getElem_toArray, List.getElem_cons_succ, List.getElem_cons_zero])
      go_simp
      go_at_call 39
      refine (HF3.out _ _ V3 (hB1w.out.below hb3 (Nat.le_refl _))).mono ?_
      rintro e V4 ⟨vT, rfl, ob4, hv4⟩
      obtain ⟨AT, cT, rfl, -⟩ := id (Bytes.of_own ob4)
      have oT4 := (Bytes.of_own ob4).mono (Q' := fun _ => True) fun _ _ _ => trivial
      have hb4 := hb3.trans (hv4.mono hb3.size)
      have oA4 := own_below oA3 hv4 (Nat.le_refl _)
      clear hv4 ob4
      refine hKK.out _ _ (HCC.out _ hb4) (fun hHeld => ?_)
      clear hKK KK
      (try simp only [List.getElem_toArray, List.getElem_cons_succ, List.getElem_cons_zero, Act.put, List.setIfInBounds_toArray, List.set_cons_zero, List.set_cons_succ])
      refine wpAnyH_ready (rs := [8]) (by kernel_rfl) (by simp) ?_
      refine AllReadyH.cons rfl (fun KK hKK => ?_) AllReadyH.nil
      refine step_append_bytes (by rfl) _ _ (by rfl) w1.heap.size _ ([2#8] ++ L2) (by rfl) oA4 _ (.slice AT L3.length cT) L3 (by rfl) oT4 (by simp only [List.length_append, List.length_singleton]; omega) hb4.size ?_
      intro vN5 V5 oA5 hv5
      have hb5 := hb4.trans hv5
      clear hv5
      refine hKK.out _ _ (HCC.out _ hb5) (fun hHeld => ?_)
      clear hKK KK
      (try simp only [List.getElem_toArray, List.getElem_cons_succ, List.getElem_cons_zero, Act.put, List.setIfInBounds_toArray, List.set_cons_zero, List.set_cons_succ])
      refine wpAnyH_ready (rs := [11]) (by kernel_rfl) (by simp) ?_
      refine AllReadyH.cons rfl (fun KK hKK => ?_) AllReadyH.nil
      (try simp only [List.getElem_toArray, List.getElem_cons_succ, List.getElem_cons_zero])
      go_simp
      go_at_call 39
      refine (HF4.out _ _ V5 (hB2w.out.below hb5 (Nat.le_refl _))).mono ?_
      rintro e V6 ⟨vX, rfl, ob6, hv6⟩
      obtain ⟨AX, cX, rfl, -⟩ := id (Bytes.of_own ob6)
      have oX6 := (Bytes.of_own ob6).mono (Q' := fun _ => True) fun _ _ _ => trivial
      have hb6 := hb5.trans (hv6.mono hb5.size)
      have oA6 := own_below oA5 hv6 (Nat.le_refl _)
      clear hv6 ob6
      refine hKK.out _ _ (HCC.out _ hb6) (fun hHeld => ?_)
      clear hKK KK
      (try simp only [List.getElem_toArray, List.getElem_cons_succ, List.getElem_cons_zero, Act.put, List.setIfInBounds_toArray, List.set_cons_zero, List.set_cons_succ])
      refine wpAnyH_ready (rs := [12]) (by kernel_rfl) (by simp) ?_
      refine AllReadyH.cons rfl (fun KK hKK => ?_) AllReadyH.nil
      refine step_append_bytes (by rfl) _ _ (by rfl) w1.heap.size _ ([2#8] ++ L2 ++ L3) (by rfl) oA6 _ (.slice AX L4.length cX) L4 (by rfl) oX6 (by simp only [List.length_append, List.length_singleton]; omega) hb6.size ?_
      intro vN7 V7 oA7 hv7
      have hb7 := hb6.trans hv7
      clear hv7
      refine hKK.out _ _ (HCC.out _ hb7) (fun hHeld => ?_)
      clear hKK KK
      (try simp only [List.getElem_toArray, List.getElem_cons_succ, List.getElem_cons_zero, Act.put, List.setIfInBounds_toArray, List.set_cons_zero, List.set_cons_succ])
      apply wpAnyH_take (i := 13) rfl (by kernel_rfl) (by kernel_rfl) (by kernel_rfl)
      case hQ => exact fun _ _ _ h => h
      case hS => exact hHeld
      case hy => (refine Or.inl ⟨by rfl, ?_⟩; intro w hSw; (try go_split_ands); go_simp; (try with_reducible rfl))
      (try simp only [List.getElem_toArray, List.getElem_cons_succ, List.getElem_cons_zero, Act.put, List.setIfInBounds_toArray, List.set_cons_zero, List.set_cons_succ])
      apply wpAnyH_take (i := 14) rfl (by kernel_rfl) (by kernel_rfl) (by kernel_rfl)
      case hQ => exact fun _ _ _ h => h
      case hS => exact hHeld
      case hy => (refine Or.inl ⟨by rfl, ?_⟩; intro w hSw; (try go_split_ands); go_simp; (try with_reducible rfl))
      (try simp only [List.getElem_toArray, List.getElem_cons_succ, List.getElem_cons_zero, Act.put, List.setIfInBounds_toArray, List.set_cons_zero, List.set_cons_succ])
      refine wpAnyH_done (by kernel_rfl) ?_ _
      have HV4 := Lib.hid ((Bytes.of_own oA7).mono (Q' := fun g => w.heap.size ≤ g) fun g _ h => by have h : w1.heap.size ≤ g := h; omega)
      have HG4 := Lib.hid (HG1.out.trans (hb7.mono (by omega)))
      clear hHeld
      go_wp2_with fail
      go_ret2
      rw [HEE.out]
      exact ⟨_, rfl, HV4.out, HG4.out⟩
    · (try simp only [List.getElem_toArray, List.getElem_cons_succ, List.getElem_cons_zero])
      go_simp
      go_at_call 38
      refine (HNUM.out W0).mono ?_
      rintro e V8 ⟨vB, rfl, ob8, hv8⟩
      obtain ⟨AB, cB, rfl, -⟩ := id (Bytes.of_own ob8)
      have oB8 := (Bytes.of_own ob8).mono (Q' := fun _ => True) fun _ _ _ => trivial
      have hb8 := hb0.trans (hv8.mono hb0.size)
      clear hv8 ob8
      refine hKK.out _ _ (HCC.out _ hb8) (fun hHeld => ?_)
      clear hKK KK
      (try simp only [List.getElem_toArray, List.getElem_cons_succ, List.getElem_cons_zero, Act.put, List.setIfInBounds_toArray, List.set_cons_zero, List.set_cons_succ])
      refine wpAnyH_ready (rs := [0]) (by kernel_rfl) (by simp) ?_
      refine AllReadyH.cons rfl (fun KK hKK => ?_) AllReadyH.nil
      (try simp only [List.getElem_toArray, List.getElem_cons_succ, List.getElem_cons_zero])
      go_simp
      have ol9 := lit_one (w := V8) 2 2#8 (byt_lit 2 (by omega)).symm
      obtain ⟨G, hG⟩ : ∃ g, g = V8.heap.size := ⟨_, rfl⟩
      obtain ⟨V9, hV9⟩ : ∃ qq, qq = V8.alloc (.cells #[.int .u8 2] 5) := ⟨_, rfl⟩
      have hb9 : Below w1.heap.size w1 V9 := by rw [hV9]; exact hb8.alloc hb8.size _
      rw [← hG, ← hV9] at ol9
      have oA9 := own_mono ol9 (by rw [hG]; exact hb8.size)
      have oB9 : Bytes V9 (fun _ => True) (.slice AB L2.length cB) L2 := by rw [hV9]; exact oB8.alloc _
      rw [← hG, ← hV9]
      clear hV9 hG ol9
      refine hKK.out _ _ (HCC.out _ hb9) (fun hHeld => ?_)
      clear hKK KK
      (try simp only [List.getElem_toArray, List.getElem_cons_succ, List.getElem_cons_zero, Act.put, List.setIfInBounds_toArray, List.set_cons_zero, List.set_cons_succ])
      refine wpAnyH_ready (rs := [4]) (by kernel_rfl) (by simp) ?_
      refine AllReadyH.cons rfl (fun KK hKK => ?_) AllReadyH.nil
      refine step_append_bytes (by rfl) _ _ (by rfl) w1.heap.size _ ([2#8]) (by rfl) oA9 _ (.slice AB L2.length cB) L2 (by rfl) oB9 (by simp only [List.length_append, List.length_singleton]; omega) hb9.size ?_
      intro vN10 V10 oA10 hv10
      have hb10 := hb9.trans hv10
      clear hv10
      refine hKK.out _ _ (HCC.out _ hb10) (fun hHeld => ?_)
      clear hKK KK
      (try simp only [List.getElem_toArray, List.getElem_cons_succ, List.getElem_cons_zero, Act.put, List.setIfInBounds_toArray, List.set_cons_zero, List.set_cons_succ])
      refine wpAnyH_ready (rs := [7]) (by kernel_rfl) (by simp) ?_
      refine AllReadyH.cons rfl (fun KK hKK => ?_) AllReadyH.nil
      (try simp only [List.getElem_toArray, List.getElem_cons_succ, List.getElem_cons_zero])
      go_simp
      go_at_call 39
      refine (HF3.out _ _ V10 (hB1w.out.below hb10 (Nat.le_refl _))).mono ?_
      rintro e V11 ⟨vT, rfl, ob11, hv11⟩
      obtain ⟨AT, cT, rfl, -⟩ := id (Bytes.of_own ob11)
      have oT11 := (Bytes.of_own ob11).mono (Q' := fun _ => True) fun _ _ _ => trivial
      have hb11 := hb10.trans (hv11.mono hb10.size)
      have oA11 := own_below oA10 hv11 (Nat.le_refl _)
      clear hv11 ob11
      refine hKK.out _ _ (HCC.out _ hb11) (fun hHeld => ?_)
      clear hKK KK
      (try simp only [List.getElem_toArray, List.getElem_cons_succ, List.getElem_cons_zero, Act.put, List.setIfInBounds_toArray, List.set_cons_zero, List.set_cons_succ])
      refine wpAnyH_ready (rs := [8]) (by kernel_rfl) (by simp) ?_
      refine AllReadyH.cons rfl (fun KK hKK => ?_) AllReadyH.nil
      refine step_append_bytes (by rfl) _ _ (by rfl) w1.heap.size _ ([2#8] ++ L2) (by rfl) oA11 _ (.slice AT L3.length cT) L3 (by rfl) oT11 (by simp only [List.length_append, List.length_singleton]; omega) hb11.size ?_
      intro vN12 V12 oA12 hv12
      have hb12 := hb11.trans hv12
      clear hv12
      refine hKK.out _ _ (HCC.out _ hb12) (fun hHeld => ?_)
      clear hKK KK
      (try simp only [List.getElem_toArray, List.getElem_cons_succ, List.getElem_cons_zero, Act.put, List.setIfInBounds_toArray, List.set_cons_zero, List.set_cons_succ])
      refine wpAnyH_ready (rs := [11]) (by kernel_rfl) (by simp) ?_
      refine AllReadyH.cons rfl (fun KK hKK => ?_) AllReadyH.nil
      (try simp only [List.getElem_toArray, List.getElem_cons_succ, List.getElem_cons_zero])
      go_simp
      go_at_call 39
      refine (HF4.out _ _ V12 (hB2w.out.below hb12 (Nat.le_refl _))).mono ?_
      rintro e V13 ⟨vX, rfl, ob13, hv13⟩
      obtain ⟨AX, cX, rfl, -⟩ := id (Bytes.of_own ob13)
      have oX13 := (Bytes.of_own ob13).mono (Q' := fun _ => True) fun _ _ _ => trivial
      have hb13 := hb12.trans (hv13.mono hb12.size)
      have oA13 := own_below oA12 hv13 (Nat.le_refl _)
      clear hv13 ob13
      refine hKK.out _ _ (HCC.out _ hb13) (fun hHeld => ?_)
      clear hKK KK
      (try simp only [List.getElem_toArray, List.getElem_cons_succ, List.getElem_cons_zero, Act.put, List.setIfInBounds_toArray, List.set_cons_zero, List.set_cons_succ])
      refine wpAnyH_ready (rs := [12]) (by kernel_rfl) (by simp) ?_
      refine AllReadyH.cons rfl (fun KK hKK => ?_) AllReadyH.nil
      refine step_append_bytes (by rfl) _ _ (by rfl) w1.heap.size _ ([2#8] ++ L2 ++ L3) (by rfl) oA13 _ (.slice AX L4.length cX) L4 (by rfl) oX13 (by simp only [List.length_append, List.length_singleton]; omega) hb13.size ?_
      intro vN14 V14 oA14 hv14
      have hb14 := hb13.trans hv14
      clear hv14
      refine hKK.out _ _ (HCC.out _ hb14) (fun hHeld => ?_)
      clear hKK KK
      (try simp only [List.getElem_toArray, List.getElem_cons_succ, List.getElem_cons_zero, Act.put, List.setIfInBounds_toArray, List.set_cons_zero, List.set_cons_succ])
      apply wpAnyH_take (i := 13) rfl (by kernel_rfl) (by kernel_rfl) (by kernel_rfl)
      case hQ => exact fun _ _ _ h => h
      case hS => exact hHeld
      case hy => (refine Or.inl ⟨by rfl, ?_⟩; intro w hSw; (try go_split_ands); go_simp; (try with_reducible rfl))
      (try simp only [List.getElem_toArray, List.getElem_cons_succ, List.getElem_cons_zero, Act.put, List.setIfInBounds_toArray, List.set_cons_zero, List.set_cons_succ])
      apply wpAnyH_take (i := 14) rfl (by kernel_rfl) (by kernel_rfl) (by kernel_rfl)
      case hQ => exact fun _ _ _ h => h
      case hS => exact hHeld
      case hy => (refine Or.inl ⟨by rfl, ?_⟩; intro w hSw; (try go_split_ands); go_simp; (try with_reducible rfl))
      (try simp only [List.getElem_toArray, List.getElem_cons_succ, List.getElem_cons_zero, Act.put, List.setIfInBounds_toArray, List.set_cons_zero, List.set_cons_succ])
      refine wpAnyH_done (by kernel_rfl) ?_ _
      have HV4 := Lib.hid ((Bytes.of_own oA14).mono (Q' := fun g => w.heap.size ≤ g) fun g _ h => by have h : w1.heap.size ≤ g := h; omega)
      have HG4 := Lib.hid (HG1.out.trans (hb14.mono (by omega)))
      clear hHeld
      go_wp2_with fail
      go_ret2
      rw [HEE.out]
      exact ⟨_, rfl, HV4.out, HG4.out⟩
end Go.Proofs.Ytknhnkmooaopmaa
