/-
  The reference's Encode.
-/
import Derived.Test.YtpodgmmgphibfaaDoorPk27
import Derived.Test.YtpodgmmgphibfaaDoorPk30
namespace Go.Proofs.YtpodgmmgphibfaaDoor
open Go Go.RowKit Sh Leaf

/-- append to a row of the call's own, and which block it turns. -/
theorem run_append_grown {w : World} (ty : TypeId) (base : Nat) (v : Value) (xs : List B8) (hown : Own w base v xs) (Q : Nat → Prop) (v2 : Value) (ys : List B8) (hr : Bytes w Q v2 ys) (h47 : xs.length + ys.length ≤ 140737488355328) (hbase : base ≤ w.heap.size) :
    ∃ v' w', (Builtin.append_ #[37, 37] ty #[v, v2]).run Tryd.prog w = .ok v' w' ∧ Own w' base v' (xs ++ ys) ∧ Below base w w' ∧ (v' = v ∧ w' = w ∨ w.grownBy w' v.ownBlock) := by
  obtain ⟨i0, hi, hz0, hz1, hz2⟩ := info_parts byteInfo
  obtain ⟨v', w', hrun, h1, h2⟩ := run_append_bytes ty base v xs hown Q v2 ys hr h47 hbase
  refine ⟨v', w', hrun, h1, h2, ?_⟩
  obtain ⟨A, c, hv, hc1, hc2, hc3, hc4⟩ := hr
  cases A with
  | none =>
    have h0 := hc3 rfl
    subst h0
    have hy : ys = [] := List.eq_nil_of_length_eq_zero (by omega)
    subst hy
    have e := run_append_owned_none w base 37 ty 5 i0 1 Tryd.underlying37 hi v xs.length (xs.map byt) hown
    rw [hv, List.length_nil] at hrun
    rw [hrun] at e
    injection e with e1 e2
    exact .inl ⟨e1, e2⟩
  | some ad =>
    obtain ⟨v'', w'', hrun', _, h4⟩ := run_append_own w base 37 ty 5 i0 (.int .u8 0) 1 1 Tryd.underlying37 hi hz0 hz1 hz2 rfl (by decide) v xs.length (xs.map byt) hown ad ys.length c (ys.map byt) (by simp)
      (by
        intro j b hb
        have hj : j < ys.length := by
          have := (List.getElem?_eq_some_iff.1 hb).1
          simpa using this
        obtain ⟨g, o, hA, _, hcell⟩ := hc4 (by omega)
        obtain rfl := Option.some.inj hA
        rw [Addr.add_mid]
        rw [List.getElem?_map, List.getElem?_eq_getElem hj] at hb
        obtain rfl := Option.some.inj hb
        exact hcell j _ (List.getElem?_eq_getElem hj)) (byt_one ys) (by unfold maxLen; omega) (by omega) hbase
    rw [hv, hrun'] at hrun
    injection hrun with e1 e2
    subst e1 e2
    exact .inr h4.1
theorem wpList_append_grown {w : World} {ops : Array Oper} {rest : List Oper} {o : Oper} {a : Act} {R : Exit → Act → World → Prop} (hw : Region.wanted o (yielded ops a.tmps) = true) (s x : Operand)
    (ho : o.op = .call { callee := .builtin .append, args := #[s, x], argTypes := #[37, 37] })
    (base : Nat) (v : Value) (xs : List B8) (hs : a.eval s = v) (hown : Own w base v xs)
    (Q : Nat → Prop) (v2 : Value) (ys : List B8) (hx : a.eval x = v2) (hr : Bytes w Q v2 ys) (h47 : xs.length + ys.length ≤ 140737488355328) (hbase : base ≤ w.heap.size)
    (h : ∀ v' w', Own w' base v' (xs ++ ys) → Below base w w' → (v' = v ∧ w' = w ∨ w.grownBy w' v.ownBlock) → wpList Tryd.prog ops R rest (a.put o.dst v') w') : wpList Tryd.prog ops R (o :: rest) a w := by
  obtain ⟨v', w', hrun, h1, h2, h3⟩ := run_append_grown o.type base v xs hown Q v2 ys hr h47 hbase
  show if Region.wanted o (yielded ops a.tmps) then _ else _
  rw [if_pos hw]
  left
  unfold Oper.wp
  simp [execOp, ho, resolve, invoke, builtin, hs, hx, hrun, Result.andThen]
  exact h v' w' h1 h2 h3
theorem step_append_grown {w : World} {ops : Array Oper} {o : Oper} {a : Act} {K : Act → World → Prop} {R : Exit → Act → World → Prop} {E : Prop} (hw : Region.wanted o (yielded ops a.tmps) = true) (s x : Operand)
    (ho : o.op = .call { callee := .builtin .append, args := #[s, x], argTypes := #[37, 37] })
    (base : Nat) (v : Value) (xs : List B8) (hs : a.eval s = v) (hown : Own w base v xs)
    (Q : Nat → Prop) (v2 : Value) (ys : List B8) (hx : a.eval x = v2) (hr : Bytes w Q v2 ys) (h47 : xs.length + ys.length ≤ 140737488355328) (hbase : base ≤ w.heap.size)
    (h : ∀ v' w', Own w' base v' (xs ++ ys) → Below base w w' → (v' = v ∧ w' = w ∨ w.grownBy w' v.ownBlock) → K (a.put o.dst v') w') :
    if Region.wanted o (yielded ops a.tmps) = true then Oper.wp Tryd.prog o a w K R else E := by
  rw [if_pos hw]
  obtain ⟨v', w', hrun, h1, h2, h3⟩ := run_append_grown o.type base v xs hown Q v2 ys hr h47 hbase
  unfold Oper.wp
  simp [execOp, ho, resolve, invoke, builtin, hs, hx, hrun, Result.andThen]
  exact h v' w' h1 h2 h3
theorem below_step {B : Nat} {a W w' : World} (hb : Below W.heap.size W w') (h : Below B a W) (hB : B ≤ a.heap.size) : Below B a w' := h.trans (hb.mono (Nat.le_trans hB h.size))
/-- A row of the call's own stays when an older row grows. -/
theorem own_beside {w w' : World} {base B : Nat} {v v' u : Value} {xs ys : List B8} (hu : Own w B u ys) (hv : Own w base v xs) (hvB : ∀ k, v.ownBlock = some k → k < B) (hg : v' = v ∧ w' = w ∨ w.grownBy w' v.ownBlock) : Own w' B u ys := by
  rcases hg with ⟨_, rfl⟩ | hg
  · exact hu
  · refine World.ownsRow.kept hu hg ?_
    cases hk : u.ownBlock with
    | none => exact .inl rfl
    | some k =>
      refine .inr fun e => ?_
      have h1 := (World.ownsRow.lt hu k hk).1
      have h2 := hvB k e.symm
      omega
theorem own_lt {w : World} {base : Nat} {v : Value} {xs : List B8} (h : Own w base v xs) {B : Nat} (hB : w.heap.size ≤ B) : ∀ k, v.ownBlock = some k → k < B := fun k hk => by have := (World.ownsRow.lt h k hk).2; omega
set_option linter.unusedVariables false in
set_option maxRecDepth 100000 in
set_option maxHeartbeats 2000000 in
theorem rencode (p : Prd) (hm : p.mask < 18446744073709551616) (hn : p.name.length ≤ 9223372036854775807) (w : World) :
    Calls Tryd.prog 22 #[pv p] w fun e w' => ∃ v', e = .returned (.tuple #[v', .int .i64 ((ed p).2 : Int)]) ∧ Own w' w.heap.size v' (ed p).1 ∧ Below w.heap.size w w' := by
  have hv := rvalid p hm hn
  by_cases hp : pok p
  case neg =>
    have hf : ed p = ([], 5) := by unfold ed; rw [if_neg hp]
    rw [hf]
    have hv2 : ∀ W, Calls Tryd.prog 13 #[pv p] W fun e w' => e = .returned (.bool false) ∧ Below W.heap.size W w' := fun W => by have := hv W; rw [decide_eq_false hp] at this; exact this
    clear hf hv hp
    obtain ⟨k, m, lo, hi, nm, nu⟩ := p
    unfold pv at hv2 ⊢
    simp only at hm hn hv2 ⊢
    go_enter Tryd.func22, Tryd.ntmps22
    go_wp2_with (first | (go_at_call 13; refine (hv2 _).mono ?_; rintro e w1 ⟨rfl, hb1⟩))
    go_ret2
    exact ⟨_, rfl, own_nil _ _, ((Below.refl w.heap.size w).alloc (Nat.le_refl _) _).trans (hb1.mono (by simp))⟩
  have hf : ed p = (en p, 0) := by unfold ed; rw [if_pos hp]
  rw [hf]
  have hv2 : ∀ W, Calls Tryd.prog 13 #[pv p] W fun e w' => e = .returned (.bool true) ∧ Below W.heap.size W w' := fun W => by have := hv W; rw [decide_eq_true hp] at this; exact this
  clear hf hv
  obtain ⟨k, m, lo, hi, nm, nu⟩ := p
  unfold pv at hv2 ⊢
  have hk := pok_kind hp
  obtain ⟨k, rfl⟩ := Int.eq_ofNat_of_zero_le (show 0 ≤ k by have := hk.1; simp only at this; omega)
  have hE : en ⟨(k : Int), m, lo, hi, nm, nu⟩ = enc k ++ ebody ⟨(k : Int), m, lo, hi, nm, nu⟩ := by unfold en; simp only [Int.toNat_natCast]
  rw [hE]
  clear hE
  obtain ⟨EB, hEB⟩ : ∃ EB, EB = ebody ⟨(k : Int), m, lo, hi, nm, nu⟩ := ⟨_, rfl⟩
  rw [← hEB]
  unfold pok at hp
  simp only at hm hn hv2 hp hk ⊢
  have hk7 : 1 ≤ k ∧ k ≤ 7 := by omega
  have hek : (enc k).length ≤ 7 := enc_len7 (by omega)
  go_enter Tryd.func22, Tryd.ntmps22
  go_wp2_with fail
  refine (hv2 _).mono ?_
  rintro e w1 ⟨rfl, hb1⟩
  have hW1 : PRow w1 w.heap.size k m lo hi nm nu := (Whole.here w _ _).below hb1 (by simp)
  obtain ⟨c0, c1, c2, c3, c4, c5⟩ := hW1.cells
  have HW1 := Lib.hid hW1
  have HB1 := Lib.hid (((Below.refl w.heap.size w).alloc (Nat.le_refl _) _).trans (hb1.mono (by simp)))
  have hg1 := hW1.lt
  clear hW1 hb1 hv2
  go_wp2_with fail
  refine (number k w1 (by omega)).mono ?_
  rintro e w2 ⟨v2, rfl, ho2, hb2⟩
  have hW2 : PRow w2 w.heap.size k m lo hi nm nu := HW1.out.below hb2 hg1
  obtain ⟨c0, c1, c2, c3, c4, c5⟩ := hW2.cells
  have HW2 := Lib.hid hW2
  have HB2 := Lib.hid (HB1.out.trans (hb2.mono HB1.out.size))
  have HO2 := Lib.hid (own_mono ho2 (Nat.le_of_lt hg1))
  have HOO := Lib.hid ho2
  have hg12 : w1.heap.size ≤ w2.heap.size := hb2.size
  have hgw := hg1
  have hg2 := hW2.lt
  clear hW2 hb2 ho2 HW1 HB1 hg1
  rcases (by omega : k ≤ 3 ∨ (4 ≤ k ∧ k ≤ 5) ∨ k = 6 ∨ k = 7) with hk3 | ⟨hk4, hk5⟩ | rfl | rfl
  · have HE : Hid (EB = be8 m) := Lib.hid (by rw [hEB]; unfold ebody; exact if_pos (show (k : Int) ≤ 3 by omega))
    have hkk : (k : Int) = 1 ∨ (k : Int) = 2 ∨ (k : Int) = 3 := by omega
    clear hEB hp hk
    rcases hkk with hkk | hkk | hkk
    all_goals
      go_wp2_with fail
      refine (eight m w2).mono ?_
      rintro e w3 ⟨v3, rfl, ho3, hb3⟩
      have HB3 := Lib.hid (HB2.out.trans (hb3.mono HB2.out.size))
      have hO3 := own_below HO2.out hb3 (Nat.le_refl _)
      have hs3 := HB3.out.size
      have h8 := be8_length m
      clear hb3
      go_wp2_with (at_builtin; go_must (refine wpList_append_grown rfl _ _ rfl w.heap.size v2 (enc k) rfl hO3 _ v3 (be8 m) rfl (Bytes.of_own ho3) (by omega) hs3 ?_; intro v4 w4 ho4 hb4 _))
      go_ret2
      rw [HE.out]
      exact ⟨_, rfl, ho4, HB3.out.trans hb4⟩
  · have hEB1 : EB = enc lo.toNat ++ enc hi.toNat := by rw [hEB]; unfold ebody; exact (if_neg (show ¬ (k : Int) ≤ 3 by omega)).trans (if_pos (show (k : Int) ≤ 5 by omega))
    clear hEB
    obtain ⟨lo, rfl⟩ := Int.eq_ofNat_of_zero_le (show 0 ≤ lo by omega)
    obtain ⟨hi, rfl⟩ := Int.eq_ofNat_of_zero_le (show 0 ≤ hi by omega)
    simp only [Int.toNat_natCast] at hEB1
    have HE := Lib.hid hEB1
    clear hEB1
    have hlo : lo ≤ 67108864 := by omega
    have hhi : hi ≤ 67108864 := by omega
    have hel : (enc lo).length ≤ 7 := enc_len7 (by omega)
    have heh : (enc hi).length ≤ 7 := enc_len7 (by omega)
    have hkk : (k : Int) = 4 ∨ (k : Int) = 5 := by omega
    have hcc : ∀ W, Below w1.heap.size w2 W → (W.cell? ⟨w.heap.size, 2, none⟩ = some (.int .i64 (lo : Int)) ∧ W.cell? ⟨w.heap.size, 3, none⟩ = some (.int .i64 (hi : Int))) := fun W hb => ⟨(PRow.cells (Whole.below HW2.out hb hgw)).2.2.1, (PRow.cells (Whole.below HW2.out hb hgw)).2.2.2.1⟩
    have hc0 := hcc w2 (Below.refl _ _)
    have hOd : Hid (Own w2.drew w1.heap.size v2 (enc k)) := Lib.hid HOO.out
    clear hp hk
    rcases hkk with hkk | hkk
    all_goals
      go_wp2_with fail
      go_region_held3 (fun W => W.cell? ⟨w.heap.size, 2, none⟩ = some (.int .i64 (lo : Int)) ∧ W.cell? ⟨w.heap.size, 3, none⟩ = some (.int .i64 (hi : Int))) (first | exact hc0 | assumption | go_keep)
        (first
          | (have hX4' := hX4; go_at_call 53; refine (number hi _ (by omega)).mono ?_; rintro e wB ⟨vB, rfl, hoB, hbB⟩; have hXB : Below w1.heap.size w2 wB := below_step hbB hX4' hg12; have hsB := hcc wB hXB; have ho4B := own_below ho4 hbB (Nat.le_refl _))
          | (go_at_call 53; refine (number lo _ (by omega)).mono ?_; rintro e wA ⟨vA, rfl, hoA, hbA⟩; have hXA : Below w1.heap.size w2 wA := (below_step (W := w2.drew) hbA (Below.drew (Below.refl w1.heap.size w2)) hg12); have hsA := hcc wA hXA; have hownA := own_below hOd.out hbA (Nat.le_refl _))
          | (refine step_append_grown (by rfl) (.tmp 25) (.tmp 28) (by rfl) w1.heap.size v2 (enc k) (by rfl) hownA _ vA (enc lo) (by rfl) (Bytes.of_own hoA) (by omega) (Nat.le_trans hg12 hXA.size) ?_; intro v4 w4 ho4 hb4 _; have hX4 := Below.trans hXA hb4; have hs4 := hcc w4 hX4)
          | (refine step_append_grown (by rfl) (.tmp 29) (.tmp 32) (by rfl) w1.heap.size v4 (enc k ++ enc lo) (by rfl) ho4B _ vB (enc hi) (by rfl) (Bytes.of_own hoB) (by rw [List.length_append]; omega) (Nat.le_trans hg12 hXB.size) ?_; intro v5 w5 ho5 hb5 _; have hX5 := Below.trans hXB hb5; have hs5 := hcc w5 hX5))
      have HF := Lib.hid (own_mono ho5 (Nat.le_of_lt hgw))
      have HB5 := Lib.hid (HB2.out.trans (hX5.mono (Nat.le_of_lt hgw)))
      clear hX5 hX4 hXA hXB hs5 hs4 hsA hsB ho5 ho4 ho4B hownA hoA hoB hb4 hb5 hbA hbB hc0
      go_wp2
      go_ret2
      rw [HE.out, ← List.append_assoc]
      exact ⟨_, rfl, HF.out, HB5.out⟩
  · have HE : Hid (EB = fld nm) := Lib.hid (by rw [hEB]; rfl)
    clear hEB
    have hnm : nm.length ≤ 16 := by
      have : nmok nm := by
        rcases hp with h | h | h | h | h | h | h
        all_goals first | (exact h.2.2.2.2.1) | (have := h.1; omega)
      exact this.2.1
    have hcv := fun W => conv_str (sof nm) W
    clear hp hk
    have hM := (own_str (sof nm) (by rw [sof_size]; omega) w2 w2.heap.size (Nat.le_refl _)).bytes
    rw [sbytes_sof] at hM
    have hbm := ((Below.refl w2.heap.size w2).alloc (Nat.le_refl _) (Obj.cells (strRow (sof nm) w2) 5 ((strRow (sof nm) w2).size, (strRow (sof nm) w2).size + 1))).drew
    have hO := own_below HO2.out hbm (Nat.le_refl _)
    have hap := rfield _ nm _ _ hM (by omega)
    have HAP := Lib.hid hap
    have HBW := Lib.hid (HB2.out.trans (hbm.mono HB2.out.size))
    have HO := Lib.hid hO
    clear hM hO hap hbm
    go_wp2_with fail
    refine HAP.out.mono ?_
    rintro e w4 ⟨v4, rfl, ho4, hb4⟩
    have HB4 := Lib.hid (HBW.out.trans (hb4.mono HBW.out.size))
    have hO4 := own_below HO.out hb4 (Nat.le_refl _)
    have hs4 := HB4.out.size
    have hfl : (fld nm).length ≤ 30 := by unfold fld; rw [List.length_append]; have := enc_len7 (n := nm.length) (by omega); omega
    clear hb4
    go_wp2_with (at_builtin; go_must (refine wpList_append_grown rfl _ _ rfl w.heap.size v2 (enc 6) rfl hO4 _ v4 (fld nm) rfl (Bytes.of_own ho4) (by omega) hs4 ?_; intro v5 w5 ho5 hb5 _))
    go_ret2
    rw [HE.out]
    exact ⟨_, rfl, ho5, HB4.out.trans hb5⟩
  · have hEB1 : EB = enc nu.toNat := by rw [hEB]; rfl
    clear hEB
    obtain ⟨nu, rfl⟩ := Int.eq_ofNat_of_zero_le (show 0 ≤ nu by omega)
    simp only [Int.toNat_natCast] at hEB1
    have HE := Lib.hid hEB1
    clear hEB1
    have hnu : nu ≤ 1000000 := by omega
    clear hp hk
    go_wp2_with fail
    refine (number nu w2 (by omega)).mono ?_
    rintro e w3 ⟨v3, rfl, ho3, hb3⟩
    have HB3 := Lib.hid (HB2.out.trans (hb3.mono HB2.out.size))
    have hO3 := own_below HO2.out hb3 (Nat.le_refl _)
    have hs3 := HB3.out.size
    have h8 := enc_len7 (n := nu) (by omega)
    clear hb3
    go_wp2_with (at_builtin; go_must (refine wpList_append_grown rfl _ _ rfl w.heap.size v2 (enc 7) rfl hO3 _ v3 (enc nu) rfl (Bytes.of_own ho3) (by omega) hs3 ?_; intro v4 w4 ho4 hb4 _))
    go_ret2
    rw [HE.out]
    exact ⟨_, rfl, ho4, HB3.out.trans hb4⟩
end Go.Proofs.YtpodgmmgphibfaaDoor
