/-
  All of the reference.
-/
import Derived.Test.YtfokedbipicmoaaFldRead
import Derived.Test.YtfokedbipicmoaaKRows
namespace Go.Proofs.Ytfokedbipicmoaa
open Go Go.RowKit Sh Leaf

/-- b[k:] -/
theorem cut_rest (A : Option Addr) (b : List B8) (c k : Nat) (Q : Nat → Prop) (w : World) (h : Bytes w Q (.slice A b.length c) b) (hn : k ≤ b.length) :
    ∃ A' c', (∀ W, (Instr.sliceAt 22 (.slice A b.length c) (some (.int .i64 (k : Int))) none none).run Try.prog W = .ok (.slice A' (b.drop k).length c') W) ∧ Bytes w Q (.slice A' (b.drop k).length c') (b.drop k) := by
  have hd := h.drop k (by omega)
  refine ⟨_, _, fun W => ?_, by rw [List.length_drop]; exact hd⟩
  have := run_cut_from A b.length c k hn W
  rw [List.length_drop]
  exact this

set_option maxHeartbeats 2000000 in
theorem rall (v : Value) (b : List B8) (Q : Nat → Prop) (w : World) (hr : Bytes w Q v b) (hbl : b.length ≤ 1000000) :
    Calls Try.prog 20 #[v] w fun e w' => ∃ v', e = .returned (.tuple #[v', .int .i64 ((alls b).2 : Int)]) ∧ Lists w' v' (alls b).1 ∧ Below w.heap.size w w' := by
  obtain ⟨A, c, rfl, -⟩ := id hr
  have hlow := hr.mono (Q' := fun g => g < w.heap.size) fun g hg _ => hg
  clear hr
  go_enter Try.func20, Try.ntmps20
  go_wp2_with fail
  go_loopw [4, 0] (fun vo vb wr => ∃ (f : Nat) (acc : List (List B8)) (rest : List B8) (us : List Value) (A' : Option Addr) (c' : Nat), vb = .slice A' rest.length c' ∧ Bytes wr (fun g => g < w.heap.size) (.slice A' rest.length c') rest ∧ rest.length ≤ f ∧ Hid (allA f acc rest = alls b) ∧
      wr.ownsRow w.heap.size 22 1 vo us.length us ∧ Each wr w.heap.size us acc ∧ Below w.heap.size w wr ∧ us.length + rest.length ≤ b.length) (fun _ vb _ => vlen vb)
  case atStart => exact ⟨b.length, [], b, [], A, c, rfl, hlow, Nat.le_refl _, Lib.hid rfl, World.ownsRow_nil _ _ _ _, Each.nil _ _, Below.refl _ _, by simp⟩
  case round =>
    obtain ⟨f, acc, rest, us, A', c', rfl, hbt, hf, HA, hown, hea, hb, hcnt⟩ := hrel
    have hs := hb.size
    by_cases h0 : 0 < rest.length
    · have h0' : (0 : Int) < (rest.length : Int) := by omega
      rcases rdf_cases rest with ⟨e, he, h'⟩ | ⟨n, j, hrd, hj, hn, hjn, hlen, h'⟩
      · have HF := Lib.hid (allA_err (acc := acc) hf h0 he h')
        have HR := Lib.hid h'
        have he' : ¬ (e : Int) = 0 := by omega
        clear h' he hown hea hlow
        go_wp2_with fail
        refine (rread _ rest _ _ hbt).mono ?_
        rintro e1 w1 ⟨v1, rfl, hx1, hb1⟩
        rw [HR.out]
        obtain ⟨A1, c1, rfl, -⟩ := id hx1
        clear hx1 hbt
        go_wp2
        go_ret2
        refine ⟨.slice none 0 0, ?_, ?_, hb.trans (hb1.mono hs)⟩
        · rw [← HA.out, HF.out]; rfl
        · rw [← HA.out, HF.out]; exact Lists.nil _
      · obtain ⟨f, rfl⟩ : ∃ g, f = g + 1 := ⟨f - 1, by omega⟩
        obtain ⟨hstep, hf2⟩ := allA_ok (acc := acc) hf h0 h'
        have HF := Lib.hid hstep
        have HR := Lib.hid h'
        obtain ⟨q, hq⟩ : ∃ q, q = j + n := ⟨_, rfl⟩
        rw [← hq] at hjn hstep hf2 HF HR
        obtain ⟨A0, c0, e0, hrc, hcm, -⟩ := id hbt
        cases e0
        have hrest := hbt.drop q hjn
        have HREST := Lib.hid hrest
        have hcm' : c' ≤ 9223372036854775807 := by unfold maxLen at hcm; omega
        have hdl : rest.length - q = (rest.drop q).length := by simp
        have HDL := Lib.hid hdl
        have hq1 : (0 : Int) ≤ (q : Int) := by omega
        have hq2 : (q : Int) ≤ (rest.length : Int) := by omega
        have hq3 : 0 < q := by omega
        clear hstep h' hlow hrest hdl hcm hq
        go_wp2_with fail
        refine (rread _ rest _ _ hbt).mono ?_
        rintro e1 w1 ⟨v1, rfl, hx1, hb1⟩
        rw [HR.out] at hx1 ⊢
        have hb1' := hb1.mono hs
        have hown1 := own_below hown hb1 (Nat.le_refl _)
        have hea1 := hea.keep hb1' (Kb.below hb1)
        have hel := Elem.of_low (B := w.heap.size) hx1
        have hs1 := hb1.size
        have HB1 := Lib.hid hb1
        generalize (rest.drop j).take n = x at *
        obtain ⟨A1, c1, rfl, -⟩ := id hx1
        clear hx1 hbt hown hea hlen
        have hcase : c' = q ∨ ¬ c' = q := by omega
        rcases hcase with rfl | hne
        all_goals
          go_wp2
          go_region_held3 (fun _ => True) (trivial)
            (first
              | (refine step_append_elem (by rfl) _ _ (by rfl) w.heap.size _ us (by rfl) (hown1.alloc _) (.slice A1 x.length c1) rfl w1.heap.size 1 (by rfl) (by simp) (by omega) (by simp; omega) ?_; intro v2 w2 hown2 hb2 hk2 hg2))
        · have hnil : rest.drop c' = [] := List.drop_of_length_le hrc
          have HF2 := HF.out
          rw [hnil] at HF2
          have HF3 := Lib.hid HF2
          have hbw : Below w.heap.size wr w2 := hb1'.trans (((Below.refl _ _).alloc (by omega) _).drew.trans hb2)
          have hkw : Kb w1 w2 := ((Kb.alloc _ _).trans (Kb.drew _)).trans hk2
          have hbw1 : Below w.heap.size w1 w2 := (((Below.refl _ _).alloc (by omega) _).drew.trans hb2)
          have HE := Lib.hid ((hea1.keep hbw1 hkw).snoc (hel.keep hbw1 hkw))
          clear HF2 hnil
          go_wp2
          go_roundw
          case rel => exact ⟨f, acc ++ [x], [], us ++ [.slice A1 x.length c1], _, _, rfl, ⟨_, 0, rfl, by simp, by simp [maxLen], fun _ => rfl, fun h => absurd h (by simp)⟩, by simp, Lib.hid (HF3.out.symm.trans HA.out), hown2, HE.out, hb.trans hbw, by simp; omega⟩
          case measure => simp [vlen]; omega
        · have hbw : Below w.heap.size wr w2 := hb1'.trans (((Below.refl _ _).alloc (by omega) _).drew.trans hb2)
          have hkw : Kb w1 w2 := ((Kb.alloc _ _).trans (Kb.drew _)).trans hk2
          have hbw1 : Below w.heap.size w1 w2 := (((Below.refl _ _).alloc (by omega) _).drew.trans hb2)
          have HE := Lib.hid ((hea1.keep hbw1 hkw).snoc (hel.keep hbw1 hkw))
          have HV : Hid (Bytes w2 (fun g => g < w.heap.size) (.slice (A'.map (·.add q)) (rest.drop q).length (c' - q)) (rest.drop q)) := Lib.hid (by
            have hcv := HREST.out
            rw [if_neg hne, HDL.out] at hcv
            exact hcv.keep fun g _ hg => hbw.block g hg)
          go_wp2
          rw [HDL.out]
          go_roundw
          case rel => exact ⟨f, acc ++ [x], rest.drop q, us ++ [.slice A1 x.length c1], _, _, rfl, HV.out, by omega, Lib.hid (HF.out.symm.trans HA.out), hown2, HE.out, hb.trans hbw, by simp; omega⟩
          case measure => simp [vlen]; omega
    · have e0 : rest = [] := List.eq_nil_of_length_eq_zero (by omega)
      subst e0
      have HL := Lib.hid (Lists.of_own hown hea)
      clear hown hea hbt hlow
      go_wp2
      go_ret2
      exact ⟨_, by rw [← HA.out, allA_nil]; rfl, by rw [← HA.out, allA_nil]; exact HL.out, hb⟩
end Go.Proofs.Ytfokedbipicmoaa
