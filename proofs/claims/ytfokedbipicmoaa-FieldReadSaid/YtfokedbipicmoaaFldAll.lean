/-
  The iterator of package field.
-/
import Derived.Test.YtfokedbipicmoaaFldRead
import Derived.Test.YtfokedbipicmoaaFldRAll
import Derived.Test.YtfokedbipicmoaaKRows
import Derived.Test.YtfokedbipicmoaaKIter
import Derived.RangeFuncBound
import Derived.RangeFuncCalls
import Derived.RangeFuncLeaves
import Derived.RangeFuncBox
import Derived.Shelf.Abstract
import Derived.Shelf.RegionOpen
import Derived.OwnWalkIn
import Derived.TacticsInMore
import Derived.LoopNIn
import Derived.LoopIn
namespace Go.Proofs.Ytfokedbipicmoaa
open Go Go.RowKit Sh Leaf
open Go.Shelf
attribute [local go_sem] Oper.semAt_some

/-- What the iterator yields: a field as a slice value and as bytes, and the error. -/
structure Fe where
  v : Value
  x : List B8
  e : Nat
abbrev Fe.encs (y : Fe) : Array Value := #[y.v, .int .i64 (y.e : Int)]
def known (B : Nat) (y : Fe) (W : World) : Prop := Elem W B y.v y.x
def kept (B : Nat) (A C : World) : Prop := Below B A C ∧ Kb A C
def doneS (b : List B8) (ys : List Fe) : Prop := (∀ y ∈ ys, y.e = 0) → alls b = (ys.map (·.x), 0)
def stopS (b : List B8) (pre : List Fe) : Prop := ∀ p y, pre = p ++ [y] → y.e ≠ 0 → alls b = ([], y.e)

set_option maxRecDepth 100000 in
set_option maxHeartbeats 2000000 in
theorem fields1 (n : Nat) (hn : 1 ≤ n) (l Bn B : Nat) (A : Option Addr) (c : Nat) (b : List B8) (J Jx : List Fe → World → Prop) (gJ : Grows J)
    (hY : ∀ pre x W1, J pre W1 → known B x W1 → pre.length < b.length → YieldAt Fence.wide (n - 1) Try.prog l x.encs W1 fun e W' => (e = .returned (.bool true) ∧ J (pre ++ [x]) W' ∧ kept B W1 W') ∨ (e = .returned (.bool false) ∧ Jx (pre ++ [x]) W'))
    (W : World) (hB : B ≤ W.heap.size) (hbox : W.cell? ⟨Bn, 0, none⟩ = some (.slice A b.length c)) (hb : Bytes W (fun g => g < B) (.slice A b.length c) b) (h0 : J [] W) :
    CallsIn Fence.wide n Try.prog 31 #[.func (.yield l) #[] #[], .pointer (some ⟨Bn, 0, none⟩)] W fun e W' => (∃ v, e = .returned v) ∧ ((∃ xs, doneS b xs ∧ J xs W') ∨ (∃ pre, stopS b pre ∧ Jx pre W')) := by
  refine callsIn_of_wp Try.func31 rfl trivial ?_ rfl
  simp only [Try.ntmps31, List.size_toArray, List.length_cons, List.length_nil, Nat.reduceAdd, Nat.reduceSub, Array.replicate_succ, Array.replicate_zero, List.push_toArray, List.append_toArray, List.nil_append, List.cons_append]
  gi_wp2
  gi_loopw [3] (fun vb wr => ∃ (f : Nat) (pre : List Fe) (rest : List B8) (A' : Option Addr) (c' : Nat), vb = .slice A' rest.length c' ∧ Bytes wr (fun g => g < B) (.slice A' rest.length c') rest ∧ rest.length ≤ f ∧ Hid (allA f (pre.map (·.x)) rest = alls b) ∧ (∀ y ∈ pre, y.e = 0) ∧ J pre wr ∧ B ≤ wr.heap.size ∧ pre.length + rest.length ≤ b.length) (fun vb _ => vlen vb)
  case atStart => exact ⟨b.length, [], b, A, c, rfl, hb, Nat.le_refl _, Lib.hid rfl, by simp, h0, hB, by simp⟩
  case round =>
    obtain ⟨f, pre, rest, A', c', rfl, hbt, hf, HA, hz, hJ, hBw, hcnt⟩ := hrel
    have HZ := Lib.hid hz
    clear hz hb hbox h0 hB
    by_cases h0 : 0 < rest.length
    · have h0' : (0 : Int) < (rest.length : Int) := by omega
      rcases rdf_cases rest with ⟨e, he, h'⟩ | ⟨n', j, hrd, hj, hn', hjn, hlen, h'⟩
      · have HF := Lib.hid (allA_err (acc := pre.map (·.x)) hf h0 he h')
        have HR := Lib.hid h'
        have he' : ¬ (e : Int) = 0 := by omega
        clear h' hf
        gi_wp2_with (refine ⟨trivial, ?_⟩; gi_at_call 14; refine (callsIn_wide.2 (fread _ rest _ _ hbt)).mono ?_; rintro e1 w1 ⟨v1, rfl, ho1, hb1⟩; rw [HR.out] at ho1 ⊢; obtain ⟨fn, tmps, assign, body, hy, hR⟩ := hY pre ⟨v1, [], e⟩ w1 (gJ _ _ _ hJ hb1) (Elem.of_own ho1) (by omega); dsimp only [Fe.encs] at hy)
        refine hR.mono ?_
        rintro e2 W3 (⟨rfl, hJ3, hk3⟩ | ⟨rfl, hJx3⟩)
        · gi_wp2
          refine bodyPost_ret (results_none rfl _ _ _) rfl ?_
          exact ⟨⟨_, rfl⟩, .inl ⟨_, fun hall => absurd (hall ⟨v1, [], e⟩ (by simp)) he, hJ3⟩⟩
        · gi_wp2
          refine bodyPost_ret (results_none rfl _ _ _) rfl ?_
          refine ⟨⟨_, rfl⟩, .inr ⟨_, fun p y hp hy0 => ?_, hJx3⟩⟩
          have := (List.append_inj' hp rfl).2
          simp at this
          subst this
          rw [← HA.out, HF.out]
      · obtain ⟨f, rfl⟩ : ∃ g, f = g + 1 := ⟨f - 1, by omega⟩
        obtain ⟨hstep, hf2⟩ := allA_ok (acc := pre.map (·.x)) hf h0 h'
        have HF := Lib.hid hstep
        have HR := Lib.hid h'
        have HREST := Lib.hid (hbt.drop (j + n') hjn)
        obtain ⟨A0, c0, e0, hrc, hcm, -⟩ := id hbt
        cases e0
        have hcm' : c' ≤ 9223372036854775807 := by unfold maxLen at hcm; omega
        obtain ⟨q, hq⟩ : ∃ q, q = j + n' := ⟨_, rfl⟩
        rw [← hq] at hjn hf2 HF HR HREST
        have hq3 : 0 < q := by omega
        have hdl : rest.length - q = (rest.drop q).length := by simp
        have HDL := Lib.hid hdl
        have hq1 : (0 : Int) ≤ (q : Int) := by omega
        have hq2 : (q : Int) ≤ (rest.length : Int) := by omega
        clear h' hf hstep hcm hq hdl hlen hrd
        generalize (rest.drop j).take n' = x at *
        gi_wp2_with (refine ⟨trivial, ?_⟩; gi_at_call 14; refine (callsIn_wide.2 (fread _ rest _ _ hbt)).mono ?_; rintro e1 w1 ⟨v1, rfl, ho1, hb1⟩; rw [HR.out] at ho1 ⊢; obtain ⟨fn, tmps, assign, body, hy, hR⟩ := hY pre ⟨v1, x, 0⟩ w1 (gJ _ _ _ hJ hb1) (Elem.of_own ho1) (by omega); dsimp only [Fe.encs] at hy; rw [show ((0 : Nat) : Int) = 0 by rfl] at hy)
        refine hR.mono ?_
        rintro e2 W3 (⟨rfl, hJ3, hk3⟩ | ⟨rfl, hJx3⟩)
        · have hcase : c' = q ∨ ¬ c' = q := by omega
          have hs1 := hb1.size
          have hs3 := hk3.1.size
          have HZ2 : Hid (∀ y ∈ pre ++ [(⟨v1, x, 0⟩ : Fe)], y.e = 0) := Lib.hid (by
            intro y hy0
            rcases List.mem_append.1 hy0 with h | h
            · exact HZ.out y h
            · simp at h; rw [h])
          have HA2 : Hid (allA f ((pre ++ [(⟨v1, x, 0⟩ : Fe)]).map (fun y => y.x)) (rest.drop q) = alls b) := Lib.hid (by rw [← HA.out, HF.out]; simp)
          rcases hcase with rfl | hne
          · have hnil : rest.drop c' = [] := List.drop_of_length_le hrc
            have HA3 := HA2.out
            rw [hnil] at HA3
            have HA4 := Lib.hid HA3
            clear HA3 hnil
            gi_wp2
            go_roundw
            case rel => exact ⟨f, _, [], _, _, rfl, ⟨_, 0, rfl, by simp, by simp [maxLen], fun _ => rfl, fun h => absurd h (by simp)⟩, by simp, HA4, HZ2.out, hJ3, by omega, by simp; omega⟩
            case measure => simp [vlen]; omega
          · have HV : Hid (Bytes W3 (fun g => g < B) (.slice (A'.map (·.add q)) (rest.drop q).length (c' - q)) (rest.drop q)) := Lib.hid (by
              have hcv := HREST.out
              rw [if_neg hne, HDL.out] at hcv
              exact hcv.keep fun g hgs hg => (hk3.1.block g hg).trans (hb1.block g hgs))
            gi_wp2
            rw [HDL.out]
            go_roundw
            case rel => exact ⟨f, _, rest.drop q, _, _, rfl, HV.out, by omega, HA2, HZ2.out, hJ3, by omega, by simp; omega⟩
            case measure => simp [vlen]; omega
        · gi_wp2
          refine bodyPost_ret (results_none rfl _ _ _) rfl ?_
          refine ⟨⟨_, rfl⟩, .inr ⟨_, fun p y hp hy0 => ?_, hJx3⟩⟩
          have := (List.append_inj' hp rfl).2
          simp at this
          subst this
          exact absurd rfl hy0
    · have e0 : rest = [] := List.eq_nil_of_length_eq_zero (by omega)
      subst e0
      gi_wp2
      go_end0
      refine ⟨⟨_, rfl⟩, .inl ⟨pre, fun _ => ?_, hJ⟩⟩
      rw [← HA.out, allA_nil]
end Go.Proofs.Ytfokedbipicmoaa
