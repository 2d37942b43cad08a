/-
  The laws VarintOrder, VarintUnique: true, for all arguments.
-/
import Derived.Test.YtdlbichdjgbedaaVarAwake
import Derived.Test.YtdlbichdjgbedaaKDeck
namespace Go.Proofs.Ytdlbichdjgbedaa
open Go Go.RowKit Sh Leaf

/-- The greatest number of an encoding, by name: a large numeral in sight costs the walk. -/
@[irreducible] def maxNum : Nat := 281474976710656
theorem maxNum_eq : maxNum = 281474976710656 := by unfold maxNum; rfl
set_option maxRecDepth 100000 in
theorem within_max (x : Int) (hx : -9223372036854775808 ≤ x ∧ x ≤ 9223372036854775807) (w : World) :
    Calls Try.prog 15 #[.int .i64 x, .int .i64 281474976710657] w fun e w' => (∃ i : Nat, i ≤ maxNum ∧ e = .returned (.int .i64 i)) ∧ w' = w :=
  (within_ x 281474976710657 (by omega) (by omega) hx w).mono fun e w' h => by
    obtain ⟨⟨i, hi, he⟩, hw⟩ := h
    exact ⟨⟨i, by rw [maxNum_eq]; omega, he⟩, hw⟩

theorem append_max (v : Value) (l : List B8) (Q : Nat → Prop) (n : Nat) (w : World) (hr : Bytes w Q v l) (hl : l.length ≤ 1000000) (hn : n ≤ maxNum) :
    Calls Try.prog 8 #[v, .int .i64 (n : Int)] w fun e w' => ∃ v', e = .returned (.tuple #[v', .int .i64 0]) ∧ Own w' w.heap.size v' (l ++ enc n) ∧ Below w.heap.size w w' :=
  append_ok v l Q n w hr hl (by rw [maxNum_eq] at hn; exact hn)

set_option maxRecDepth 100000 in
set_option maxHeartbeats 1000000 in
theorem order_law (a b : Int) (ha : -9223372036854775808 ≤ a ∧ a ≤ 9223372036854775807) (hb : -9223372036854775808 ≤ b ∧ b ≤ 9223372036854775807) (w : World) :
    Calls Try.prog 7 #[.int .i64 a, .int .i64 b] w fun e w' => e = .returned (.bool true) ∧ Below w.heap.size w w' := by
  go_enter Try.func7, Try.ntmps7
  go_wp2_with fail
  refine (within_max a ha _).mono ?_
  rintro e w1 ⟨⟨i, hi, rfl⟩, rfl⟩
  go_wp2_with fail
  refine (within_max b hb _).mono ?_
  rintro e w2 ⟨⟨j, hj, rfl⟩, rfl⟩
  have hij : ∃ s t : Nat, (s < t ∧ s = i ∧ t = j) ∨ (s < t ∧ s = j ∧ t = i) ∨ (s = t ∧ s = i ∧ t = j) := by
    rcases Nat.lt_trichotomy i j with h | h | h
    · exact ⟨i, j, .inl ⟨h, rfl, rfl⟩⟩
    · exact ⟨i, j, .inr (.inr ⟨h, rfl, rfl⟩)⟩
    · exact ⟨j, i, .inr (.inl ⟨h, rfl, rfl⟩)⟩
  obtain ⟨s, t, hst⟩ := hij
  have hm := Lib.hid (show (enc s).length ≤ (enc t).length from enc_mono t s (by omega))
  have hp := Lib.hid (enc_pos s)
  have h7 : (enc t).length ≤ 7 := enc_len7 (by rw [maxNum_eq] at hi hj; omega)
  rcases hst with ⟨hlt, rfl, rfl⟩ | ⟨hlt, rfl, rfl⟩ | ⟨rfl, rfl, rfl⟩
  all_goals
    go_wp2_with fail
    refine (append_max _ [] (fun _ => True) _ _ (Bytes.nil _ _) (by simp) (by assumption)).mono ?_
    rintro e w3 ⟨v1, rfl, hown, hb1⟩
    go_wp2_with fail
    refine (append_max _ [] (fun _ => True) _ _ (Bytes.nil _ _) (by simp) (by assumption)).mono ?_
    rintro e w4 ⟨v2, rfl, hown2, hb2⟩
    rw [List.nil_append] at hown hown2
    obtain ⟨A1, c1, rfl, -⟩ := id (Bytes.of_own hown)
    obtain ⟨A2, c2, rfl, -⟩ := id (Bytes.of_own hown2)
    have hq := hb1.trans (hb2.mono hb1.size)
    have hp' := hp.out
    have hm' := hm.out
    clear hown hown2 hb1 hb2
    go_wp2_with (go_at_call 13; refine (vawake _).mono ?_; rintro e w5 ⟨rfl, hb5⟩)
    go_ret
    exact ⟨rfl, hq.trans (hb5.mono hq.size)⟩

set_option maxRecDepth 100000 in
set_option maxHeartbeats 1000000 in
theorem unique_law (A : Option Addr) (l : List B8) (c : Nat) (Q : Nat → Prop) (w : World) (hb : Bytes w Q (.slice A l.length c) l) :
    Calls Try.prog 6 #[.slice A l.length c] w fun e w' => e = .returned (.bool true) ∧ Below w.heap.size w w' := by
  obtain ⟨A0, c0, e0, h1, h2, h3, h4⟩ := id hb
  cases e0
  obtain ⟨N, hN, p, hp, hpN⟩ : ∃ N : Nat, ((20 < l.length ∧ N = 20) ∨ (l.length < 20 ∧ N = l.length) ∨ (l.length ≤ 20 ∧ 20 ≤ l.length ∧ N = l.length)) ∧ ∃ p : List B8, Bytes w Q (.slice A N c) p ∧ p.length = N := by
    have hp := hb.cut 20
    rcases Nat.lt_trichotomy l.length 20 with h | h | h
    · exact ⟨_, .inr (.inl ⟨h, rfl⟩), l, hb, rfl⟩
    · exact ⟨_, .inr (.inr ⟨by omega, by omega, rfl⟩), l, hb, rfl⟩
    · have e : (l.take 20).length = 20 := by simp; omega
      rw [e] at hp
      exact ⟨_, .inl ⟨h, rfl⟩, _, hp, e⟩
  have hc20 : N ≤ c := by omega
  have hN20 : p.length ≤ 20 := by omega
  unfold maxLen at h2
  obtain ⟨n, k, e, hrd⟩ : ∃ n k e, rd p = (n, k, e) := ⟨_, _, _, rfl⟩
  have HQ : Hid (e = 0 → k ≤ p.length ∧ n ≤ 281474976710656 ∧ enc n = p.take k) := Lib.hid (by rintro rfl; exact rd_unique hrd)
  have HE : Hid (e ≠ 0 → n = 0 ∧ k = 0) := Lib.hid (fun h => rd_err hrd h)
  have HR := Lib.hid hrd
  have HN := Lib.hid hpN
  clear hb h4 h3 hrd hpN
  rcases hN with ⟨hlt, rfl⟩ | ⟨hlt, rfl⟩ | ⟨hlt, hge, rfl⟩
  all_goals
    go_enter Try.func6, Try.ntmps6
    go_wp2_with fail
    refine (read_ _ p Q _ hp).mono ?_
    rintro e1 w1 ⟨rfl, hb1⟩
    rw [HR.out]
    have hp1 := hp.below hb1 (Nat.le_refl _)
    by_cases he : e = 0
    · subst he
      obtain ⟨hk, hn, hen⟩ := HQ.out rfl
      have hpt := hp1.take k hk
      have HEN := Lib.hid hen
      have HNN := Lib.hid hn
      rw [HN.out] at hk
      clear hen hn hp HE HQ
      go_wp2_with fail
      refine (append_ok _ [] (fun _ => True) n _ (Bytes.nil _ _) (by simp) HNN.out).mono ?_
      rintro e2 w2 ⟨v2, rfl, hown, hb2⟩
      rw [List.nil_append] at hown
      have hb12 := hb1.trans (hb2.mono hb1.size)
      have hpt2 := hpt.below hb2 (Nat.le_refl _)
      have hown' := Bytes.of_own hown
      clear hown hpt hp1
      go_wp2_with fail
      refine (same_ _ _ (enc n) (p.take k) _ _ _ hown' hpt2 (by have := enc_len7 HNN.out; omega) (by simp; omega)).mono ?_
      rintro e3 w3 ⟨rfl, hb3⟩
      rw [HEN.out, show decide (p.take k = p.take k) = true by simp]
      have hb13 := hb12.trans (hb3.mono hb12.size)
      clear hown' hpt2
      go_wp2_with (go_at_call 13; refine (vawake _).mono ?_; rintro e w5 ⟨rfl, hb5⟩)
      go_ret
      exact ⟨rfl, hb13.trans (hb5.mono hb13.size)⟩
    · obtain ⟨rfl, rfl⟩ := HE.out he
      have he' : ¬ (e : Int) = 0 := by omega
      clear he HE HQ
      go_wp2_with (go_at_call 13; refine (vawake _).mono ?_; rintro e w5 ⟨rfl, hb5⟩)
      go_ret
      exact ⟨rfl, hb1.trans (hb5.mono hb1.size)⟩
end Go.Proofs.Ytdlbichdjgbedaa
