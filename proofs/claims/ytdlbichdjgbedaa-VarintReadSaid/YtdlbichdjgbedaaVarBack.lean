/-
  The laws VarintBack, VarintAppend, VarintRead: true, for all arguments.
-/
import Derived.Test.YtdlbichdjgbedaaVarLaws
import Derived.Test.YtdlbichdjgbedaaKCut
import Derived.Test.YtdlbichdjgbedaaKUpto
namespace Go.Proofs.Ytdlbichdjgbedaa
open Go Go.RowKit Sh Leaf

set_option maxRecDepth 100000 in
set_option maxHeartbeats 1000000 in
theorem back_law (z : Int) (hz : -9223372036854775808 ≤ z ∧ z ≤ 9223372036854775807) (A : Option Addr) (l : List B8) (c : Nat) (Q : Nat → Prop) (w : World) (hb : Bytes w Q (.slice A l.length c) l) :
    Calls Try.prog 5 #[.int .i64 z, .slice A l.length c] w fun e w' => e = .returned (.bool true) ∧ Below w.heap.size w w' := by
  obtain ⟨A0, c0, e0, h1, h2, h3, h4⟩ := id hb
  cases e0
  obtain ⟨N, hN, hNc, hN20, p, hp, hpN⟩ := cut_cases hb 20
  unfold maxLen at h2
  clear hb h4 h3
  have HN := Lib.hid hpN
  have hpl : p.length ≤ 20 := by omega
  clear hpN
  rcases hN with ⟨hlt, rfl⟩ | ⟨hlt, rfl⟩ | ⟨hlt, hge, rfl⟩
  all_goals
    go_enter Try.func5, Try.ntmps5
    go_wp2_with fail
    refine (within_max z hz _).mono ?_
    rintro e w1 ⟨⟨n, hn, rfl⟩, rfl⟩
    go_wp2_with fail
    refine (append_max _ [] (fun _ => True) n _ (Bytes.nil _ _) (by simp) hn).mono ?_
    rintro e w2 ⟨v2, rfl, hown, hb2⟩
    rw [List.nil_append] at hown
    have h7 := enc_len7 (by rw [maxNum_eq] at hn; exact hn)
    have HR := Lib.hid (rd_enc n (by rw [maxNum_eq] at hn; exact hn) p)
    have hx := hp.below hb2 (Nat.le_refl _)
    have hy := Bytes.of_own hown
    obtain ⟨A2, c2, rfl, -⟩ := id hy
    clear hp hown
    go_wp2_with (first
      | (at_builtin; (refine wpList_append_bytes rfl (.tmp 25) (.tmp 26) rfl w2.heap.size _ (enc n) rfl hown3 Q _ p rfl (hx.below hb3' (Nat.le_refl _)) (by omega) hs3 ?_); intro v4 w4 hown4 hb4)
      | (at_builtin; (refine wpList_append_bytes rfl (.tmp 23) (.tmp 24) rfl w2.heap.size (.slice (some ⟨w2.heap.size, 0, none⟩) 0 0) [] rfl (own_lit w2 w2.heap.size [] (Nat.le_refl _) (by simp)) _ _ (enc n) rfl (hy.alloc _) (by simp; omega) (by simp) ?_); intro v3 w3 hown3 hb3; rw [List.nil_append] at hown3; have hb3' := ((Below.refl w2.heap.size w2).alloc (Nat.le_refl _) (.cells #[] 5)).trans hb3; have hs3 := hb3'.size))
    refine (read_ _ (enc n ++ p) _ _ (Bytes.of_own hown4)).mono ?_
    rintro e w5 ⟨rfl, hb5⟩
    rw [HR.out]
    have hq : Below w1.heap.size w1 w5 := ((hb2.trans (hb3'.mono hb2.size)).trans (hb4.mono hb2.size)).trans (hb5.mono (Nat.le_trans hb2.size (Nat.le_trans hs3 hb4.size)))
    clear hx hy hown3 hown4 hb3 hb3' hb4 hb5
    have h7' : ((enc n).length : Int) ≤ 7 := by omega
    go_wp2_with (go_at_call 13; refine (vawake _).mono ?_; rintro e w6 ⟨rfl, hb6⟩)
    go_ret
    exact ⟨rfl, hq.trans (hb6.mono hq.size)⟩
end Go.Proofs.Ytdlbichdjgbedaa
