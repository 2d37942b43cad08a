/-
  Read of package field, ReadField of the reference.
-/
import Derived.Test.YtfokedbipicmoaaFldApp
import Derived.Test.YtfokedbipicmoaaVarRRead
namespace Go.Proofs.Ytfokedbipicmoaa
open Go Go.RowKit Sh Leaf

theorem own_le {w : World} {base base' size n : Nat} {e : TypeId} {v : Value} {xs : List Value} (h : w.ownsRow base e size v n xs) (hb : base' ≤ base) : w.ownsRow base' e size v n xs :=
  ⟨h.1, h.2.imp id fun ⟨g, cap, cur, h1, h2, r⟩ => ⟨g, cap, cur, h1, Nat.le_trans hb h2, r⟩⟩
/-- b[k:k + n] -/
theorem cut_field (A : Option Addr) (b : List B8) (c k n : Nat) (Q : Nat → Prop) (w : World) (h : Bytes w Q (.slice A b.length c) b) (hn : k + n ≤ b.length) :
    ∃ A' c', (∀ W, (Instr.sliceAt 22 (.slice A b.length c) (some (.int .i64 (k : Int))) (some (.int .i64 ((k : Int) + (n : Int)))) none).run Try.prog W = .ok (.slice A' n c') W) ∧ Bytes w Q (.slice A' n c') ((b.drop k).take n) := by
  have hd := h.drop k (by omega)
  have ht := hd.take n (by simp; omega)
  obtain ⟨A0, c0, e0, h1, h2, h3, h4⟩ := id h
  cases e0
  refine ⟨_, _, fun W => ?_, ht⟩
  have := run_cut_mid A b.length c k (k + n) (by omega) (by omega) W
  rw [show ((k + n : Nat) : Int) = (k : Int) + (n : Int) by omega, show k + n - k = n by omega] at this
  exact this

set_option maxRecDepth 100000 in
set_option maxHeartbeats 1000000 in
theorem fread (v : Value) (b : List B8) (Q : Nat → Prop) (w : World) (hr : Bytes w Q v b) :
    Calls Try.prog 14 #[v] w fun e w' => ∃ v', e = .returned (.tuple #[v', .int .i64 ((rdf b).2.1 : Int), .int .i64 ((rdf b).2.2 : Int)]) ∧ Own w' w.heap.size v' (rdf b).1 ∧ Below w.heap.size w w' := by
  obtain ⟨A, c, rfl, hc1, hc0, -⟩ := id hr
  have hc2 : c ≤ 9223372036854775807 := by unfold maxLen at hc0; omega
  clear hc0
  obtain ⟨n, k, e0, hrd⟩ : ∃ n k e, rd b = (n, k, e) := ⟨_, _, _, rfl⟩
  have HR := Lib.hid hrd
  have HE := Lib.hid (fun he => rdf_e hrd he)
  have HQ : Hid (e0 = 0 → k ≤ b.length ∧ n ≤ 281474976710656 ∧ enc n = b.take k) := Lib.hid (by rintro rfl; exact rd_unique hrd)
  have HL : Hid (e0 = 0 → 1024 < n → rdf b = ([], 0, 2)) := Lib.hid (by rintro rfl; exact rdf_limit hrd)
  have HS : Hid (e0 = 0 → ¬ 1024 < n → b.length - k < n → rdf b = ([], 0, 3)) := Lib.hid (by rintro rfl; exact rdf_short hrd)
  have HO : Hid (e0 = 0 → ¬ 1024 < n → ¬ b.length - k < n → rdf b = ((b.drop k).take n, k + n, 0)) := Lib.hid (by rintro rfl; exact rdf_ok hrd)
  have HB := Lib.hid hr
  clear hrd hr
  go_enter Try.func14, Try.ntmps14
  go_wp2_with fail
  refine (read_ _ b Q _ HB.out).mono ?_
  rintro e w1 ⟨rfl, hb1⟩
  rw [HR.out]
  by_cases he : e0 = 0
  · subst he
    obtain ⟨hk, hn48, -⟩ := HQ.out rfl
    clear HQ HE
    by_cases hn : 1024 < n
    · have HF := Lib.hid (HL.out rfl hn)
      have hn' : (1024 : Int) < (n : Int) := by omega
      clear hn hn48
      go_wp2
      go_ret3
      exact ⟨_, by rw [HF.out]; rfl, by rw [HF.out]; exact own_nil _ _, hb1⟩
    have hn' : ¬ (1024 : Int) < (n : Int) := by omega
    by_cases hl : b.length - k < n
    · have HF := Lib.hid (HS.out rfl hn hl)
      have hl' : (b.length : Int) - (k : Int) < (n : Int) := by omega
      clear hl hn hn48
      go_wp2
      go_ret3
      exact ⟨_, by rw [HF.out]; rfl, by rw [HF.out]; exact own_nil _ _, hb1⟩
    have HF := Lib.hid (HO.out rfl hn hl)
    have hl' : ¬ (b.length : Int) - (k : Int) < (n : Int) := by omega
    obtain ⟨A', c', hcut, hbt⟩ := cut_field A b c k n Q w1 (HB.out.below hb1 (Nat.le_refl _)) (by omega)
    have HC := Lib.hid hcut
    have hlen : ((b.drop k).take n).length ≤ 1000000000 := by simp; omega
    have hkn : k + n ≤ b.length := by omega
    have hn16 : n ≤ 1024 := by omega
    clear hl hn hcut hn48 HB
    go_wp2_with ((with_reducible refine wpList_slice_run rfl 22 _ _ _ _ rfl (.slice A' n c') ?_ ?_); (exact HC.out _))
    refine (clone_own _ _ Q _ hbt hlen).mono ?_
    rintro e w2 ⟨v2, rfl, ho2, hb2⟩
    go_wp2
    go_ret3
    have hs := hb1.size
    refine ⟨v2, by rw [HF.out]; simp, ?_, hb1.trans (hb2.mono hs)⟩
    rw [HF.out]
    exact own_le ho2 hs
  · have HF := Lib.hid (HE.out he)
    have he' : ¬ (e0 : Int) = 0 := by omega
    clear HE HQ HL HS HO he
    go_wp2
    go_ret3
    exact ⟨_, by rw [HF.out]; rfl, by rw [HF.out]; exact own_nil _ _, hb1⟩

set_option maxRecDepth 100000 in
set_option maxHeartbeats 1000000 in
theorem rread (v : Value) (b : List B8) (Q : Nat → Prop) (w : World) (hr : Bytes w Q v b) :
    Calls Try.prog 15 #[v] w fun e w' => ∃ v', e = .returned (.tuple #[v', .int .i64 ((rdf b).2.1 : Int), .int .i64 ((rdf b).2.2 : Int)]) ∧ Bytes w' Q v' (rdf b).1 ∧ Below w.heap.size w w' := by
  obtain ⟨A, c, rfl, hc1, hc0, -⟩ := id hr
  have hc2 : c ≤ 9223372036854775807 := by unfold maxLen at hc0; omega
  clear hc0
  obtain ⟨n, k, e0, hrd⟩ : ∃ n k e, rd b = (n, k, e) := ⟨_, _, _, rfl⟩
  have HR := Lib.hid hrd
  have HE := Lib.hid (fun he => rdf_e hrd he)
  have HQ : Hid (e0 = 0 → k ≤ b.length ∧ n ≤ 281474976710656 ∧ enc n = b.take k) := Lib.hid (by rintro rfl; exact rd_unique hrd)
  have HL : Hid (e0 = 0 → 1024 < n → rdf b = ([], 0, 2)) := Lib.hid (by rintro rfl; exact rdf_limit hrd)
  have HS : Hid (e0 = 0 → ¬ 1024 < n → b.length - k < n → rdf b = ([], 0, 3)) := Lib.hid (by rintro rfl; exact rdf_short hrd)
  have HO : Hid (e0 = 0 → ¬ 1024 < n → ¬ b.length - k < n → rdf b = ((b.drop k).take n, k + n, 0)) := Lib.hid (by rintro rfl; exact rdf_ok hrd)
  have HB := Lib.hid hr
  clear hrd hr
  go_enter Try.func15, Try.ntmps15
  go_wp2_with fail
  refine (ref_read _ b Q _ HB.out).mono ?_
  rintro e w1 ⟨rfl, hb1⟩
  rw [HR.out]
  by_cases he : e0 = 0
  · subst he
    obtain ⟨hk, hn48, -⟩ := HQ.out rfl
    clear HQ HE
    by_cases hn : 1024 < n
    · have HF := Lib.hid (HL.out rfl hn)
      have hn' : (1024 : Int) < (n : Int) := by omega
      clear hn hn48
      go_wp2
      go_ret3
      exact ⟨_, by rw [HF.out]; rfl, by rw [HF.out]; exact Bytes.nil _ _, hb1⟩
    have hn' : ¬ (1024 : Int) < (n : Int) := by omega
    by_cases hl : b.length - k < n
    · have HF := Lib.hid (HS.out rfl hn hl)
      have hl' : (b.length : Int) - (k : Int) < (n : Int) := by omega
      clear hl hn hn48
      go_wp2
      go_ret3
      exact ⟨_, by rw [HF.out]; rfl, by rw [HF.out]; exact Bytes.nil _ _, hb1⟩
    have HF := Lib.hid (HO.out rfl hn hl)
    have hl' : ¬ (b.length : Int) - (k : Int) < (n : Int) := by omega
    obtain ⟨A', c', hcut, hbt⟩ := cut_field A b c k n Q w1 (HB.out.below hb1 (Nat.le_refl _)) (by omega)
    have HC := Lib.hid hcut
    have hkn : k + n ≤ b.length := by omega
    have hn16 : n ≤ 1024 := by omega
    clear hl hn hcut hn48 HB
    go_wp2_with ((with_reducible refine wpList_slice_run rfl 22 _ _ _ _ rfl (.slice A' n c') ?_ ?_); (exact HC.out _))
    go_ret3
    exact ⟨.slice A' n c', by rw [HF.out]; simp, by rw [HF.out]; exact hbt, hb1⟩
  · have HF := Lib.hid (HE.out he)
    have he' : ¬ (e0 : Int) = 0 := by omega
    clear HE HQ HL HS HO he
    go_wp2
    go_ret3
    exact ⟨_, by rw [HF.out]; rfl, by rw [HF.out]; exact Bytes.nil _ _, hb1⟩
end Go.Proofs.Ytfokedbipicmoaa
