/-
  Package predicate: parseFields.
  Parse in plain words: what parseFields finds decides it.
  Package predicate: Parse.
-/
import Derived.Deep.DeepCutAuto
import Derived.Deep.CutBlock
import Derived.Test.YtpodgmmgphibfaaDoorPk16
import Derived.Test.YtpodgmmgphibfaaDoorPk20
import Derived.Test.YtpodgmmgphibfaaDoorPk3
namespace Go.Proofs.YtpodgmmgphibfaaDoor
open Go Go.RowKit Sh Leaf

/-- What parseFields makes of a kind and a text. -/
def PF (k : Nat) (s : List B8) (p : Prd) (ok : Bool) : Prop :=
  (∃ most m, (k = 1 ∧ most = 63 ∨ k = 2 ∧ most = 31 ∨ k = 3 ∧ most = 6) ∧ PM s most m ok ∧ p = ⟨k, m, 0, 0, [], 0⟩) ∨
  ((k = 4 ∨ k = 5) ∧ ∃ a b, PS s a b ok ∧ p = ⟨k, 0, a, b, [], 0⟩) ∨
  (k = 6 ∧ ok = true ∧ p = ⟨6, 0, 0, 0, s, 0⟩) ∨
  (k = 7 ∧ ∃ n, PN s n ok ∧ p = ⟨7, 0, 0, 0, [], n⟩) ∨
  (k = 0 ∧ ok = false ∧ p = ⟨0, 0, 0, 0, [], 0⟩)
/-- The description's second and third field. -/
theorem desc2 (k : Nat) (hk : k ≤ 7) : ∃ (z most : Nat) (T : List B8) (d : Bool), ((z = 1 ∧ (k = 1 ∧ most = 63 ∨ k = 2 ∧ most = 31 ∨ k = 3 ∧ most = 6)) ∨ (z = 2 ∧ (k = 4 ∨ k = 5)) ∨ (z = 3 ∧ k = 6) ∨ (z = 4 ∧ k = 7) ∨ (z = 0 ∧ k = 0)) ∧
    dsv (k : Int) = .agg #[.string (sof T), .int .i64 (z : Int), .int .i64 (most : Int), .bool d] := by
  rcases (by omega : k = 0 ∨ k = 1 ∨ k = 2 ∨ k = 3 ∨ k = 4 ∨ k = 5 ∨ k = 6 ∨ k = 7) with rfl | rfl | rfl | rfl | rfl | rfl | rfl | rfl
  · exact ⟨0, 0, _, _, by omega, dsv_no (by decide) (by decide) (by decide) (by decide) (by decide) (by decide) (by decide)⟩
  · exact ⟨1, 63, _, _, by omega, dsv_1⟩
  · exact ⟨1, 31, _, _, by omega, dsv_2⟩
  · exact ⟨1, 6, _, _, by omega, dsv_3⟩
  · exact ⟨2, 67108864, _, _, by omega, dsv_4⟩
  · exact ⟨2, 1439, _, _, by omega, dsv_5⟩
  · exact ⟨3, 16, _, _, by omega, dsv_6⟩
  · exact ⟨4, 1000000, _, _, by omega, dsv_7⟩
/-- What is known ahead of the end of parseFields. -/
def PfR (k : Nat) (s : List B8) (w : World) (v : Value) (wx : World) : Prop := ∃ p ok, v = .bool ok ∧ PF k s p ok ∧ PRow wx w.heap.size p.kind p.mask p.lo p.hi p.name p.num ∧ Below w.heap.size w wx
set_option linter.unusedVariables false in
set_option maxRecDepth 100000 in
set_option maxHeartbeats 4000000 in
theorem pfields (k : Nat) (hk : k ≤ 7) (s : List B8) (hs : s.length ≤ 100000) (w : World) (hS : Std w) :
    Calls Tryd.prog 41 #[.int .i64 (k : Int), .string (sof s)] w fun e w' => ∃ p ok, PF k s p ok ∧ e = .returned (.tuple #[pv p, .bool ok]) ∧ Below w.heap.size w w' := by
  obtain ⟨z, most, T, d, hz, hdv⟩ := desc2 k hk
  have hds := fun W => describe (k : Int) W
  rw [hdv] at hds
  have HZ := Lib.hid hz
  clear hz hdv
  go_enter Tryd.func41, Tryd.ntmps41
  go_wp2_with fail
  refine (hds _).mono ?_
  rintro e w4 ⟨rfl, hb4⟩
  have hP4 : PRow w4 w.heap.size k 0 0 0 [] 0 := PRow.of_zero ((Whole.here w _ _).below hb4 (by simp))
  have hB4 : Below w.heap.size w w4 := ((Below.refl w.heap.size w).alloc (Nat.le_refl _) _).trans (hb4.mono (by simp))
  have hlt := hP4.lt
  have hS4 := hS.below hB4 (Nat.le_refl _)
  have hW5 : ∀ cs, Below w4.heap.size w4 (w4.alloc (.cells cs 58)) := fun cs => (Below.refl w4.heap.size w4).alloc (Nat.le_refl _) _
  have hS5 := fun cs => hS4.below (hW5 cs) (Nat.le_refl _)
  have HP5 := Lib.hid fun cs => (hP4.below (hW5 cs) hlt)
  have HB5 := Lib.hid fun cs => hB4.trans ((hW5 cs).mono hB4.size)
  have HP4 := Lib.hid hP4
  have HB4 := Lib.hid hB4
  clear hb4 hP4 hB4 hds hW5 hS4 hS
  go_upto_block 0 with fail
  go_cut [5] (fun v wx => PfR k s w v wx)
  case first =>
    rcases HZ.out with ⟨rfl, hk1⟩ | ⟨rfl, hk1⟩ | ⟨rfl, rfl⟩ | ⟨rfl, rfl⟩ | ⟨rfl, rfl⟩
    · have hm := fun W hW => pmask_ s hs most (by omega) W hW
      have HK := Lib.hid hk1
      clear HZ hk1
      go_wp2_with fail
      refine (hm _ (hS5 _)).mono ?_
      rintro e w6 ⟨m, ok, hpm, rfl, hb6⟩
      have hP6 : PRow w6 w.heap.size k 0 0 0 [] 0 := (HP5.out _).below hb6 (by simp; omega)
      have hB6 := (HB5.out _).trans (hb6.mono (by simp; omega))
      have c1 := hP6.cells.2.1
      have f1 := hP6.frozen 1
      have HF : Hid (PfR k s w (.bool ok) (w6.setCell ⟨w.heap.size, 1, none⟩ (.int .u64 (m : Int)))) := Lib.hid ⟨⟨k, m, 0, 0, [], 0⟩, ok, rfl, .inl ⟨most, m, HK.out, hpm, rfl⟩, hP6.set1 _, hB6.setCell (p := ⟨w.heap.size, 1, none⟩) (Nat.le_refl _) _⟩
      clear hP6 hB6 hb6 hpm HP5 HB5 hm
      go_wp2_with fail
      go_meet
      exact HF.out
    · have hm := fun W hW => pspan s hs W hW
      have HK := Lib.hid hk1
      clear HZ hk1
      go_wp2_with fail
      refine (hm _ (hS5 _)).mono ?_
      rintro e w6 ⟨a, b, ok, hpm, rfl, hb6⟩
      have hP6 : PRow w6 w.heap.size k 0 0 0 [] 0 := (HP5.out _).below hb6 (by simp; omega)
      have hB6 := (HB5.out _).trans (hb6.mono (by simp; omega))
      have c2 := hP6.cells.2.2.1
      have f2 := hP6.frozen 2
      have hP7 := hP6.set2 a
      have c3 := hP7.cells.2.2.2.1
      have f3 := hP7.frozen 3
      have HF : Hid (PfR k s w (.bool ok) ((w6.setCell ⟨w.heap.size, 2, none⟩ (.int .i64 a)).setCell ⟨w.heap.size, 3, none⟩ (.int .i64 b))) := Lib.hid ⟨⟨k, 0, a, b, [], 0⟩, ok, rfl, .inr (.inl ⟨HK.out, a, b, hpm, rfl⟩), hP7.set3 _, (hB6.setCell (p := ⟨w.heap.size, 2, none⟩) (Nat.le_refl _) _).setCell (p := ⟨w.heap.size, 3, none⟩) (Nat.le_refl _) _⟩
      clear hP6 hP7 hB6 hb6 hpm HP5 HB5 hm
      go_wp2_with fail
      go_meet
      exact HF.out
    · clear HZ
      have hP6 : PRow _ w.heap.size _ 0 0 0 [] 0 := HP5.out #[.string (sof T), .int .i64 3, .int .i64 (most : Int), .bool d]
      have c4 := hP6.cells.2.2.2.2.1
      have f4 := hP6.frozen 4
      have HF : Hid (PfR 6 s w (.bool true) ((w4.setCell ⟨w.heap.size, 4, none⟩ (.string (sof s))).alloc (.cells #[.string (sof T), .int .i64 3, .int .i64 (most : Int), .bool d] 58))) := Lib.hid ⟨⟨6, 0, 0, 0, s, 0⟩, true, rfl, .inr (.inr (.inl ⟨rfl, rfl, rfl⟩)), (HP4.out.set4 s).alloc _, (HB4.out.setCell (p := ⟨w.heap.size, 4, none⟩) (Nat.le_refl _) _).alloc (by have := HB4.out.size; simpa using this) _⟩
      clear hP6 HP5 HB5
      go_wp2_with fail
      go_meet
      exact HF.out
    · have hm := fun W hW => pnumber s hs W hW
      clear HZ
      go_wp2_with fail
      refine (hm _ (hS5 _)).mono ?_
      rintro e w6 ⟨n, ok, hpm, rfl, hb6⟩
      have hP6 : PRow w6 w.heap.size _ 0 0 0 [] 0 := (HP5.out _).below hb6 (by simp; omega)
      have hB6 := (HB5.out _).trans (hb6.mono (by simp; omega))
      have c5 := hP6.cells.2.2.2.2.2
      have f5 := hP6.frozen 5
      have HF : Hid (PfR 7 s w (.bool ok) (w6.setCell ⟨w.heap.size, 5, none⟩ (.int .i64 n))) := Lib.hid ⟨⟨7, 0, 0, 0, [], n⟩, ok, rfl, .inr (.inr (.inr (.inl ⟨rfl, n, hpm, rfl⟩))), hP6.set5 _, hB6.setCell (p := ⟨w.heap.size, 5, none⟩) (Nat.le_refl _) _⟩
      clear hP6 hB6 hb6 hpm HP5 HB5 hm
      go_wp2_with fail
      go_meet
      exact HF.out
    · clear HZ
      have HF : Hid (PfR 0 s w (.bool false) _) := Lib.hid ⟨⟨0, 0, 0, 0, [], 0⟩, false, rfl, .inr (.inr (.inr (.inr ⟨rfl, rfl, rfl⟩))), HP5.out #[.string (sof T), .int .i64 0, .int .i64 (most : Int), .bool d], HB5.out #[.string (sof T), .int .i64 0, .int .i64 (most : Int), .bool d]⟩
      clear HP5 HB5
      go_wp2_with fail
      go_meet
      exact HF.out
  case rest =>
    obtain ⟨⟨kk, m, lo, hi, nm, nu⟩, ok, rfl, hpf, hP, hB⟩ := hcut
    simp only at hP
    have HP := Lib.hid hP
    have HPF := Lib.hid hpf
    have HB := Lib.hid hB
    clear hP hpf hB HZ HP5 HB5 hS5
    go_wp2_with (first | (with_reducible refine wpList_load_prd rfl _ rfl (g := w.heap.size) rfl HP.out ?_) | (with_reducible refine wpList_store_prd rfl _ _ rfl (g := w.heap.size) rfl rfl HP.out ?_))
    refine bodyPost_ret (results_prd1 (g := w.heap.size) Tryd.results41 _ rfl _ rfl (HP.out.setRow kk m lo hi nm nu)) rfl ?_
    exact ⟨_, _, HPF.out, by rw [pv_row]; rfl, below_setRow HB.out (Nat.le_refl _) _⟩
end Go.Proofs.YtpodgmmgphibfaaDoor
namespace Go.Proofs.YtpodgmmgphibfaaDoor
open Go Go.RowKit Sh Leaf

theorem kindOf_back {w : List B8} {k : Int} (h : kindOf w = k) (hk : k ≠ 0) : w = wd k ∧ 1 ≤ k ∧ k ≤ 7 := by
  unfold kindOf at h
  repeat (split at h; · (rename_i e; subst h; exact ⟨e, by decide, by decide⟩))
  exact absurd h.symm hk
theorem kindOf_le (w : List B8) : 0 ≤ kindOf w ∧ kindOf w ≤ 7 := by
  by_cases h : kindOf w = 0
  · omega
  · have := (kindOf_back rfl h).2; omega
theorem pbody_ne {p : Prd} (h : pok p) (hm : p.mask < 2 ^ 64) : pbody p ≠ [] := by
  obtain ⟨k, m, lo, hi, nm, nu⟩ := p
  unfold pok at h
  simp only at h hm
  unfold pbody
  simp only
  by_cases h3 : k ≤ 3
  · rw [if_pos h3]
    refine joi_pos ?_ ?_
    · have : m ≠ 0 := by omega
      simpa using bitl_ne this hm
    · intro a ha
      obtain ⟨i, _, rfl⟩ := List.mem_map.1 ha
      exact dcm_ne i
  · rw [if_neg h3]
    by_cases h5 : k ≤ 5
    · rw [if_pos h5]; simp
    · rw [if_neg h5]
      by_cases h6 : k = 6
      · rw [if_pos h6]
        have hn : nmok nm := by
          rcases h with h | h | h | h | h | h | h
          all_goals first | (exact h.2.2.2.2.1) | (have := h.1; omega)
        intro e
        subst e
        have := hn.1
        simp at this
      · rw [if_neg h6]; exact dcm_ne _
theorem PF.mask {k : Nat} {s : List B8} {p : Prd} {ok : Bool} (h : PF k s p ok) : p.mask < 18446744073709551616 ∧ p.name.length ≤ s.length ∧ p.kind = (k : Int) := by
  rcases h with ⟨most, m, _, hm, rfl⟩ | ⟨_, a, b, _, rfl⟩ | ⟨rfl, _, rfl⟩ | ⟨rfl, n, _, rfl⟩ | ⟨rfl, _, rfl⟩
  · exact ⟨hm.1, by simp, rfl⟩
  · exact ⟨by simp, by simp, rfl⟩
  · exact ⟨by simp, by simp, rfl⟩
  · exact ⟨by simp, by simp, rfl⟩
  · exact ⟨by simp, by simp, rfl⟩
theorem PF.body {k : Nat} {s : List B8} {p : Prd} {ok : Bool} (h : PF k s p ok) (ho : ok = true) (hp : pok p) : pbody p = s := by
  subst ho
  rcases h with ⟨most, m, hk, hm, rfl⟩ | ⟨hk, a, b, ⟨o1, o2, h1, h2, ho⟩, rfl⟩ | ⟨rfl, _, rfl⟩ | ⟨rfl, n, hn, rfl⟩ | ⟨rfl, h0, rfl⟩
  · unfold pbody
    simp only
    rw [if_pos (by omega)]
    exact hm.2.1 rfl
  · have ha : o1 = true := by revert ho; cases o1 <;> simp
    have hb : o2 = true := by revert ho; cases o1 <;> cases o2 <;> simp
    unfold pok at hp
    simp only at hp
    have e1 := h1.1 ha (by omega)
    have e2 := h2.1 hb (by omega)
    unfold pbody
    simp only
    rw [if_neg (by omega), if_pos (by omega), ← e1, ← e2]
    rcases cut1_cases 45 s with ⟨x, y, rfl, _, e⟩ | ⟨_, e⟩
    · rw [e]
    · rw [e] at e2
      exact absurd e2.symm (dcm_ne _)
  · unfold pbody; rfl
  · unfold pok at hp
    simp only at hp
    unfold pbody
    exact (hn.1 rfl (by omega)).symm
  · exact absurd h0 (by simp)
theorem pf_good {s : List B8} {k : Nat} {p : Prd} {ok : Bool} (hk : (k : Int) = kindOf (cut1 32 s).1) (h : PF k (cut1 32 s).2.1 p ok) (ho : ok = true) (hp : pok p) : ps s = (p, 0) := by
  have hm := h.mask
  have hb := h.body ho hp
  have hne := pbody_ne hp hm.1
  have hpk := pok_kind hp
  have hw := (kindOf_back hk.symm (by omega)).1
  refine ps_of hp hm.1 ?_
  unfold pfmt
  rw [hm.2.2, ← hw, hb]
  rw [hb] at hne
  rcases cut1_cases 32 s with ⟨a, b, rfl, _, e⟩ | ⟨_, e⟩
  · rw [e]
  · rw [e] at hne; exact absurd rfl hne
theorem pf_bad {s : List B8} {k : Nat} {p : Prd} {ok : Bool} (hk : (k : Int) = kindOf (cut1 32 s).1) (h : PF k (cut1 32 s).2.1 p ok) (hno : ¬ (ok = true ∧ pok p)) : ps s = (.zero, 8) := by
  refine ps_bad ?_ (lp_mask s)
  rintro q hq hm rfl
  refine hno ?_
  have hqk := pok_kind hq
  have ec : cut1 32 (pfmt q) = (wd q.kind, pbody q, true) := cut1_at _ _ (wd_no hqk)
  rw [ec] at hk h
  simp only at hk h
  rw [kindOf_wd hqk] at hk
  suffices e : ok = true ∧ p = q by exact ⟨e.1, e.2 ▸ hq⟩
  obtain ⟨kk, m, lo, hi, nm, nu⟩ := q
  have hq2 := hq
  unfold pok at hq2
  simp only at hq2 hm hk hqk
  subst hk
  rcases h with ⟨most, m', hk', hpm, rfl⟩ | ⟨hk', a, b, ⟨o1, o2, h1, h2, ho⟩, rfl⟩ | ⟨rfl, ho, rfl⟩ | ⟨rfl, n, hn, rfl⟩ | ⟨rfl, h0, rfl⟩
  · have eb : joi 44 ((bitl m 64).map dcm) = pbody ⟨(k : Int), m, lo, hi, nm, nu⟩ := by unfold pbody; exact (if_pos (show (k : Int) ≤ 3 by omega)).symm
    obtain ⟨e1, e2⟩ := hpm.2.2 m (by omega) hm (by rcases hk' with ⟨rfl, rfl⟩ | ⟨rfl, rfl⟩ | ⟨rfl, rfl⟩ <;> omega) eb
    refine ⟨e1, ?_⟩
    subst e2
    rcases hk' with ⟨rfl, rfl⟩ | ⟨rfl, rfl⟩ | ⟨rfl, rfl⟩ <;> simp at hq2 ⊢ <;> simp [hq2]
  · have eb : pbody ⟨(k : Int), m, lo, hi, nm, nu⟩ = dcm lo.toNat ++ 45 :: dcm hi.toNat := by unfold pbody; exact (if_neg (show ¬ (k : Int) ≤ 3 by omega)).trans (if_pos (show (k : Int) ≤ 5 by omega))
    rw [eb, cut_dash] at h1 h2
    simp only at h1 h2
    obtain ⟨a1, a2⟩ := h1.2.1 lo.toNat (by omega) rfl
    obtain ⟨b1, b2⟩ := h2.2.1 hi.toNat (by omega) rfl
    refine ⟨by rw [ho, a1, b1]; rfl, ?_⟩
    rw [a2, b2, show ((lo.toNat : Nat) : Int) = lo by omega, show ((hi.toNat : Nat) : Int) = hi by omega]
    rcases hk' with rfl | rfl <;> simp at hq2 ⊢ <;> simp [hq2]
  · refine ⟨ho, ?_⟩
    simp at hq2
    simp [pbody, hq2]
  · have eb : pbody ⟨((7 : Nat) : Int), m, lo, hi, nm, nu⟩ = dcm nu.toNat := by unfold pbody; rfl
    rw [eb] at hn
    obtain ⟨a1, a2⟩ := hn.2.1 nu.toNat (by omega) rfl
    refine ⟨a1, ?_⟩
    rw [a2, show ((nu.toNat : Nat) : Int) = nu by omega]
    simp at hq2 ⊢
    simp [hq2]
  · omega
end Go.Proofs.YtpodgmmgphibfaaDoor
namespace Go.Proofs.YtpodgmmgphibfaaDoor
open Go Go.RowKit Sh Leaf

theorem sclone (s : List B8) (hs : s.length ≤ 100000) (w : World) :
    Calls Tryd.prog 43 #[.string (sof s)] w fun e w' => e = .returned (.string (sof s)) ∧ Below w.heap.size w w' := by
  go_enter Tryd.func43, Tryd.ntmps43
  go_wp2_with fail
  refine (clone_ s hs w).mono ?_
  rintro e w1 ⟨rfl, hb⟩
  go_wp2
  go_ret
  exact ⟨rfl, hb⟩
/-- A store of the zero predicate. -/
theorem wpList_store_prdz {g : Nat} {w : World} {k m lo hi nu : Int} {nm : List B8} {ops : Array Oper} {rest : List Oper} {o : Oper} {a : Act} {Q : Exit → Act → World → Prop} (hgd : o.guard = none) (x y : Operand) (ho : o.op = .store 24 x y)
    (hx : a.eval x = .pointer (some ⟨g, 0, none⟩)) (hy : a.eval y = .agg #[.int .i64 0, .int .u64 0, .int .i64 0, .int .i64 0, .string { data := #[] }, .int .i64 0]) (hg : PRow w g k m lo hi nm nu)
    (h : wpList Tryd.prog ops Q rest (a.put o.dst undef) (w.setRow g (prow 0 0 0 0 [] 0))) : wpList Tryd.prog ops Q (o :: rest) a w :=
  wpList_store_prd hgd x y ho hx (hy.trans (by rw [prow_zero])) hg h
set_option linter.unusedVariables false in
set_option maxRecDepth 100000 in
set_option maxHeartbeats 4000000 in
theorem pparse (s : List B8) (hs : s.length ≤ 100000) (w : World) (hS : Std w) :
    Calls Tryd.prog 18 #[.string (sof s)] w fun e w' => e = .returned (.tuple #[pv (ps s).1, .int .i64 ((ps s).2 : Int)]) ∧ Below w.heap.size w w' := by
  have hcl := cut1_len 32 s
  have hcut := fun W hW => cut_ s 32 ⟨#[32]⟩ rfl hs W hW
  obtain ⟨k, hk⟩ := Int.eq_ofNat_of_zero_le (kindOf_le (cut1 32 s).1).1
  have hk7 : k ≤ 7 := by have := (kindOf_le (cut1 32 s).1).2; omega
  have hgood := Lib.hid fun p ok => pf_good (s := s) (k := k) (p := p) (ok := ok) hk.symm
  have hbad := Lib.hid fun p ok => pf_bad (s := s) (k := k) (p := p) (ok := ok) hk.symm
  have hkind := fun W => kind_of (cut1 32 s).1 W
  rw [hk] at hkind
  generalize cut1 32 s = C at *
  obtain ⟨x, y, zz⟩ := C
  simp only at hcut hcl hgood hbad hkind hk
  clear hk
  have hW0 : ∀ cs, Below w.heap.size w (w.alloc (.cells cs 24)) := fun cs => (Below.refl w.heap.size w).alloc (Nat.le_refl _) _
  have hSa : ∀ cs, Std (w.alloc (.cells cs 24)) := fun cs => hS.below (hW0 cs) (Nat.le_refl _)
  go_enter Tryd.func18, Tryd.ntmps18
  go_wp2_with fail
  refine (hcut _ (hSa _)).mono ?_
  rintro e w1 ⟨rfl, hb1⟩
  have hZ1 : PRow w1 w.heap.size 0 0 0 0 [] 0 := PRow.of_zero ((Whole.here w _ _).below hb1 (by simp))
  have hB1 : Below w.heap.size w w1 := (hW0 _).trans (hb1.mono (by simp))
  have hS1 := hS.below hB1 (Nat.le_refl _)
  have HZ1 := Lib.hid hZ1
  have HB1 := Lib.hid hB1
  have hl1 := hZ1.lt
  clear hb1 hW0 hSa hcut hZ1 hB1
  go_wp2_with fail
  refine (hkind _).mono ?_
  rintro e w2 ⟨rfl, hb2⟩
  have hS2 := hS1.below hb2 (Nat.le_refl _)
  have HZ2 := Lib.hid (HZ1.out.below hb2 hl1)
  have HB2 := Lib.hid (HB1.out.trans (hb2.mono HB1.out.size))
  have hl2 := HZ2.out.lt
  clear hb2 HZ1 HB1 hS1 hl1 hkind
  go_wp2_with fail
  refine (pfields k hk7 y (by omega) w2 hS2).mono ?_
  rintro e w3 ⟨p, ok, hpf, rfl, hb3⟩
  have hmk := hpf.mask
  have HZ3 := Lib.hid (HZ2.out.below hb3 hl2)
  have HB3 := Lib.hid (HB2.out.trans (hb3.mono HB2.out.size))
  have HS3 := Lib.hid (hS2.below hb3 (Nat.le_refl _))
  have hl3 := HZ3.out.lt
  have hv := fun W => pvalid p hmk.1 (by omega) W
  have HG := Lib.hid fun h1 h2 => hgood.out p ok hpf h1 h2
  have HBd := Lib.hid fun h1 => hbad.out p ok hpf h1
  have hnl : p.name.length ≤ 100000 := by omega
  have hcln := fun W => sclone p.name hnl W
  clear hb3 HZ2 HB2 hS2 hl2 hpf hgood hbad hmk
  obtain ⟨kk, m, lo, hi, nm, nu⟩ := p
  unfold pv at hv ⊢
  simp only at hv hcln hnl ⊢
  have hZ3 : PRow w3 w.heap.size 0 0 0 0 [] 0 := HZ3.out
  obtain ⟨z0, z1, z2, z3, z4, z5⟩ := hZ3.cells
  obtain ⟨y0, y1, y2, y3, y4, y5⟩ := hZ3.frees
  clear hZ3
  have hP4 : PRow (w3.alloc (.cells (prow kk (m : Int) lo hi nm nu) 24)) w3.heap.size kk m lo hi nm nu := Whole.here w3 _ _
  have HP4 := Lib.hid hP4
  have HB4 := Lib.hid (HB3.out.alloc (HB3.out.size) (.cells (prow kk (m : Int) lo hi nm nu) 24))
  have HS4 := Lib.hid (HS3.out.below ((Below.refl w3.heap.size w3).alloc (Nat.le_refl _) (.cells (prow kk (m : Int) lo hi nm nu) 24)) (Nat.le_refl _))
  have HZ4 := Lib.hid (Whole.alloc HZ3.out (.cells (prow kk (m : Int) lo hi nm nu) 24))
  clear hP4
  cases ok
  · have HE := Lib.hid (HBd.out (by simp))
    clear HG HBd hv hcln
    clear z0 z1 z2 z3 z4 z5 y0 y1 y2 y3 y4 y5
    go_wp2_with (first | (with_reducible refine wpList_store_prdz rfl _ _ rfl (g := w.heap.size) rfl rfl HZ4.out ?_))
    refine bodyPost_ret (results_prd1 (g := w.heap.size) Tryd.results18 _ rfl _ rfl (PRow.setRow HZ4.out 0 0 0 0 [] 0)) rfl ?_
    refine ⟨?_, below_setRow HB4.out (Nat.le_refl _) _⟩
    rw [HE.out, pv_row]; rfl
  · by_cases hp : pok ⟨kk, m, lo, hi, nm, nu⟩
    · have HE := Lib.hid (HG.out rfl hp)
      rw [decide_eq_true hp] at hv
      clear HG HBd z0 z1 z2 z3 z4 z5 y0 y1 y2 y3 y4 y5
      go_wp2_with (first | (with_reducible refine wpList_load_prd rfl _ rfl (g := w3.heap.size) rfl HP4.out ?_))
      refine (hv _).mono ?_
      rintro e w6 ⟨rfl, hb6⟩
      have hP6 : PRow w6 w3.heap.size kk m lo hi nm nu := HP4.out.below hb6 (by simp)
      have hZ6 : PRow w6 w.heap.size 0 0 0 0 [] 0 := HZ4.out.below hb6 (by simp; omega)
      have HB6 := Lib.hid (HB4.out.trans (hb6.mono (by simp; omega)))
      obtain ⟨c0, c1, c2, c3, c4, c5⟩ := hP6.cells
      have HP6 := Lib.hid hP6
      have HZ6 := Lib.hid hZ6
      have hl6 := hP6.lt
      clear hP6 hZ6 hb6 HP4 HZ4 HB4 HZ3 HB3 HS3 HS4 hv
      go_wp2_with fail
      refine (hcln _).mono ?_
      rintro e w7 ⟨rfl, hb7⟩
      have hP7 : PRow w7 w3.heap.size kk m lo hi nm nu := HP6.out.below hb7 hl6
      have hZ7 : PRow w7 w.heap.size 0 0 0 0 [] 0 := HZ6.out.below hb7 (by omega)
      have HB7 := Lib.hid (HB6.out.trans (hb7.mono (by omega)))
      have c4 := hP7.cells.2.2.2.2.1
      have f4 := hP7.frozen 4
      have HP8 := Lib.hid (hP7.set4 nm)
      have HZ8 := Lib.hid (hZ7.far (a := ⟨w3.heap.size, 4, none⟩) (by show w.heap.size ≠ w3.heap.size; omega) (.string (sof nm)))
      have HB8 := Lib.hid (HB7.out.setCell (p := ⟨w3.heap.size, 4, none⟩) (by show w.heap.size ≤ w3.heap.size; omega) (.string (sof nm)))
      clear hP7 hZ7 hb7 HP6 HZ6 HB6 HB7 hl6
      go_wp2_with (first | (with_reducible refine wpList_load_prd rfl _ rfl (g := w3.heap.size) rfl HP8.out ?_) | (with_reducible refine wpList_store_prd rfl _ _ rfl (g := w.heap.size) rfl rfl HZ8.out ?_))
      refine bodyPost_ret (results_prd1 (g := w.heap.size) Tryd.results18 _ rfl _ rfl (Whole.setRow HZ8.out _)) rfl ?_
      refine ⟨?_, below_setRow HB8.out (Nat.le_refl _) _⟩
      rw [HE.out, pv_row]; rfl
    · have HE := Lib.hid (HBd.out (by simp [hp]))
      rw [decide_eq_false hp] at hv
      clear HG HBd z0 z1 z2 z3 z4 z5 y0 y1 y2 y3 y4 y5 hcln
      go_wp2_with (first | (with_reducible refine wpList_load_prd rfl _ rfl (g := w3.heap.size) rfl HP4.out ?_))
      refine (hv _).mono ?_
      rintro e w6 ⟨rfl, hb6⟩
      have hZ6 : PRow w6 w.heap.size 0 0 0 0 [] 0 := HZ4.out.below hb6 (by simp; omega)
      have HB6 := Lib.hid (HB4.out.trans (hb6.mono (by simp; omega)))
      have HZ6 := Lib.hid hZ6
      clear hZ6 hb6 HP4 HZ4 HB4 HZ3 HB3 HS3 HS4 hv
      go_wp2_with (first | (with_reducible refine wpList_store_prdz rfl _ _ rfl (g := w.heap.size) rfl rfl HZ6.out ?_))
      refine bodyPost_ret (results_prd1 (g := w.heap.size) Tryd.results18 _ rfl _ rfl (PRow.setRow HZ6.out 0 0 0 0 [] 0)) rfl ?_
      refine ⟨?_, below_setRow HB6.out (Nat.le_refl _) _⟩
      rw [HE.out, pv_row]; rfl
end Go.Proofs.YtpodgmmgphibfaaDoor
