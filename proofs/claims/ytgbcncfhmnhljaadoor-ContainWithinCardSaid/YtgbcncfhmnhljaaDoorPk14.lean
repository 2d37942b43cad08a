/-
  The first minute that lies in a span of one list and in none of another.
  The first minute that lies in a span of one list and in none of another: the walk.
  The first minute of one authority that is not one of another: firstMinute.
  The first minute of one authority that is not one of another: the walk of firstMinute.
-/
import Derived.ScopeJumps
import Derived.WalkMore
import Derived.Test.YtgbcncfhmnhljaaDoorPk13
namespace Go.Proofs.YtgbcncfhmnhljaaDoor
open Go Go.RowKit Sh Leaf

namespace Sh
/-- The first number from m on that lies in la and not in lb. -/
def fo : Nat → Int → List (Int × Int) → List (Int × Int) → Option Int
  | 0, _, _, _ => none
  | _ + 1, _, [], _ => none
  | n + 1, m, s :: t, lb => if s.2 < max m s.1 then fo n (max m s.1) t lb else
    match lb with
    | [] => some (max m s.1)
    | r :: u => if max m s.1 < r.1 then some (max m s.1) else fo n (max (max m s.1) (r.2 + 1)) (s :: t) u
theorem fo_spec : ∀ (n : Nat) (m : Int) (la lb : List (Int × Int)) (x y : Int), la.length + lb.length < n → ascS x la → ascS y lb →
    (∀ k, fo n m la lb = some k → m ≤ k ∧ spm la k ∧ ¬ spm lb k ∧ ∀ j, m ≤ j → j < k → spm la j → spm lb j) ∧ (fo n m la lb = none → ∀ j, m ≤ j → spm la j → spm lb j)
  | 0, _, _, _, _, _, h, _, _ => by omega
  | n + 1, m, [], lb, _, _, _, _, _ => by
    simp only [fo]
    exact ⟨fun k h => (by cases h), fun _ j _ h => absurd h (spm_nil _)⟩
  | n + 1, m, s :: t, lb, x, y, h, ha, hb => by
    obtain ⟨a1, a2, a3⟩ := ha
    have hlow : ∀ j, j < s.1 → ¬ spm (s :: t) j := fun j hj hk => by
      have := ascS_ge (l := s :: t) (lo := s.1) ⟨Int.le_refl _, a2, a3⟩ hk
      omega
    unfold fo
    by_cases h1 : s.2 < max m s.1
    · rw [if_pos h1]
      have hm : max m s.1 = m := by omega
      rw [hm] at h1 ⊢
      obtain ⟨i1, i2⟩ := fo_spec n m t lb (s.2 + 1) y (by simp at h; omega) a3 hb
      have e : ∀ j, m ≤ j → (spm (s :: t) j ↔ spm t j) := fun j hj => by
        rw [spm_cons]
        exact ⟨fun q => q.elim (fun q => by omega) id, .inr⟩
      refine ⟨fun k hk => ?_, fun hk j hj hs => i2 hk j hj ((e j hj).1 hs)⟩
      obtain ⟨j1, j2, j3, j4⟩ := i1 k hk
      exact ⟨j1, (e k j1).2 j2, j3, fun j hj hjk hs => j4 j hj hjk ((e j hj).1 hs)⟩
    · rw [if_neg h1]
      obtain ⟨M, hM⟩ : ∃ M, M = max m s.1 := ⟨_, rfl⟩
      rw [← hM] at h1 ⊢
      have hin : spm (s :: t) M := (spm_cons s t M).2 (.inl ⟨by omega, by omega⟩)
      have hbef : ∀ j, m ≤ j → j < M → ¬ spm (s :: t) j := fun j h1 h2 => hlow j (by omega)
      match lb, hb with
      | [], _ => exact ⟨fun k hk => by
          cases hk
          exact ⟨by omega, hin, spm_nil _, fun j q1 q2 q3 => absurd q3 (hbef j q1 q2)⟩, fun hk => by cases hk⟩
      | r :: u, hb =>
        obtain ⟨b1, b2, b3⟩ := hb
        simp only
        by_cases h2 : M < r.1
        · rw [if_pos h2]
          refine ⟨fun k hk => ?_, fun hk => by cases hk⟩
          cases hk
          refine ⟨by omega, hin, fun q => ?_, fun j q1 q2 q3 => absurd q3 (hbef j q1 q2)⟩
          have := ascS_ge (l := r :: u) (lo := r.1) ⟨Int.le_refl _, b2, b3⟩ q
          omega
        · rw [if_neg h2]
          obtain ⟨i1, i2⟩ := fo_spec n (max M (r.2 + 1)) (s :: t) u x (r.2 + 1) (by simp at h ⊢; omega) ⟨a1, a2, a3⟩ b3
          have e : ∀ j, max M (r.2 + 1) ≤ j → (spm (r :: u) j ↔ spm u j) := fun j hj => by
            rw [spm_cons]
            exact ⟨fun q => q.elim (fun q => by omega) id, .inr⟩
          have hmid : ∀ j, M ≤ j → j < max M (r.2 + 1) → spm (r :: u) j := fun j q1 q2 => (spm_cons r u j).2 (.inl ⟨by omega, by omega⟩)
          have all : ∀ j, m ≤ j → j < max M (r.2 + 1) → spm (s :: t) j → spm (r :: u) j := fun j q1 q2 q3 => by
            rcases (by omega : j < M ∨ M ≤ j) with q | q
            · exact absurd q3 (hbef j q1 q)
            · exact hmid j q q2
          refine ⟨fun k hk => ?_, fun hk j hj hs => ?_⟩
          · obtain ⟨j1, j2, j3, j4⟩ := i1 k hk
            refine ⟨by omega, j2, fun q => j3 ((e k j1).1 q), fun j q1 q2 q3 => ?_⟩
            rcases (by omega : j < max M (r.2 + 1) ∨ max M (r.2 + 1) ≤ j) with q | q
            · exact all j q1 q q3
            · exact (e j q).2 (j4 j q q2 q3)
          · rcases (by omega : j < max M (r.2 + 1) ∨ max M (r.2 + 1) ≤ j) with q | q
            · exact all j hj q hs
            · exact (e j q).2 (i2 hk j q hs)
end Sh
end Go.Proofs.YtgbcncfhmnhljaaDoor
namespace Go.Proofs.YtgbcncfhmnhljaaDoor
open Go Go.RowKit Sh Leaf

/-- What firstOutside answers. -/
def FoR (R : Option Int) (m : Int) (b : Bool) : Prop := (R = none ∧ m = 0 ∧ b = false) ∨ (R = some m ∧ b = true)
theorem fo_def (n : Nat) (m : Int) (s : Int × Int) (t lb : List (Int × Int)) : fo (n + 1) m (s :: t) lb = if s.2 < max m s.1 then fo n (max m s.1) t lb else
    match lb with
    | [] => some (max m s.1)
    | r :: u => if max m s.1 < r.1 then some (max m s.1) else fo n (max (max m s.1) (r.2 + 1)) (s :: t) u := by
  cases lb <;> simp only [fo]
/-- What is known at each jump. -/
structure CoI (w : World) (Q1 Q2 : Nat → Prop) (R : Option Int) (m : Int) (A B : Option Addr) (c d na nb n : Nat) (xs ys : List (Int × Int)) : Prop where
  fna : na = xs.length
  fnb : nb = ys.length
  fm : 0 ≤ m ∧ m ≤ 500000001
  fa : Spn w Q1 A c xs
  fb : Spn w Q2 B d ys
  fx : ∀ s ∈ xs, 0 ≤ s.1 ∧ s.1 ≤ s.2 ∧ s.2 ≤ 500000000
  fy : ∀ s ∈ ys, 0 ≤ s.1 ∧ s.1 ≤ s.2 ∧ s.2 ≤ 500000000
  fn : xs.length + ys.length < n
  fr : fo n m xs ys = R
def CoJ (w : World) (Q1 Q2 : Nat → Prop) (R : Option Int) (a' : Act) (w' : World) : Prop :=
  w' = w ∧ ∃ (m : Int) (A B : Option Addr) (c d na nb n : Nat) (xs ys : List (Int × Int)), CoI w Q1 Q2 R m A B c d na nb n xs ys ∧
    ∃ u7 u8 u9 u10 u11 u12 u13 u14 u15 u16 u17 u18 u19 u20 u21 u22 u23 u24 u25 u26 u27 u28 u29 u30 u31 u32 u33 u34 u35 u36 u37 u38 u39 u40 u41 u42 u43 u44 : Value, a' = { tmps := #[.slice A na c, .slice B nb d, undef, undef, .int .i64 0, .bool false, .int .i64 m, u7, u8, u9, u10, u11, u12, u13, u14, u15, u16, u17, u18, u19, u20, u21, u22, u23, u24, u25, u26, u27, u28, u29, u30, u31, u32, u33, u34, u35, u36, u37, u38, u39, u40, u41, u42, u43, u44], defers := [] }
def lenS : Value → Nat | .slice _ n _ => n | _ => 0
theorem CoI.dropA {w : World} {Q1 Q2 : Nat → Prop} {R : Option Int} {m M s1 s2 : Int} {A B : Option Addr} {c d na nb n : Nat} {t ys : List (Int × Int)} (h : CoI w Q1 Q2 R m A B c d na nb (n + 1) ((s1, s2) :: t) ys) (hM : M = max m s1) (h2 : s2 < M) {A' : Option Addr} (hA' : A' = if c = 1 then A else A.map (·.add (1 * 2))) :
    CoI w Q1 Q2 R M A' B (c - 1) d (na - 1) nb n t ys := by
  obtain ⟨e, hs⟩ := Seq.from scl_len h.fa 1 (by simp)
  have hx := h.fx (s1, s2) (by simp)
  have hm := h.fm
  have hn := h.fn
  have hna := h.fna
  simp only [List.length_cons] at hn hna hx
  refine ⟨by omega, h.fnb, by omega, by rw [hA']; exact hs, h.fb, fun s hs => h.fx s (List.mem_cons_of_mem _ hs), h.fy, by omega, ?_⟩
  have hr := h.fr
  rw [fo_def, ← hM, if_pos h2] at hr
  exact hr
theorem CoI.dropB {w : World} {Q1 Q2 : Nat → Prop} {R : Option Int} {m M s1 s2 r1 r2 M2 : Int} {A B : Option Addr} {c d na nb n : Nat} {t u : List (Int × Int)} (h : CoI w Q1 Q2 R m A B c d na nb (n + 1) ((s1, s2) :: t) ((r1, r2) :: u)) (hM : M = max m s1) (h2 : ¬ s2 < M) (h3 : ¬ M < r1) (hM2 : M2 = max M (r2 + 1)) {B' : Option Addr} (hB' : B' = if d = 1 then B else B.map (·.add (1 * 2))) :
    CoI w Q1 Q2 R M2 A B' c (d - 1) na (nb - 1) n ((s1, s2) :: t) u := by
  obtain ⟨e, hs⟩ := Seq.from scl_len h.fb 1 (by simp)
  have hx := h.fx (s1, s2) (by simp)
  have hy := h.fy (r1, r2) (by simp)
  have hm := h.fm
  have hn := h.fn
  have hnb := h.fnb
  simp only [List.length_cons] at hn hnb hx hy
  refine ⟨h.fna, by omega, by omega, h.fa, by rw [hB']; exact hs, h.fx, fun s hs => h.fy s (List.mem_cons_of_mem _ hs), by simp only [List.length_cons]; omega, ?_⟩
  have hr := h.fr
  rw [fo_def, ← hM, if_neg h2] at hr
  simp only [if_neg h3, ← hM2] at hr
  exact hr
set_option maxRecDepth 1000000 in
set_option maxHeartbeats 4000000 in
theorem cout {w : World} {Q1 Q2 : Nat → Prop} (A1 : Option Addr) (c1 : Nat) (la : List (Int × Int)) (A2 : Option Addr) (c2 : Nat) (lb : List (Int × Int)) (ha : Spn w Q1 A1 c1 la) (hb : Spn w Q2 A2 c2 lb) (hx : ∀ s ∈ la, 0 ≤ s.1 ∧ s.1 ≤ s.2 ∧ s.2 ≤ 500000000) (hy : ∀ s ∈ lb, 0 ≤ s.1 ∧ s.1 ≤ s.2 ∧ s.2 ≤ 500000000) :
    Calls Tryd.prog 64 #[.slice A1 la.length c1, .slice A2 lb.length c2] w fun e w' => (∃ m b, e = .returned (.tuple #[.int .i64 m, .bool b]) ∧ FoR (fo (la.length + lb.length + 1) 0 la lb) m b) ∧ w' = w := by
  have hI : CoI w Q1 Q2 (fo (la.length + lb.length + 1) 0 la lb) 0 A1 A2 c1 c2 la.length lb.length (la.length + lb.length + 1) la lb := ⟨rfl, rfl, by omega, ha, hb, hx, hy, by omega, rfl⟩
  generalize fo (la.length + lb.length + 1) 0 la lb = R at hI ⊢
  generalize la.length = na0 at hI ⊢
  generalize lb.length = nb0 at hI ⊢
  have HI := Lib.hid hI
  clear ha hb hx hy hI
  go_enter Tryd.func64, Tryd.ntmps64
  go_wp2_with fail
  refine (fun (hp : ∀ a' w', CoJ w Q1 Q2 R a' w' → Code.wp Tryd.prog _ (Exit.jump 0 (fun b x => CoJ w Q1 Q2 R b x ∧ lenS (b.tmps.getD 0 undef) + lenS (b.tmps.getD 1 undef) < lenS (a'.tmps.getD 0 undef) + lenS (a'.tmps.getD 1 undef)) _) a' w') => wp_scope_jumps 0 (CoJ w Q1 Q2 R) (fun a' _ => lenS (a'.tmps.getD 0 undef) + lenS (a'.tmps.getD 1 undef)) rfl ?_ (fun a' w' h => wp_seq (wp_skip (hp a' w' h)))) ?_
  · go_wp2_with fail
    go_step3
    rename_i K hK
    refine hK _ _ (wp_mono (hp _ _ ⟨rfl, _, _, _, _, _, _, _, _, _, _, HI.out, _, _, _, _, _, _, _, _, _, _, _, _, _, _, _, _, _, _, _, _, _, _, _, _, _, _, _, _, _, _, _, _, _, _, _, _, _, _, rfl⟩) ?_)
    intro e a' w' h
    cases e <;> first | exact h | exact ⟨h.1, h.2.1⟩
  · rintro a' w' ⟨rfl, m, A, B, c, d, na, nb, n, xs, ys, hI, u7, u8, u9, u10, u11, u12, u13, u14, u15, u16, u17, u18, u19, u20, u21, u22, u23, u24, u25, u26, u27, u28, u29, u30, u31, u32, u33, u34, u35, u36, u37, u38, u39, u40, u41, u42, u43, u44, rfl⟩
    obtain ⟨n', rfl⟩ : ∃ k, n = k + 1 := ⟨n - 1, by have := hI.fn; omega⟩
    have HI := Lib.hid hI
    have hna := hI.fna
    have hnb := hI.fnb
    rcases xs with _ | ⟨⟨s1, s2⟩, t⟩
    · simp only [List.length_nil] at hna
      subst hna
      have hR' : R = none := by rw [← hI.fr]; rfl
      clear hI HI hnb
      go_wp2
      simp only [Exit.jump]
      go_ret2
      exact ⟨⟨_, _, rfl, .inl ⟨hR', rfl, rfl⟩⟩, rfl⟩
    obtain ⟨g, o, rfl, -, hgl, y1, y2⟩ := Spn.get hI.fa 0 (s1, s2) rfl
    simp only [Nat.zero_mul, Nat.add_zero] at y1 y2
    have hs := hI.fx (s1, s2) (by simp)
    simp only at hs
    have hm := hI.fm
    have hr := hI.fr
    have hna1 : 1 ≤ na := by rw [hna]; simp
    have hcA : ∀ W, (Instr.sliceAt 23 (.slice (some ⟨g, o, none⟩) na c) (some (.int .i64 1)) none none).run Tryd.prog W = _ := fun W => run_seq_from (P := Tryd.prog) (n := 2) (t := 23) (by kernel_rfl) (by kernel_rfl) (some ⟨g, o, none⟩) na c 1 hna1 W
    obtain ⟨A', hA'⟩ : ∃ A', A' = if c = 1 then some (⟨g, o, none⟩ : Addr) else (some (⟨g, o, none⟩ : Addr)).map (·.add (1 * 2)) := ⟨_, rfl⟩
    rw [← hA'] at hcA
    have HA' := Lib.hid hA'
    clear hA'
    obtain ⟨M, hM⟩ : ∃ M, M = max m s1 := ⟨_, rfl⟩
    have e1 : (if m < s1 then s1 else m) = M := by omega
    have e1' : max m s1 = M := hM.symm
    have hMb : 0 ≤ M ∧ M ≤ 500000001 := by omega
    have hnai : (0 : Int) < (na : Int) := by omega
    have hnae : ¬ (na : Int) = 0 := by omega
    have HNA := Lib.hid (And.intro hna (And.intro hnb hM))
    rw [fo_def, ← hM] at hr
    have HRR := Lib.hid hr
    clear hI hna hnb hM hr hs hm
    by_cases h2 : s2 < M
    · clear HRR
      go_wp2_with fail
      go_step3
      refine ⟨rfl, ⟨rfl, _, _, _, _, _, _, _, _, _, _, HI.out.dropA HNA.out.2.2 h2 HA'.out, _, _, _, _, _, _, _, _, _, _, _, _, _, _, _, _, _, _, _, _, _, _, _, _, _, _, _, _, _, _, _, _, _, _, _, _, _, _, rfl⟩, ?_⟩
      simp [lenS]
      omega
    have HH2 := Lib.hid h2
    rcases ys with _ | ⟨⟨r1, r2⟩, u⟩
    · have hnb : nb = 0 := HNA.out.2.1
      subst hnb
      have hR' : R = some M := by have := HRR.out; simp only [if_neg h2] at this; exact this.symm
      clear HRR HI HNA
      go_wp2
      simp only [Exit.jump]
      go_ret2
      exact ⟨⟨_, _, rfl, .inr ⟨hR', rfl⟩⟩, rfl⟩
    obtain ⟨g2, o2, rfl, -, hgl2, y3, y4⟩ := Spn.get HI.out.fb 0 (r1, r2) rfl
    simp only [Nat.zero_mul, Nat.add_zero] at y3 y4
    have hrb := HI.out.fy (r1, r2) (by simp)
    simp only at hrb
    have hnb1 : 1 ≤ nb := by rw [HNA.out.2.1]; simp
    have hnbe : ¬ (nb : Int) = 0 := by omega
    have hnbi : (0 : Int) < (nb : Int) := by omega
    have hnbb : ((nb : Int) == 0) = false := by simp; omega
    by_cases h3 : M < r1
    · have hR' : R = some M := by have := HRR.out; simp only [if_neg h2, if_pos h3] at this; exact this.symm
      clear HRR HI HNA hrb
      go_wp2
      simp only [Exit.jump]
      go_ret2
      exact ⟨⟨_, _, rfl, .inr ⟨hR', rfl⟩⟩, rfl⟩
    · have hcB : ∀ W, (Instr.sliceAt 23 (.slice (some ⟨g2, o2, none⟩) nb d) (some (.int .i64 1)) none none).run Tryd.prog W = _ := fun W => run_seq_from (P := Tryd.prog) (n := 2) (t := 23) (by kernel_rfl) (by kernel_rfl) (some ⟨g2, o2, none⟩) nb d 1 hnb1 W
      obtain ⟨B', hB'⟩ : ∃ B', B' = if d = 1 then some (⟨g2, o2, none⟩ : Addr) else (some (⟨g2, o2, none⟩ : Addr)).map (·.add (1 * 2)) := ⟨_, rfl⟩
      rw [← hB'] at hcB
      have HB' := Lib.hid hB'
      clear hB'
      have HH3 := Lib.hid h3
      obtain ⟨M2, hM2⟩ : ∃ M2, M2 = max M (r2 + 1) := ⟨_, rfl⟩
      have hwr : IntKind.i64.wrap (r2 + 1) = r2 + 1 := by rw [IntKind.wrap_i64]; omega
      have e2 : (if M < r2 + 1 then r2 + 1 else M) = M2 := by omega
      have e2' : max M (r2 + 1) = M2 := hM2.symm
      have HM2 := Lib.hid hM2
      clear HRR hM2 hrb
      go_wp2_with fail
      go_step3
      refine ⟨rfl, ⟨rfl, _, _, _, _, _, _, _, _, _, _, HI.out.dropB HNA.out.2.2 (by have := HH2.out; omega) (by have := HH3.out; omega) HM2.out HB'.out, _, _, _, _, _, _, _, _, _, _, _, _, _, _, _, _, _, _, _, _, _, _, _, _, _, _, _, _, _, _, _, _, _, _, _, _, _, _, rfl⟩, ?_⟩
      simp [lenS]
      omega
end Go.Proofs.YtgbcncfhmnhljaaDoor
namespace Go.Proofs.YtgbcncfhmnhljaaDoor
open Go Go.RowKit Sh Leaf

theorem cdl_mins {a : Aut} (ha : Cok a) (d x : Nat) : spm (cdl a d) (x : Int) ↔ mins a x ∧ x / 1440 = d := by
  unfold cdl mins
  by_cases hz : a.days / 2 ^ (d % 7) % 2 = 0
  · rw [if_pos hz]
    refine iff_of_false (spm_nil _) fun h => ?_
    have := h.1.2.2.1
    rw [h.2] at this
    omega
  · rw [if_neg hz, cday_spm]
    constructor
    · rintro ⟨h1, h2, h3⟩
      obtain ⟨s, hs, s1, s2⟩ := h3
      have := ha.mem s hs
      have e1 : x / 1440 = d := by omega
      refine ⟨⟨h1, h2, ?_, ?_⟩, e1⟩
      · rw [e1]; omega
      · have e2 : ((x % 1440 : Nat) : Int) = (x : Int) - (d : Int) * 1440 := by omega
        rw [e2]
        exact ⟨s, hs, s1, s2⟩
    · rintro ⟨⟨h1, h2, h3, h4⟩, e1⟩
      refine ⟨h1, h2, ?_⟩
      have e2 : ((x % 1440 : Nat) : Int) = (x : Int) - (d : Int) * 1440 := by omega
      rw [e2] at h4
      exact h4
theorem cdl_asc {a : Aut} (ha : Cok a) (d : Nat) : ascS 0 (cdl a d) := by
  unfold cdl
  split
  · trivial
  · exact ascS_mono (cday_asc _ _ _ _ 0 ha.sep) (by omega)
theorem cdl_mem {a : Aut} (ha : Cok a) (d : Nat) : ∀ s ∈ cdl a d, 0 ≤ s.1 ∧ s.1 ≤ s.2 ∧ s.2 ≤ 500000000 := by
  intro s hs
  unfold cdl at hs
  split at hs
  · simp at hs
  · have := cday_mem _ _ _ _ s hs
    have h1 := ha.lo
    have h2 := ha.hi
    omega
/-- The answer for a day. -/
theorem day_found {a b : Aut} (ha : Cok a) (hb : Cok b) {d : Nat} (hbef : before a b d 0) {m : Int} {f : Bool} (h : FoR (fo ((cdl a d).length + (cdl b d).length + 1) 0 (cdl a d) (cdl b d)) m f) :
    (f = true ∧ ∃ k : Nat, m = k ∧ FirstMin a b k) ∨ (f = false ∧ m = 0 ∧ before a b (d + 1) 0) := by
  obtain ⟨s1, s2⟩ := fo_spec _ 0 (cdl a d) (cdl b d) 0 0 (Nat.lt_succ_self _) (cdl_asc ha d) (cdl_asc hb d)
  rcases h with ⟨hR, rfl, rfl⟩ | ⟨hR, rfl⟩
  · refine .inr ⟨rfl, rfl, fun x hx hd => ?_⟩
    rcases (by omega : x / 1440 < d ∨ x / 1440 = d) with q | q
    · exact hbef x (.inl q) hd
    · have h1 := (cdl_mins ha d x).2 ⟨hd.1, q⟩
      exact hd.2 ((cdl_mins hb d x).1 (s2 hR _ (by omega) h1)).1
  · obtain ⟨h0, h1, h2, h3⟩ := s1 m hR
    obtain ⟨k, rfl⟩ := Int.eq_ofNat_of_zero_le h0
    have hk := (cdl_mins ha d k).1 h1
    refine .inl ⟨rfl, k, rfl, hk.1, fun q => h2 ((cdl_mins hb d k).2 ⟨q, hk.2⟩), fun x hx hax => ?_⟩
    rcases (by omega : x / 1440 < d ∨ x / 1440 = d) with q | q
    · exact Classical.byContradiction fun n => hbef x (.inl q) ⟨hax, n⟩
    · exact ((cdl_mins hb d x).1 (h3 x (by omega) (by omega) ((cdl_mins ha d x).2 ⟨hax, q⟩))).1
/-- The days that are left out. -/
theorem day_skip {a b : Aut} {f en : Nat} (hf : a.lo < ((f : Int) + 1) * 1440) (hen : (en : Int) * 1440 ≤ b.hi) (h : before a b (f + 8) 0) : before a b (max (f + 8) en) 0 := by
  have key : ∀ x : Nat, x / 1440 < max (f + 8) en → ¬ dif a b x := by
    intro x
    induction x using Nat.strongRecOn with
    | _ x ih =>
      intro hx hd
      rcases (by omega : x / 1440 < f + 8 ∨ f + 8 ≤ x / 1440) with q | q
      · exact h x (.inl q) hd
      · have h7 : 10080 ≤ x := by omega
        exact ih (x - 10080) (by omega) (by omega) (dif_week hd h7 (by omega) fun _ => by omega)
  exact fun x hx => key x (by omega)
end Go.Proofs.YtgbcncfhmnhljaaDoor
namespace Go.Proofs.YtgbcncfhmnhljaaDoor
open Go Go.RowKit Sh Leaf

/-- What firstMinute answers. -/
def FmR (a b : Aut) (m : Int) (f : Bool) : Prop := (f = true ∧ ∃ k : Nat, m = k ∧ FirstMin a b k) ∨ (f = false ∧ NoMin a b)
def CfP (a b : Aut) (e : Ending) : Prop := ∃ m f, e = .returned (.tuple #[.int .i64 m, .bool f]) ∧ FmR a b m f
theorem law_day {p W : World} {Q : Nat → Prop} {x : Value} {a : Aut} (hb : Below p.heap.size p W) (hx : Av W Q x a) (ha : Cok a) (day : Nat) (hday : day ≤ 100000) :
    Calls Tryd.prog 65 #[x, .int .i64 (day : Int)] W fun e w' => (∃ A c, e = .returned (.slice A (cdl a day).length c) ∧ Spn w' (fun _ => True) A c (cdl a day)) ∧ Below p.heap.size p w' ∧ Below W.heap.size W w' :=
  (conday hx ha day hday).mono fun e w' h => by
    obtain ⟨⟨A, c, he, hS⟩, h2⟩ := h
    exact ⟨⟨A, c, he, hS.mono fun _ _ _ => trivial⟩, hb.trans (h2.mono hb.size), h2⟩
theorem law_out {p W : World} {A1 A2 : Option Addr} {c1 c2 : Nat} {a b : Aut} (d : Nat) (hb : Below p.heap.size p W) (ha : Cok a) (hb2 : Cok b) (h1 : Spn W (fun _ => True) A1 c1 (cdl a d)) (h2 : Spn W (fun _ => True) A2 c2 (cdl b d)) (hbef : before a b d 0) :
    Calls Tryd.prog 64 #[.slice A1 (cdl a d).length c1, .slice A2 (cdl b d).length c2] W fun e w' => (∃ m f, e = .returned (.tuple #[.int .i64 m, .bool f]) ∧ ((f = true ∧ ∃ k : Nat, m = k ∧ FirstMin a b k) ∨ (f = false ∧ m = 0 ∧ before a b (d + 1) 0))) ∧ Below p.heap.size p w' :=
  (cout A1 c1 _ A2 c2 _ h1 h2 (cdl_mem ha d) (cdl_mem hb2 d)).mono fun e w' h => by
    obtain ⟨⟨m, f, he, hf⟩, rfl⟩ := h
    exact ⟨⟨m, f, he, day_found ha hb2 hbef hf⟩, hb⟩
set_option linter.unusedSimpArgs false in
set_option maxRecDepth 100000 in
set_option maxHeartbeats 4000000 in
theorem cfirst {w : World} {Q1 Q2 : Nat → Prop} {x y : Value} {a b : Aut} (hx : Av w Q1 x a) (hy : Av w Q2 y b) (ha : Cok a) (hb : Cok b) :
    Calls Tryd.prog 41 #[x, y] w fun e w' => CfP a b e ∧ Below w.heap.size w w' := by
  have hx0 := hx.any
  have hy0 := hy.any
  obtain ⟨A1, c1, rfl, hS1, hab1⟩ := hx
  obtain ⟨A2, c2, rfl, hS2, hab2⟩ := hy
  obtain ⟨p, hp⟩ : ∃ p, p = (w.alloc (.cells (avl a A1 c1) 25)).alloc (.cells (avl b A2 c2) 25) := ⟨_, rfl⟩
  have hbl : Below w.heap.size w p := by rw [hp]; exact ab_below _ _ _
  have hr1 : ARow p w.heap.size a.none a.zones a.lines a.days a.lo a.hi (.slice A1 a.daily.length c1) a.holder := by rw [hp]; exact (Whole.here _ _ _).alloc _
  have hr2 : ARow p (w.heap.size + 1) b.none b.zones b.lines b.days b.lo b.hi (.slice A2 b.daily.length c2) b.holder := by rw [hp]; exact Whole.at_ _ _ _ _ (by simp)
  have hcc : ∀ W, Below p.heap.size p W → W.cell? ⟨w.heap.size, 0, none⟩ = some (.bool a.none) ∧ W.cell? ⟨w.heap.size, 1, none⟩ = some (.int .u64 (a.zones : Int)) ∧ W.cell? ⟨w.heap.size, 2, none⟩ = some (.int .u64 (a.lines : Int)) ∧ W.cell? ⟨w.heap.size, 3, none⟩ = some (.int .u64 (a.days : Int)) ∧ W.cell? ⟨w.heap.size, 4, none⟩ = some (.int .i64 a.lo) ∧ W.cell? ⟨w.heap.size, 5, none⟩ = some (.int .i64 a.hi) ∧ W.cell? ⟨w.heap.size, 6, none⟩ = some (.slice A1 a.daily.length c1) ∧ W.cell? ⟨w.heap.size, 7, none⟩ = some (.string (sof a.holder)) ∧ W.cell? ⟨(w.heap.size + 1), 0, none⟩ = some (.bool b.none) ∧ W.cell? ⟨(w.heap.size + 1), 1, none⟩ = some (.int .u64 (b.zones : Int)) ∧ W.cell? ⟨(w.heap.size + 1), 2, none⟩ = some (.int .u64 (b.lines : Int)) ∧ W.cell? ⟨(w.heap.size + 1), 3, none⟩ = some (.int .u64 (b.days : Int)) ∧ W.cell? ⟨(w.heap.size + 1), 4, none⟩ = some (.int .i64 b.lo) ∧ W.cell? ⟨(w.heap.size + 1), 5, none⟩ = some (.int .i64 b.hi) ∧ W.cell? ⟨(w.heap.size + 1), 6, none⟩ = some (.slice A2 b.daily.length c2) ∧ W.cell? ⟨(w.heap.size + 1), 7, none⟩ = some (.string (sof b.holder)) := fun W hb => by
    obtain ⟨x0, x1, x2, x3, x4, x5, x6, x7⟩ := ARow.cells (Whole.below hr1 hb (Whole.lt hr1))
    obtain ⟨y0, y1, y2, y3, y4, y5, y6, y7⟩ := ARow.cells (Whole.below hr2 hb (Whole.lt hr2))
    exact ⟨x0, x1, x2, x3, x4, x5, x6, x7, y0, y1, y2, y3, y4, y5, y6, y7⟩
  have hav1 : ∀ W, Below p.heap.size p W → Av W (fun _ => True) (.agg (arow a.none a.zones a.lines a.days a.lo a.hi (.slice A1 a.daily.length c1) a.holder)) a := fun W h => (Av.below hx0 (hbl.trans (h.mono hbl.size)) (Nat.le_refl _)).all
  have hav2 : ∀ W, Below p.heap.size p W → Av W (fun _ => True) (.agg (arow b.none b.zones b.lines b.days b.lo b.hi (.slice A2 b.daily.length c2) b.holder)) b := fun W h => (Av.below hy0 (hbl.trans (h.mono hbl.size)) (Nat.le_refl _)).all
  obtain ⟨f, hf⟩ : ∃ f, f = a.lo.toNat / 1440 := ⟨_, rfl⟩
  obtain ⟨l, hl⟩ : ∃ f, f = a.hi.toNat / 1440 := ⟨_, rfl⟩
  obtain ⟨en, hen⟩ : ∃ f, f = b.hi.toNat / 1440 := ⟨_, rfl⟩
  have a1 := ha.lo
  have a2 := ha.hi
  have a3 := hb.hi
  have q1 : a.lo.tdiv 1440 = (f : Int) := by rw [Int.tdiv_eq_ediv_of_nonneg a1.1]; omega
  have q2 : a.hi.tdiv 1440 = (l : Int) := by rw [Int.tdiv_eq_ediv_of_nonneg a2.1]; omega
  have q3 : b.hi.tdiv 1440 = (en : Int) := by rw [Int.tdiv_eq_ediv_of_nonneg a3.1]; omega
  have v1 : IntKind.i64.wrap (f : Int) = (f : Int) := by rw [IntKind.wrap_i64]; omega
  have v2 : IntKind.i64.wrap (l : Int) = (l : Int) := by rw [IntKind.wrap_i64]; omega
  have v3 : IntKind.i64.wrap (en : Int) = (en : Int) := by rw [IntKind.wrap_i64]; omega
  have u1 : IntKind.i64.wrap ((f : Int) + 1) = (f : Int) + 1 := by rw [IntKind.wrap_i64]; omega
  have u2 : IntKind.i64.wrap ((f : Int) + 1 + 7) = (f : Int) + 8 := by rw [IntKind.wrap_i64]; omega
  have hfl : f ≤ 50000 ∧ l ≤ 50000 ∧ en ≤ 50000 := by omega
  have hlow : a.lo < ((f : Int) + 1) * 1440 := by omega
  have hstart : ((f : Int)) * 1440 ≤ a.lo := by omega
  have hlast : a.hi < ((l : Int) + 1) * 1440 := by omega
  have hend : (en : Int) * 1440 ≤ b.hi := by omega
  have HP := Lib.hid (And.intro hcc (And.intro hav1 (And.intro hav2 (And.intro hbl (And.intro ha hb)))))
  have HQ := Lib.hid (And.intro hlow (And.intro hstart (And.intro hlast hend)))
  obtain ⟨x0, x1, x2, x3, x4, x5, x6, x7⟩ := ARow.cells hr1
  obtain ⟨y0, y1, y2, y3, y4, y5, y6, y7⟩ := ARow.cells hr2
  clear hx0 hy0 hS1 hS2 hab1 hab2 hbl hr1 hr2 hcc hav1 hav2 ha hb hf hl hen a1 a2 a3 hlow hstart hlast hend
  go_enter Tryd.func41, Tryd.ntmps41
  go_upto_region 1 with fail
  rw [← hp]
  clear hp
  go_quiet (fail)
  go_wp2_with fail
  have HN : Hid (Below p.heap.size p (p.drewN nq)) := Lib.hid (below_drewN (Below.refl _ _) nq)
  generalize p.drewN nq = p1 at HN ⊢
  clear x0 x1 x2 x3 x4 x5 x6 x7 y0 y1 y2 y3 y4 y5 y6 y7 q1 q2 q3 v1 v2 v3
  go_loopw [9] (fun v wr => ∃ d : Nat, v = .int .i64 d ∧ d ≤ 60000 ∧ before a b d 0 ∧ Below p.heap.size p wr) (fun v _ => 100000 - (intOf v).toNat)
  case atStart => exact ⟨f, rfl, by omega, before.start f HQ.out.2.1, HN.out⟩
  case round =>
    obtain ⟨d, rfl, hd, hbef, hbw⟩ := hrel
    by_cases hdl : d ≤ l
    · have hdl' : (d : Int) ≤ (l : Int) := by omega
      have HBF := Lib.hid hbef
      have HBW := Lib.hid hbw
      clear hbef hbw HN
      have HHQ := Lib.hid hfl
      obtain ⟨E, hE⟩ : ∃ E, ((d : Int) == (f : Int) + 8) = E := ⟨_, rfl⟩
      go_upto_if 31 with fail
      go_cut [9] (fun s wx => ∃ d' : Nat, s = .int .i64 d' ∧ d ≤ d' ∧ d' ≤ 50000 ∧ before a b d' 0 ∧ wx = wr)
      case first =>
        by_cases h8 : d = f + 8
        · have hE' : E = true := by rw [← hE]; simp; omega
          subst hE'
          have hE2 : (d : Int) = (f : Int) + 8 := by omega
          obtain ⟨D, hD⟩ : ∃ D, D = max d en := ⟨_, rfl⟩
          have e1 : (if (d : Int) < (en : Int) then (en : Int) else (d : Int)) = (D : Int) := by omega
          have e2 : max (d : Int) (en : Int) = (D : Int) := by omega
          have hX : Hid (d ≤ D ∧ D ≤ 50000 ∧ before a b D 0) := Lib.hid ⟨by omega, by omega, by rw [hD, h8]; exact day_skip HQ.out.1 HQ.out.2.2.2 (by rw [← h8]; exact HBF.out)⟩
          have HD := Lib.hid hD
          clear hD h8 hE2 hdl hdl' hd e1 e2
          go_wp2_with fail
          all_goals
            go_meet
            first
              | exact ⟨D, rfl, hX.out.1, hX.out.2.1, hX.out.2.2, rfl⟩
              | (obtain rfl : D = en := by have := HD.out; omega
                 exact ⟨D, rfl, hX.out.1, hX.out.2.1, hX.out.2.2, rfl⟩)
              | (obtain rfl : D = d := by have := HD.out; omega
                 exact ⟨D, rfl, hX.out.1, hX.out.2.1, hX.out.2.2, rfl⟩)
        · have hE' : E = false := by rw [← hE]; simp; omega
          subst hE'
          have hX : Hid (d ≤ 50000) := Lib.hid (by omega)
          clear h8 hdl hdl' hd
          go_wp2_with fail
          go_meet
          exact ⟨d, rfl, Nat.le_refl _, hX.out, HBF.out, rfl⟩
      case rest =>
        obtain ⟨d', rfl, hdd, hd5, hbf, rfl⟩ := hcut
        have HBF := Lib.hid hbf
        clear hbf hdl' u1 u2 hfl
        go_upto_region 7 with fail
        refine wp_region_held_drew (S := fun W => W.cell? ⟨w.heap.size, 0, none⟩ = some (.bool a.none) ∧ W.cell? ⟨w.heap.size, 1, none⟩ = some (.int .u64 (a.zones : Int)) ∧ W.cell? ⟨w.heap.size, 2, none⟩ = some (.int .u64 (a.lines : Int)) ∧ W.cell? ⟨w.heap.size, 3, none⟩ = some (.int .u64 (a.days : Int)) ∧ W.cell? ⟨w.heap.size, 4, none⟩ = some (.int .i64 a.lo) ∧ W.cell? ⟨w.heap.size, 5, none⟩ = some (.int .i64 a.hi) ∧ W.cell? ⟨w.heap.size, 6, none⟩ = some (.slice A1 a.daily.length c1) ∧ W.cell? ⟨w.heap.size, 7, none⟩ = some (.string (sof a.holder)) ∧ W.cell? ⟨(w.heap.size + 1), 0, none⟩ = some (.bool b.none) ∧ W.cell? ⟨(w.heap.size + 1), 1, none⟩ = some (.int .u64 (b.zones : Int)) ∧ W.cell? ⟨(w.heap.size + 1), 2, none⟩ = some (.int .u64 (b.lines : Int)) ∧ W.cell? ⟨(w.heap.size + 1), 3, none⟩ = some (.int .u64 (b.days : Int)) ∧ W.cell? ⟨(w.heap.size + 1), 4, none⟩ = some (.int .i64 b.lo) ∧ W.cell? ⟨(w.heap.size + 1), 5, none⟩ = some (.int .i64 b.hi) ∧ W.cell? ⟨(w.heap.size + 1), 6, none⟩ = some (.slice A2 b.daily.length c2) ∧ W.cell? ⟨(w.heap.size + 1), 7, none⟩ = some (.string (sof b.holder))) (by kernel_rfl) (HP.out.1 _ HBW.out.drew) (fun hHeld => ?_)
        apply wpAnyH_take (i := 0) rfl (by kernel_rfl) (by kernel_rfl) (by kernel_rfl)
        case hQ => exact fun _ _ _ h => h
        case hS => exact hHeld
        case hy => (refine Or.inl ⟨by rfl, ?_⟩; intro w hSw; go_split_ands; go_simp; (try with_reducible rfl))
        (try simp only [List.getElem_toArray, List.getElem_cons_zero, Act.put, List.setIfInBounds_toArray, List.set_cons_zero, List.set_cons_succ])
        apply wpAnyH_take (i := 1) rfl (by kernel_rfl) (by kernel_rfl) (by kernel_rfl)
        case hQ => exact fun _ _ _ h => h
        case hS => exact hHeld
        case hy => (refine Or.inl ⟨by rfl, ?_⟩; intro w hSw; go_split_ands; go_simp; (try with_reducible rfl))
        (try simp only [List.getElem_toArray, List.getElem_cons_succ, List.getElem_cons_zero, Act.put, List.setIfInBounds_toArray, List.set_cons_zero, List.set_cons_succ])
        apply wpAnyH_take (i := 3) rfl (by kernel_rfl) (by kernel_rfl) (by kernel_rfl)
        case hQ => exact fun _ _ _ h => h
        case hS => exact hHeld
        case hy => (refine Or.inl ⟨by rfl, ?_⟩; intro w hSw; go_split_ands; go_simp; (try with_reducible rfl))
        (try simp only [List.getElem_toArray, List.getElem_cons_succ, List.getElem_cons_zero, Act.put, List.setIfInBounds_toArray, List.set_cons_zero, List.set_cons_succ])
        apply wpAnyH_take (i := 4) rfl (by kernel_rfl) (by kernel_rfl) (by kernel_rfl)
        case hQ => exact fun _ _ _ h => h
        case hS => exact hHeld
        case hy => (refine Or.inl ⟨by rfl, ?_⟩; intro w hSw; go_split_ands; go_simp; (try with_reducible rfl))
        (try simp only [List.getElem_toArray, List.getElem_cons_succ, List.getElem_cons_zero, Act.put, List.setIfInBounds_toArray, List.set_cons_zero, List.set_cons_succ])
        refine wpAnyH_ready (rs := [2]) (by kernel_rfl) (by simp) ?_
        refine AllReadyH.cons rfl (fun K hK => ?_) AllReadyH.nil
        (try simp only [List.getElem_toArray, List.getElem_cons_succ, List.getElem_cons_zero])
        go_simp
        go_at_call 65
        refine (law_day HBW.out.drew (HP.out.2.1 _ HBW.out.drew) HP.out.2.2.2.2.1 d' (by omega)).mono ?_
        rintro e W1 ⟨⟨B1, k1, rfl, hT1⟩, b1, r1⟩
        refine hK.out _ _ (HP.out.1 _ b1) (fun hHeld => ?_)
        clear hK K
        (try simp only [List.getElem_toArray, List.getElem_cons_succ, List.getElem_cons_zero, Act.put, List.setIfInBounds_toArray, List.set_cons_zero, List.set_cons_succ])
        refine wpAnyH_ready (rs := [5]) (by kernel_rfl) (by simp) ?_
        refine AllReadyH.cons rfl (fun K hK => ?_) AllReadyH.nil
        (try simp only [List.getElem_toArray, List.getElem_cons_succ, List.getElem_cons_zero])
        go_simp
        go_at_call 65
        refine (law_day b1 (HP.out.2.2.1 _ b1) HP.out.2.2.2.2.2 d' (by omega)).mono ?_
        rintro e W2 ⟨⟨B2, k2, rfl, hT2⟩, b2, r2⟩
        refine hK.out _ _ (HP.out.1 _ b2) (fun hHeld => ?_)
        clear hK K
        (try simp only [List.getElem_toArray, List.getElem_cons_succ, List.getElem_cons_zero, Act.put, List.setIfInBounds_toArray, List.set_cons_zero, List.set_cons_succ])
        refine wpAnyH_ready (rs := [6]) (by kernel_rfl) (by simp) ?_
        refine AllReadyH.cons rfl (fun K hK => ?_) AllReadyH.nil
        (try simp only [List.getElem_toArray, List.getElem_cons_succ, List.getElem_cons_zero])
        go_simp
        go_at_call 64
        refine (law_out d' b2 HP.out.2.2.2.2.1 HP.out.2.2.2.2.2 (Seq.below hT1 r2 (Nat.le_refl _)) hT2 HBF.out).mono ?_
        rintro e W3 ⟨⟨mm, ff, rfl, hff⟩, b3⟩
        refine hK.out _ _ (HP.out.1 _ b3) (fun hHeld => ?_)
        clear hK K
        (try simp only [List.getElem_toArray, List.getElem_cons_succ, List.getElem_cons_zero, Act.put, List.setIfInBounds_toArray, List.set_cons_zero, List.set_cons_succ])
        apply wpAnyH_take (i := 7) rfl (by kernel_rfl) (by kernel_rfl) (by kernel_rfl)
        case hQ => exact fun _ _ _ h => h
        case hS => exact hHeld
        case hy => (refine Or.inl ⟨by rfl, ?_⟩; intro w hSw; go_split_ands; go_simp; (try with_reducible rfl))
        (try simp only [List.getElem_toArray, List.getElem_cons_succ, List.getElem_cons_zero, Act.put, List.setIfInBounds_toArray, List.set_cons_zero, List.set_cons_succ])
        apply wpAnyH_take (i := 8) rfl (by kernel_rfl) (by kernel_rfl) (by kernel_rfl)
        case hQ => exact fun _ _ _ h => h
        case hS => exact hHeld
        case hy => (refine Or.inl ⟨by rfl, ?_⟩; intro w hSw; go_split_ands; go_simp; (try with_reducible rfl))
        (try simp only [List.getElem_toArray, List.getElem_cons_succ, List.getElem_cons_zero, Act.put, List.setIfInBounds_toArray, List.set_cons_zero, List.set_cons_succ])
        apply wpAnyH_take (i := 9) rfl (by kernel_rfl) (by kernel_rfl) (by kernel_rfl)
        case hQ => exact fun _ _ _ h => h
        case hS => exact hHeld
        case hy => (refine Or.inl ⟨by rfl, ?_⟩; intro w hSw; go_split_ands; go_simp; (try with_reducible rfl))
        (try simp only [List.getElem_toArray, List.getElem_cons_succ, List.getElem_cons_zero, Act.put, List.setIfInBounds_toArray, List.set_cons_zero, List.set_cons_succ])
        apply wpAnyH_take (i := 10) rfl (by kernel_rfl) (by kernel_rfl) (by kernel_rfl)
        case hQ => exact fun _ _ _ h => h
        case hS => exact hHeld
        case hy => (refine Or.inl ⟨by rfl, ?_⟩; intro w hSw; go_split_ands; go_simp; (try with_reducible rfl))
        (try simp only [List.getElem_toArray, List.getElem_cons_succ, List.getElem_cons_zero, Act.put, List.setIfInBounds_toArray, List.set_cons_zero, List.set_cons_succ])
        apply wpAnyH_take (i := 11) rfl (by kernel_rfl) (by kernel_rfl) (by kernel_rfl)
        case hQ => exact fun _ _ _ h => h
        case hS => exact hHeld
        case hy => (refine Or.inl ⟨by rfl, ?_⟩; intro w hSw; go_split_ands; go_simp; (try with_reducible rfl))
        (try simp only [List.getElem_toArray, List.getElem_cons_succ, List.getElem_cons_zero, Act.put, List.setIfInBounds_toArray, List.set_cons_zero, List.set_cons_succ])
        refine wpAnyH_done (by kernel_rfl) ?_ _
        have HB3 := Lib.hid b3
        clear b1 b2 b3 r1 r2 hT1 hT2
        rcases hff with ⟨rfl, k, rfl, hk⟩ | ⟨rfl, rfl, hk⟩
        · have HX := Lib.hid hk
          clear hk
          go_wp2
          go_ret2
          exact ⟨⟨_, _, rfl, .inl ⟨rfl, k, rfl, HX.out⟩⟩, HP.out.2.2.2.1.trans (HB3.out.mono HP.out.2.2.2.1.size)⟩
        · have hw1 : IntKind.i64.wrap ((d' : Int) + 1) = ((d' + 1 : Nat) : Int) := by rw [IntKind.wrap_i64]; omega
          have HX := Lib.hid hk
          clear hk
          go_wp2
          go_roundw
          case rel => exact ⟨d' + 1, by go_num, by omega, HX.out, HB3.out⟩
          case measure => simp [intOf]; omega
    · have hdl' : ¬ (d : Int) ≤ (l : Int) := by omega
      have hno : NoMin a b := hbef.done (by have := HQ.out.2.2.1; omega)
      have HX := Lib.hid (And.intro hno hbw)
      clear hno hbw hbef
      go_wp2
      go_ret2
      exact ⟨⟨_, _, rfl, .inr ⟨rfl, HX.out.1⟩⟩, HP.out.2.2.2.1.trans (HX.out.2.mono HP.out.2.2.2.1.size)⟩
end Go.Proofs.YtgbcncfhmnhljaaDoor
