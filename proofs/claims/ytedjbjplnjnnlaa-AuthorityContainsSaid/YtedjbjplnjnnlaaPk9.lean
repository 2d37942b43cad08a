/-
  The program's common: the common minutes of two lists of spans.
-/
import Derived.BigRegion
import Derived.BigQuiet
import Derived.Deep.CutBlock
import Derived.Deep.DeepCutAuto
import Derived.Test.YtedjbjplnjnnlaaPk7
namespace Go.Proofs.Ytedjbjplnjnnlaa
open Go Go.RowKit Sh Leaf

/-- The length of a slice value. -/
def slen : Value → Nat
  | .slice _ n _ => n
  | _ => 0
theorem sbd_cmn {s t : Int × Int} (hs : sbd s) (ht : sbd t) : sbd (max s.1 t.1, min s.2 t.2) := by
  obtain ⟨⟨a, b⟩, c, d⟩ := hs
  obtain ⟨⟨e, f⟩, g, h⟩ := ht
  exact ⟨⟨by simp only; omega, by simp only; omega⟩, ⟨by simp only; omega, by simp only; omega⟩⟩
/-- What is known while common goes on. -/
structure CmI (w : World) (la lb : List (Int × Int)) (x y v : Value) (wr : World) (A1 : Option Addr) (n1 c1 : Nat) (ra : List (Int × Int)) (A2 : Option Addr) (n2 c2 : Nat) (rb l : List (Int × Int)) : Prop where
  ex : x = .slice A1 n1 c1
  ey : y = .slice A2 n2 c2
  en1 : n1 = ra.length
  en2 : n2 = rb.length
  sa : Spn wr (fun g => g < w.heap.size) A1 c1 ra
  sb : Spn wr (fun g => g < w.heap.size) A2 c2 rb
  own : OwnSp wr w.heap.size v l
  bd : ∀ s ∈ l, sbd s
  low : Below w.heap.size w wr
  eq : l ++ cmn ra rb = cmn la lb
  len : l.length + ra.length + rb.length ≤ la.length + lb.length
/-- .. for some lists. -/
def CmR (w : World) (la lb : List (Int × Int)) (x y v : Value) (wr : World) : Prop := ∃ A1' m1 c1' ra A2' m2 c2' rb l, CmI w la lb x y v wr A1' m1 c1' ra A2' m2 c2' rb l
theorem CmR.drewN {w wr : World} {la lb : List (Int × Int)} {x y v : Value} (h : CmR w la lb x y v wr) (n : Nat) : CmR w la lb x y v (wr.drewN n) := by
  obtain ⟨a1, a2, a3, a4, a5, a6, a7, a8, a9, h⟩ := h
  exact ⟨a1, a2, a3, a4, a5, a6, a7, a8, a9, h.ex, h.ey, h.en1, h.en2, h.sa, h.sb, h.own, h.bd, below_drewN h.low n, h.eq, h.len⟩
/-- One step of common. -/
def CmS (w wr : World) (la lb : List (Int × Int)) (g1 o1 k1 c1 : Nat) (s1 s2 : Int) (ra : List (Int × Int)) (g2 o2 k2 c2 : Nat) (t1 t2 : Int) (rb l l2 : List (Int × Int)) (v2 : Value) (w2 : World) : Prop :=
  OwnSp w2 w.heap.size v2 l2 → Below w.heap.size wr w2 → l2 = l ++ cmn1 (s1, s2) (t1, t2) →
    (s2 < t2 → ∀ A1' c1' n', n' = k1 → Spn w2 (fun g => g < w.heap.size) A1' c1' ra → CmR w la lb (.slice A1' n' c1') (.slice (some ⟨g2, o2, none⟩) (k2 + 1) c2) v2 w2) ∧
    (t2 ≤ s2 → ∀ A2' c2' n', n' = k2 → Spn w2 (fun g => g < w.heap.size) A2' c2' rb → CmR w la lb (.slice (some ⟨g1, o1, none⟩) (k1 + 1) c1) (.slice A2' n' c2') v2 w2)
theorem CmI.step {w wr : World} {la lb : List (Int × Int)} {v : Value} {A1 A2 : Option Addr} {k1 k2 c1 c2 g1 o1 g2 o2 : Nat} {s1 s2 t1 t2 : Int} {ra rb l : List (Int × Int)}
    (h : CmI w la lb (.slice A1 (k1 + 1) c1) (.slice A2 (k2 + 1) c2) v wr A1 (k1 + 1) c1 ((s1, s2) :: ra) A2 (k2 + 1) c2 ((t1, t2) :: rb) l) (e1 : A1 = some ⟨g1, o1, none⟩) (e2 : A2 = some ⟨g2, o2, none⟩) (l2 : List (Int × Int)) (v2 : Value) (w2 : World) :
    CmS w wr la lb g1 o1 k1 c1 s1 s2 ra g2 o2 k2 c2 t1 t2 rb l l2 v2 w2 := by
  subst e1 e2
  intro h1 h2 h3
  obtain ⟨_, _, k1, k2, hsa, hsb, _, hbd, hlow, e, hl⟩ := h
  have hbd1 := hsa.2.2.2.1 (s1, s2) (by simp)
  have hbd2 := hsb.2.2.2.1 (t1, t2) (by simp)
  rw [cmn_cons] at e
  have hb : ∀ s ∈ l2, sbd s := fun s hs => by
    rw [h3] at hs
    rcases List.mem_append.1 hs with hs | hs
    · exact hbd s hs
    · unfold cmn1 at hs
      split at hs
      · rw [List.mem_singleton.1 hs]; exact sbd_cmn hbd1 hbd2
      · simp at hs
  have hl1 := cmn1_len (s1, s2) (t1, t2)
  rw [List.length_cons, List.length_cons] at hl
  rw [List.length_cons] at k1 k2
  constructor
  · rintro hlt A c n' rfl hs
    rw [if_pos hlt] at e
    exact ⟨_, _, _, ra, _, _, _, (t1, t2) :: rb, l2, rfl, rfl, by omega, by rw [List.length_cons]; omega, hs, hsb.low h2, h1, hb, hlow.trans h2, by rw [← e, h3, List.append_assoc], by rw [h3, List.length_append, List.length_cons]; omega⟩
  · rintro hlt A c n' rfl hs
    rw [if_neg (by simp only; omega)] at e
    exact ⟨_, _, _, (s1, s2) :: ra, _, _, _, rb, l2, rfl, rfl, by rw [List.length_cons]; omega, by omega, hsa.low h2, hs, h1, hb, hlow.trans h2, by rw [← e, h3, List.append_assoc], by rw [h3, List.length_append, List.length_cons]; omega⟩
/-- What a step leaves. -/
def CmM (w wr : World) (l : List (Int × Int)) (s t : Int × Int) (v2 : Value) (w2 : World) : Prop := OwnSp w2 w.heap.size v2 (l ++ cmn1 s t) ∧ Below w.heap.size wr w2
set_option maxRecDepth 100000 in
set_option maxHeartbeats 2000000 in
theorem acommon {w : World} {Q1 Q2 : Nat → Prop} {A1 A2 : Option Addr} {c1 c2 : Nat} {la lb : List (Int × Int)} (h1 : Spn w Q1 A1 c1 la) (h2 : Spn w Q2 A2 c2 lb) (hl : la.length + lb.length ≤ 100000) {n1 n2 : Nat} (hn1 : n1 = la.length) (hn2 : n2 = lb.length) :
    Calls Try.prog 45 #[.slice A1 n1 c1, .slice A2 n2 c2] w fun e w' => (∃ A c n, e = .returned (.slice A n c) ∧ n = (cmn la lb).length ∧ Spn w' (fun g => w.heap.size ≤ g) A c (cmn la lb)) ∧ Below w.heap.size w w' := by
  have HI : Hid (CmR w la lb (.slice A1 n1 c1) (.slice A2 n2 c2) (.slice none 0 0) w) := Lib.hid
    ⟨A1, n1, c1, la, A2, n2, c2, lb, [], rfl, rfl, hn1, hn2, h1.mono fun g hg _ => hg, h2.mono fun g hg _ => hg, owns_nil _ _, fun s hs => by simp at hs, Below.refl _ _, rfl, by simp⟩
  have HL := Lib.hid hl
  clear h1 h2 hl hn1 hn2
  go_enter Try.func45, Try.ntmps45
  go_wp2_with fail
  go_loopw [0, 1, 5] (fun x y v wr => CmR w la lb x y v wr) (fun x y _ _ => slen x + slen y)
  case atStart => exact HI.out
  case round =>
    clear HI
    obtain ⟨A1, n1, c1, ra, A2, n2, c2, rb, l, hI⟩ := hrel
    have HI := Lib.hid hI
    obtain ⟨rfl, rfl, e1, e2, sa, sb, own, hbd, hlow, heq, hlen⟩ := hI
    have HF : Hid (cmn ra rb = [] → (∃ A c n, (Ending.returned u5 : Ending) = .returned (.slice A n c) ∧ n = (cmn la lb).length ∧ Spn wr (fun g => w.heap.size ≤ g) A c (cmn la lb)) ∧ Below w.heap.size w wr) := Lib.hid fun h0 => by
      rw [h0, List.append_nil] at heq
      subst heq
      obtain ⟨A, c, rfl, hS⟩ := own.seq hbd
      exact ⟨⟨A, c, _, rfl, rfl, hS⟩, hlow⟩
    clear heq hbd
    cases ra with
    | nil =>
      have HE := Lib.hid (HF.out (cmn_nil _))
      rw [List.length_nil] at e1
      subst e1
      clear HF own HI sa sb
      go_wp2_with fail
      go_ret
      exact HE.out
    | cons s ra =>
    cases rb with
    | nil =>
      have HE := Lib.hid (HF.out (cmn_nil2 _))
      rw [List.length_nil] at e2
      subst e2
      obtain ⟨k1, hk1⟩ : ∃ k, k = ra.length := ⟨_, rfl⟩
      rw [List.length_cons, ← hk1] at e1
      have hp : (0 : Int) < (n1 : Int) := by omega
      clear HF own hk1 e1 HI sa sb
      go_wp2_with fail
      go_ret
      exact HE.out
    | cons t rb =>
    clear HF
    obtain ⟨k1, hk1⟩ : ∃ k, k = ra.length := ⟨_, rfl⟩
    obtain ⟨k2, hk2⟩ : ∃ k, k = rb.length := ⟨_, rfl⟩
    rw [List.length_cons, ← hk1] at e1
    rw [List.length_cons, ← hk2] at e2
    subst e1 e2
    have hbd1 := sa.2.2.2.1 s (by simp)
    have hbd2 := sb.2.2.2.1 t (by simp)
    obtain ⟨g1, o1, rfl, hg1, hg1', x1, x2⟩ := Spn.get sa 0 s rfl
    obtain ⟨g2, o2, rfl, hg2, hg2', y1, y2⟩ := Spn.get sb 0 t rfl
    have hp1 : (0 : Int) < ((k1 + 1 : Nat) : Int) := by omega
    have hp2 : (0 : Int) < ((k2 + 1 : Nat) : Int) := by omega
    rw [Nat.zero_mul, Nat.add_zero] at x1 x2 y1 y2
    have hll : l.length ≤ 99000000 := by have := HL.out; omega
    obtain ⟨s1, s2⟩ := s
    obtain ⟨t1, t2⟩ := t
    simp only at x1 x2 y1 y2
    have HST := Lib.hid fun l2 v2 w2 => CmI.step HI.out rfl rfl l2 v2 w2
    have HO := Lib.hid own
    have HSA := Lib.hid sa
    have HSB := Lib.hid sb
    have hwl := hlow.size
    have HC : Hid (∀ W, Below w.heap.size wr W → W.cell? ⟨g1, o1 + 1, none⟩ = some (.int .i64 s2) ∧ W.cell? ⟨g2, o2 + 1, none⟩ = some (.int .i64 t2)) := Lib.hid fun W hb =>
      ⟨(World.cell?_of_block (hb.block g1 hg1)).trans x2, (World.cell?_of_block (hb.block g2 hg2)).trans y2⟩
    obtain ⟨X1, hX1⟩ : ∃ x, x = (if c1 = 1 then (some ⟨g1, o1, none⟩ : Option Addr) else (some ⟨g1, o1, none⟩ : Option Addr).map (·.add (1 * 2))) := ⟨_, rfl⟩
    obtain ⟨X2, hX2⟩ : ∃ x, x = (if c2 = 1 then (some ⟨g2, o2, none⟩ : Option Addr) else (some ⟨g2, o2, none⟩ : Option Addr).map (·.add (1 * 2))) := ⟨_, rfl⟩
    have hcut1 : ∀ W, (Instr.sliceAt 23 (.slice (some ⟨g1, o1, none⟩) (k1 + 1) c1) (some (.int .i64 1)) none none).run Try.prog W = .ok (.slice X1 k1 (c1 - 1)) W := fun W => by
      have := run_seq_from (P := Try.prog) (n := 2) (t := 23) (by kernel_rfl) (by kernel_rfl) (some ⟨g1, o1, none⟩) (k1 + 1) c1 1 (by omega) W
      rw [← hX1] at this
      exact this
    have hcut2 : ∀ W, (Instr.sliceAt 23 (.slice (some ⟨g2, o2, none⟩) (k2 + 1) c2) (some (.int .i64 1)) none none).run Try.prog W = .ok (.slice X2 k2 (c2 - 1)) W := fun W => by
      have := run_seq_from (P := Try.prog) (n := 2) (t := 23) (by kernel_rfl) (by kernel_rfl) (some ⟨g2, o2, none⟩) (k2 + 1) c2 1 (by omega) W
      rw [← hX2] at this
      exact this
    have HS1 : Hid (Spn wr (fun g => g < w.heap.size) X1 (c1 - 1) ra) := Lib.hid (by rw [hX1]; exact (HSA.out.from scl_len 1 (by simp)).2)
    have HS2 : Hid (Spn wr (fun g => g < w.heap.size) X2 (c2 - 1) rb) := Lib.hid (by rw [hX2]; exact (HSB.out.from scl_len 1 (by simp)).2)
    have HCUT := Lib.hid hcut1
    have HCUT2 := Lib.hid hcut2
    have HK1 := Lib.hid hk1
    have HK2 := Lib.hid hk2
    obtain ⟨M, hM⟩ : ∃ z, z = max s1 t1 := ⟨_, rfl⟩
    obtain ⟨N, hN⟩ : ∃ z, z = min s2 t2 := ⟨_, rfl⟩
    have q1 : (if s1 < t1 then t1 else s1) = M := by rw [hM]; split <;> omega
    have q2 : (if s2 < t2 then s2 else t2) = N := by rw [hN]; split <;> omega
    have q3 : (if t2 < s2 then t2 else s2) = N := by rw [hN]; split <;> omega
    have hsb : sbd (M, N) := by rw [hM, hN]; exact sbd_cmn hbd1 hbd2
    have e1 : cmn1 (s1, s2) (t1, t2) = if M ≤ N then [(M, N)] else [] := by rw [hM, hN]; rfl
    have HB1 : Hid (Below wr.heap.size wr (wr.alloc (.cells #[.int .i64 M, .int .i64 N] 53)).drew) := Lib.hid (((Below.refl wr.heap.size wr).alloc (Nat.le_refl _) _).drew)
    have HQ : Hid (M ≤ N → Seq scl sbd ((wr.alloc (.cells #[.int .i64 M, .int .i64 N] 53)).alloc (.cells #[.int .i64 M, .int .i64 N] 53)).drew (fun b => b = wr.heap.size + 1) (some ⟨wr.heap.size + 1, 0, none⟩) 1 [(M, N)]) := Lib.hid fun _ => seq_one (f := scl) (p := (M, N)) (Whole.at_ _ _ _ _ (by simp)) rfl hsb
    have HE1 := Lib.hid e1
    have HWL := Lib.hid hwl
    have HLL := Lib.hid hll
    have HG := Lib.hid (And.intro hg1 hg2)
    clear own sa sb hlow hX1 hX2 hk1 hk2 hM hN hsb hbd1 hbd2 hcut1 hcut2 e1 HI HSA HSB hwl hll hg1 hg2 hlen
    go_wp2_with fail
    go_region
    clear x1 x2 y1 y2 q1 q2 q3 hg1' hg2'
    go_upto_if 38 with fail
    go_cut [5] (fun v wx => CmM w wr l (s1, s2) (t1, t2) v wx)
    case first =>
      clear HC HS1 HS2 HCUT HCUT2 HST hp1 hp2 HK1 HK2 HG
      by_cases hMN : M ≤ N
      · have HE2 := Lib.hid (HE1.out.trans (if_pos hMN))
        have HB2 : Hid (Below wr.heap.size wr ((wr.alloc (.cells #[.int .i64 M, .int .i64 N] 53)).alloc (.cells #[.int .i64 M, .int .i64 N] 53)).drew) := Lib.hid ((((Below.refl wr.heap.size wr).alloc (Nat.le_refl _) _).alloc (by simp) _).drew)
        have HQ2 := Lib.hid (HQ.out hMN)
        clear HQ HE1
        go_wp2_with (at_builtin; go_must (refine wpList_append_seq rfl _ _ 23 53 _ 16 rfl Try.underlying23 spanInfo rfl (by decide) (by decide) scl_len scl_one w.heap.size _ l rfl (own_below HO.out HB2.out (Nat.le_refl _)) (fun b => b = wr.heap.size + 1) _ 1 _ [(M, N)] rfl rfl HQ2.out (by have := HLL.out; simp <;> omega) (by have := HWL.out; simp <;> omega) ?_; intro v2 w2 h1 h2 h3; have HBB : Hid (CmM w wr l (s1, s2) (t1, t2) v2 w2) := Lib.hid ⟨by rw [HE2.out]; exact h1, (HB2.out.mono HWL.out).trans h2⟩; clear h1 h2 h3))
        go_meet
        exact HBB.out
      · have HBB : Hid (CmM w wr l (s1, s2) (t1, t2) u5 (wr.alloc (.cells #[.int .i64 M, .int .i64 N] 53)).drew) := Lib.hid ⟨by rw [HE1.out, if_neg hMN, List.append_nil]; exact own_below HO.out HB1.out (Nat.le_refl _), HB1.out.mono HWL.out⟩
        clear HQ HE1 HB1 HO
        go_wp2_with fail
        go_meet
        exact HBB.out
    case rest =>
      rename World => w2
      clear HQ HE1 HB1 HO
      have HM := Lib.hid hcut
      obtain ⟨x2, y2⟩ := HC.out _ HM.out.2
      have HX := Lib.hid (HST.out _ _ _ HM.out.1 HM.out.2 rfl)
      have hz1 := Lib.hid (HS1.out.low HM.out.2)
      have hz2 := Lib.hid (HS2.out.low HM.out.2)
      have hcut1 := HCUT.out
      have hcut2 := HCUT2.out
      clear HS1 HS2 HM hcut HC HST HCUT HCUT2 HG HLL HWL HK1 HK2 HL
      by_cases hlt : s2 < t2
      · have HR := Lib.hid (HX.out.1 hlt _ _ _ rfl hz1.out)
        clear hz1 hz2 HX hcut2
        go_upto_region 6 with fail
        go_quiet (fail)
        go_wp2_with fail
        go_roundw
        case rel => exact HR.out.drewN _
        case measure => simp [slen]
      · have hle : t2 ≤ s2 := by omega
        have HR := Lib.hid (HX.out.2 hle _ _ _ rfl hz2.out)
        clear hz1 hz2 HX hlt hcut1
        go_upto_region 6 with fail
        go_quiet (fail)
        go_wp2_with fail
        go_roundw
        case rel => exact HR.out.drewN _
        case measure => simp [slen]
end Go.Proofs.Ytedjbjplnjnnlaa
