/-
  The program's common: the common minutes of two lists of spans.
  The program's search among spans: the function value of Contains, slices.IndexFunc, slices.ContainsFunc.
  The program's equal: slices.Equal on spans, equal on authorities.
  The reference's AuthorityOk.
  The reference's later.
-/
import Derived.BigRegion
import Derived.BigQuiet
import Derived.Deep.CutBlock
import Derived.Deep.DeepCutAuto
import Derived.Test.YtgbcncfhmnhljaaDoorPk10
import Derived.Deep.RegionHeld3
import Derived.Test.YtgbcncfhmnhljaaDoorPk13
import Derived.Test.YtgbcncfhmnhljaaDoorPk29
import Derived.Test.YtgbcncfhmnhljaaDoorPk30
import Derived.Test.YtgbcncfhmnhljaaDoorPk0
namespace Go.Proofs.YtgbcncfhmnhljaaDoor
open Go Go.RowKit Sh Leaf

/-- The length of a slice value. -/
def slen : Value → Nat
  | .slice _ n _ => n
  | _ => 0
theorem sbd_cmn {s t : Int × Int} (hs : sbd s) (ht : sbd t) : sbd (max s.1 t.1, min s.2 t.2) := by
  obtain ⟨⟨a, b⟩, c, d⟩ := hs
  obtain ⟨⟨e, f⟩, g, h⟩ := ht
  exact ⟨⟨by simp only; omega, by simp only; omega⟩, ⟨by simp only; omega, by simp only; omega⟩⟩
/-- What is known while common goes on. -/
structure CmI (w : World) (la lb : List (Int × Int)) (x y v : Value) (wr : World) (A1 : Option Addr) (n1 c1 : Nat) (ra : List (Int × Int)) (A2 : Option Addr) (n2 c2 : Nat) (rb l : List (Int × Int)) : Prop where
  ex : x = .slice A1 n1 c1
  ey : y = .slice A2 n2 c2
  en1 : n1 = ra.length
  en2 : n2 = rb.length
  sa : Spn wr (fun g => g < w.heap.size) A1 c1 ra
  sb : Spn wr (fun g => g < w.heap.size) A2 c2 rb
  own : OwnSp wr w.heap.size v l
  bd : ∀ s ∈ l, sbd s
  low : Below w.heap.size w wr
  eq : l ++ cmn ra rb = cmn la lb
  len : l.length + ra.length + rb.length ≤ la.length + lb.length
/-- .. for some lists. -/
def CmR (w : World) (la lb : List (Int × Int)) (x y v : Value) (wr : World) : Prop := ∃ A1' m1 c1' ra A2' m2 c2' rb l, CmI w la lb x y v wr A1' m1 c1' ra A2' m2 c2' rb l
theorem CmR.drewN {w wr : World} {la lb : List (Int × Int)} {x y v : Value} (h : CmR w la lb x y v wr) (n : Nat) : CmR w la lb x y v (wr.drewN n) := by
  obtain ⟨a1, a2, a3, a4, a5, a6, a7, a8, a9, h⟩ := h
  exact ⟨a1, a2, a3, a4, a5, a6, a7, a8, a9, h.ex, h.ey, h.en1, h.en2, h.sa, h.sb, h.own, h.bd, below_drewN h.low n, h.eq, h.len⟩
/-- One step of common. -/
def CmS (w wr : World) (la lb : List (Int × Int)) (g1 o1 k1 c1 : Nat) (s1 s2 : Int) (ra : List (Int × Int)) (g2 o2 k2 c2 : Nat) (t1 t2 : Int) (rb l l2 : List (Int × Int)) (v2 : Value) (w2 : World) : Prop :=
  OwnSp w2 w.heap.size v2 l2 → Below w.heap.size wr w2 → l2 = l ++ cmn1 (s1, s2) (t1, t2) →
    (s2 < t2 → ∀ A1' c1' n', n' = k1 → Spn w2 (fun g => g < w.heap.size) A1' c1' ra → CmR w la lb (.slice A1' n' c1') (.slice (some ⟨g2, o2, none⟩) (k2 + 1) c2) v2 w2) ∧
    (t2 ≤ s2 → ∀ A2' c2' n', n' = k2 → Spn w2 (fun g => g < w.heap.size) A2' c2' rb → CmR w la lb (.slice (some ⟨g1, o1, none⟩) (k1 + 1) c1) (.slice A2' n' c2') v2 w2)
theorem CmI.step {w wr : World} {la lb : List (Int × Int)} {v : Value} {A1 A2 : Option Addr} {k1 k2 c1 c2 g1 o1 g2 o2 : Nat} {s1 s2 t1 t2 : Int} {ra rb l : List (Int × Int)}
    (h : CmI w la lb (.slice A1 (k1 + 1) c1) (.slice A2 (k2 + 1) c2) v wr A1 (k1 + 1) c1 ((s1, s2) :: ra) A2 (k2 + 1) c2 ((t1, t2) :: rb) l) (e1 : A1 = some ⟨g1, o1, none⟩) (e2 : A2 = some ⟨g2, o2, none⟩) (l2 : List (Int × Int)) (v2 : Value) (w2 : World) :
    CmS w wr la lb g1 o1 k1 c1 s1 s2 ra g2 o2 k2 c2 t1 t2 rb l l2 v2 w2 := by
  subst e1 e2
  intro h1 h2 h3
  obtain ⟨_, _, k1, k2, hsa, hsb, _, hbd, hlow, e, hl⟩ := h
  have hbd1 := hsa.2.2.2.1 (s1, s2) (by simp)
  have hbd2 := hsb.2.2.2.1 (t1, t2) (by simp)
  rw [cmn_cons] at e
  have hb : ∀ s ∈ l2, sbd s := fun s hs => by
    rw [h3] at hs
    rcases List.mem_append.1 hs with hs | hs
    · exact hbd s hs
    · unfold cmn1 at hs
      split at hs
      · rw [List.mem_singleton.1 hs]; exact sbd_cmn hbd1 hbd2
      · simp at hs
  have hl1 := cmn1_len (s1, s2) (t1, t2)
  rw [List.length_cons, List.length_cons] at hl
  rw [List.length_cons] at k1 k2
  constructor
  · rintro hlt A c n' rfl hs
    rw [if_pos hlt] at e
    exact ⟨_, _, _, ra, _, _, _, (t1, t2) :: rb, l2, rfl, rfl, by omega, by rw [List.length_cons]; omega, hs, hsb.low h2, h1, hb, hlow.trans h2, by rw [← e, h3, List.append_assoc], by rw [h3, List.length_append, List.length_cons]; omega⟩
  · rintro hlt A c n' rfl hs
    rw [if_neg (by simp only; omega)] at e
    exact ⟨_, _, _, (s1, s2) :: ra, _, _, _, rb, l2, rfl, rfl, by rw [List.length_cons]; omega, by omega, hsa.low h2, hs, h1, hb, hlow.trans h2, by rw [← e, h3, List.append_assoc], by rw [h3, List.length_append, List.length_cons]; omega⟩
/-- What a step leaves. -/
def CmM (w wr : World) (l : List (Int × Int)) (s t : Int × Int) (v2 : Value) (w2 : World) : Prop := OwnSp w2 w.heap.size v2 (l ++ cmn1 s t) ∧ Below w.heap.size wr w2
set_option maxRecDepth 100000 in
set_option maxHeartbeats 2000000 in
theorem acommon {w : World} {Q1 Q2 : Nat → Prop} {A1 A2 : Option Addr} {c1 c2 : Nat} {la lb : List (Int × Int)} (h1 : Spn w Q1 A1 c1 la) (h2 : Spn w Q2 A2 c2 lb) (hl : la.length + lb.length ≤ 100000) {n1 n2 : Nat} (hn1 : n1 = la.length) (hn2 : n2 = lb.length) :
    Calls Tryd.prog 48 #[.slice A1 n1 c1, .slice A2 n2 c2] w fun e w' => (∃ A c n, e = .returned (.slice A n c) ∧ n = (cmn la lb).length ∧ Spn w' (fun g => w.heap.size ≤ g) A c (cmn la lb)) ∧ Below w.heap.size w w' := by
  have HI : Hid (CmR w la lb (.slice A1 n1 c1) (.slice A2 n2 c2) (.slice none 0 0) w) := Lib.hid
    ⟨A1, n1, c1, la, A2, n2, c2, lb, [], rfl, rfl, hn1, hn2, h1.mono fun g hg _ => hg, h2.mono fun g hg _ => hg, owns_nil _ _, fun s hs => by simp at hs, Below.refl _ _, rfl, by simp⟩
  have HL := Lib.hid hl
  clear h1 h2 hl hn1 hn2
  go_enter Tryd.func48, Tryd.ntmps48
  go_wp2_with fail
  go_loopw [0, 1, 5] (fun x y v wr => CmR w la lb x y v wr) (fun x y _ _ => slen x + slen y)
  case atStart => exact HI.out
  case round =>
    clear HI
    obtain ⟨A1, n1, c1, ra, A2, n2, c2, rb, l, hI⟩ := hrel
    have HI := Lib.hid hI
    obtain ⟨rfl, rfl, e1, e2, sa, sb, own, hbd, hlow, heq, hlen⟩ := hI
    have HF : Hid (cmn ra rb = [] → (∃ A c n, (Ending.returned u5 : Ending) = .returned (.slice A n c) ∧ n = (cmn la lb).length ∧ Spn wr (fun g => w.heap.size ≤ g) A c (cmn la lb)) ∧ Below w.heap.size w wr) := Lib.hid fun h0 => by
      rw [h0, List.append_nil] at heq
      subst heq
      obtain ⟨A, c, rfl, hS⟩ := own.seq hbd
      exact ⟨⟨A, c, _, rfl, rfl, hS⟩, hlow⟩
    clear heq hbd
    cases ra with
    | nil =>
      have HE := Lib.hid (HF.out (cmn_nil _))
      rw [List.length_nil] at e1
      subst e1
      clear HF own HI sa sb
      go_wp2_with fail
      go_ret
      exact HE.out
    | cons s ra =>
    cases rb with
    | nil =>
      have HE := Lib.hid (HF.out (cmn_nil2 _))
      rw [List.length_nil] at e2
      subst e2
      obtain ⟨k1, hk1⟩ : ∃ k, k = ra.length := ⟨_, rfl⟩
      rw [List.length_cons, ← hk1] at e1
      have hp : (0 : Int) < (n1 : Int) := by omega
      clear HF own hk1 e1 HI sa sb
      go_wp2_with fail
      go_ret
      exact HE.out
    | cons t rb =>
    clear HF
    obtain ⟨k1, hk1⟩ : ∃ k, k = ra.length := ⟨_, rfl⟩
    obtain ⟨k2, hk2⟩ : ∃ k, k = rb.length := ⟨_, rfl⟩
    rw [List.length_cons, ← hk1] at e1
    rw [List.length_cons, ← hk2] at e2
    subst e1 e2
    have hbd1 := sa.2.2.2.1 s (by simp)
    have hbd2 := sb.2.2.2.1 t (by simp)
    obtain ⟨g1, o1, rfl, hg1, hg1', x1, x2⟩ := Spn.get sa 0 s rfl
    obtain ⟨g2, o2, rfl, hg2, hg2', y1, y2⟩ := Spn.get sb 0 t rfl
    have hp1 : (0 : Int) < ((k1 + 1 : Nat) : Int) := by omega
    have hp2 : (0 : Int) < ((k2 + 1 : Nat) : Int) := by omega
    rw [Nat.zero_mul, Nat.add_zero] at x1 x2 y1 y2
    have hll : l.length ≤ 99000000 := by have := HL.out; omega
    obtain ⟨s1, s2⟩ := s
    obtain ⟨t1, t2⟩ := t
    simp only at x1 x2 y1 y2
    have HST := Lib.hid fun l2 v2 w2 => CmI.step HI.out rfl rfl l2 v2 w2
    have HO := Lib.hid own
    have HSA := Lib.hid sa
    have HSB := Lib.hid sb
    have hwl := hlow.size
    have HC : Hid (∀ W, Below w.heap.size wr W → W.cell? ⟨g1, o1 + 1, none⟩ = some (.int .i64 s2) ∧ W.cell? ⟨g2, o2 + 1, none⟩ = some (.int .i64 t2)) := Lib.hid fun W hb =>
      ⟨(World.cell?_of_block (hb.block g1 hg1)).trans x2, (World.cell?_of_block (hb.block g2 hg2)).trans y2⟩
    obtain ⟨X1, hX1⟩ : ∃ x, x = (if c1 = 1 then (some ⟨g1, o1, none⟩ : Option Addr) else (some ⟨g1, o1, none⟩ : Option Addr).map (·.add (1 * 2))) := ⟨_, rfl⟩
    obtain ⟨X2, hX2⟩ : ∃ x, x = (if c2 = 1 then (some ⟨g2, o2, none⟩ : Option Addr) else (some ⟨g2, o2, none⟩ : Option Addr).map (·.add (1 * 2))) := ⟨_, rfl⟩
    have hcut1 : ∀ W, (Instr.sliceAt 23 (.slice (some ⟨g1, o1, none⟩) (k1 + 1) c1) (some (.int .i64 1)) none none).run Tryd.prog W = .ok (.slice X1 k1 (c1 - 1)) W := fun W => by
      have := run_seq_from (P := Tryd.prog) (n := 2) (t := 23) (by kernel_rfl) (by kernel_rfl) (some ⟨g1, o1, none⟩) (k1 + 1) c1 1 (by omega) W
      rw [← hX1] at this
      exact this
    have hcut2 : ∀ W, (Instr.sliceAt 23 (.slice (some ⟨g2, o2, none⟩) (k2 + 1) c2) (some (.int .i64 1)) none none).run Tryd.prog W = .ok (.slice X2 k2 (c2 - 1)) W := fun W => by
      have := run_seq_from (P := Tryd.prog) (n := 2) (t := 23) (by kernel_rfl) (by kernel_rfl) (some ⟨g2, o2, none⟩) (k2 + 1) c2 1 (by omega) W
      rw [← hX2] at this
      exact this
    have HS1 : Hid (Spn wr (fun g => g < w.heap.size) X1 (c1 - 1) ra) := Lib.hid (by rw [hX1]; exact (HSA.out.from scl_len 1 (by simp)).2)
    have HS2 : Hid (Spn wr (fun g => g < w.heap.size) X2 (c2 - 1) rb) := Lib.hid (by rw [hX2]; exact (HSB.out.from scl_len 1 (by simp)).2)
    have HCUT := Lib.hid hcut1
    have HCUT2 := Lib.hid hcut2
    have HK1 := Lib.hid hk1
    have HK2 := Lib.hid hk2
    obtain ⟨M, hM⟩ : ∃ z, z = max s1 t1 := ⟨_, rfl⟩
    obtain ⟨N, hN⟩ : ∃ z, z = min s2 t2 := ⟨_, rfl⟩
    have q1 : (if s1 < t1 then t1 else s1) = M := by rw [hM]; split <;> omega
    have q2 : (if s2 < t2 then s2 else t2) = N := by rw [hN]; split <;> omega
    have q3 : (if t2 < s2 then t2 else s2) = N := by rw [hN]; split <;> omega
    have hsb : sbd (M, N) := by rw [hM, hN]; exact sbd_cmn hbd1 hbd2
    have e1 : cmn1 (s1, s2) (t1, t2) = if M ≤ N then [(M, N)] else [] := by rw [hM, hN]; rfl
    have HB1 : Hid (Below wr.heap.size wr (wr.alloc (.cells #[.int .i64 M, .int .i64 N] 50)).drew) := Lib.hid (((Below.refl wr.heap.size wr).alloc (Nat.le_refl _) _).drew)
    have HQ : Hid (M ≤ N → Seq scl sbd ((wr.alloc (.cells #[.int .i64 M, .int .i64 N] 50)).alloc (.cells #[.int .i64 M, .int .i64 N] 50)).drew (fun b => b = wr.heap.size + 1) (some ⟨wr.heap.size + 1, 0, none⟩) 1 [(M, N)]) := Lib.hid fun _ => seq_one (f := scl) (p := (M, N)) (Whole.at_ _ _ _ _ (by simp)) rfl hsb
    have HE1 := Lib.hid e1
    have HWL := Lib.hid hwl
    have HLL := Lib.hid hll
    have HG := Lib.hid (And.intro hg1 hg2)
    clear own sa sb hlow hX1 hX2 hk1 hk2 hM hN hsb hbd1 hbd2 hcut1 hcut2 e1 HI HSA HSB hwl hll hg1 hg2 hlen
    go_wp2_with fail
    go_region
    clear x1 x2 y1 y2 q1 q2 q3 hg1' hg2'
    go_upto_if 38 with fail
    go_cut [5] (fun v wx => CmM w wr l (s1, s2) (t1, t2) v wx)
    case first =>
      clear HC HS1 HS2 HCUT HCUT2 HST hp1 hp2 HK1 HK2 HG
      by_cases hMN : M ≤ N
      · have HE2 := Lib.hid (HE1.out.trans (if_pos hMN))
        have HB2 : Hid (Below wr.heap.size wr ((wr.alloc (.cells #[.int .i64 M, .int .i64 N] 50)).alloc (.cells #[.int .i64 M, .int .i64 N] 50)).drew) := Lib.hid ((((Below.refl wr.heap.size wr).alloc (Nat.le_refl _) _).alloc (by simp) _).drew)
        have HQ2 := Lib.hid (HQ.out hMN)
        clear HQ HE1
        go_wp2_with (at_builtin; go_must (refine wpList_append_seq rfl _ _ 23 50 _ 16 rfl Tryd.underlying23 spanInfo rfl (by decide) (by decide) scl_len scl_one w.heap.size _ l rfl (own_below HO.out HB2.out (Nat.le_refl _)) (fun b => b = wr.heap.size + 1) _ 1 _ [(M, N)] rfl rfl HQ2.out (by have := HLL.out; simp <;> omega) (by have := HWL.out; simp <;> omega) ?_; intro v2 w2 h1 h2 h3; have HBB : Hid (CmM w wr l (s1, s2) (t1, t2) v2 w2) := Lib.hid ⟨by rw [HE2.out]; exact h1, (HB2.out.mono HWL.out).trans h2⟩; clear h1 h2 h3))
        go_meet
        exact HBB.out
      · have HBB : Hid (CmM w wr l (s1, s2) (t1, t2) u5 (wr.alloc (.cells #[.int .i64 M, .int .i64 N] 50)).drew) := Lib.hid ⟨by rw [HE1.out, if_neg hMN, List.append_nil]; exact own_below HO.out HB1.out (Nat.le_refl _), HB1.out.mono HWL.out⟩
        clear HQ HE1 HB1 HO
        go_wp2_with fail
        go_meet
        exact HBB.out
    case rest =>
      rename World => w2
      clear HQ HE1 HB1 HO
      have HM := Lib.hid hcut
      obtain ⟨x2, y2⟩ := HC.out _ HM.out.2
      have HX := Lib.hid (HST.out _ _ _ HM.out.1 HM.out.2 rfl)
      have hz1 := Lib.hid (HS1.out.low HM.out.2)
      have hz2 := Lib.hid (HS2.out.low HM.out.2)
      have hcut1 := HCUT.out
      have hcut2 := HCUT2.out
      clear HS1 HS2 HM hcut HC HST HCUT HCUT2 HG HLL HWL HK1 HK2 HL
      by_cases hlt : s2 < t2
      · have HR := Lib.hid (HX.out.1 hlt _ _ _ rfl hz1.out)
        clear hz1 hz2 HX hcut2
        go_upto_region 6 with fail
        go_quiet (fail)
        go_wp2_with fail
        go_roundw
        case rel => exact HR.out.drewN _
        case measure => simp [slen]
      · have hle : t2 ≤ s2 := by omega
        have HR := Lib.hid (HX.out.2 hle _ _ _ rfl hz2.out)
        clear hz1 hz2 HX hlt hcut1
        go_upto_region 6 with fail
        go_quiet (fail)
        go_wp2_with fail
        go_roundw
        case rel => exact HR.out.drewN _
        case measure => simp [slen]
end Go.Proofs.YtgbcncfhmnhljaaDoor
namespace Go.Proofs.YtgbcncfhmnhljaaDoor
open Go Go.RowKit Sh Leaf

set_option maxRecDepth 100000 in
set_option maxHeartbeats 1000000 in
theorem aclo (s1 s2 m : Int) (g : Nat) (w : World) (hg : g < w.heap.size) (hm : w.cell? ⟨g, 0, none⟩ = some (.int .i64 m)) :
    Calls Tryd.prog 63 #[.agg #[.int .i64 s1, .int .i64 s2], .pointer (some ⟨g, 0, none⟩)] w fun e w' => e = .returned (.bool (decide (s1 ≤ m ∧ m ≤ s2))) ∧ Below w.heap.size w w' := by
  have hb : ∀ o, Below w.heap.size w (w.alloc o) := fun o => (Below.refl w.heap.size w).alloc (Nat.le_refl _) o
  obtain ⟨D, hD⟩ : ∃ D, D = decide (s1 ≤ m ∧ m ≤ s2) := ⟨_, rfl⟩
  rw [← hD]
  by_cases h1 : s1 ≤ m
  · by_cases h2 : m ≤ s2
    · obtain rfl := hD.trans (decide_eq_true ⟨h1, h2⟩)
      clear hD
      go_enter Tryd.func63, Tryd.ntmps63
      go_wp2
      go_ret
      exact ⟨rfl, hb _⟩
    · obtain rfl := hD.trans (decide_eq_false fun h => h2 h.2)
      clear hD
      go_enter Tryd.func63, Tryd.ntmps63
      go_wp2
      go_ret
      exact ⟨rfl, hb _⟩
  · obtain rfl := hD.trans (decide_eq_false fun h => h1 h.1)
    clear hD
    go_enter Tryd.func63, Tryd.ntmps63
    go_wp2
    go_ret
    exact ⟨rfl, hb _⟩
/-- What IndexFunc answers. -/
def IxR (l : List (Int × Int)) (m : Int) (e : Ending) : Prop := ∃ r : Int, e = .returned (.int .i64 r) ∧ (0 ≤ r ↔ spm l m)
set_option maxRecDepth 100000 in
set_option maxHeartbeats 2000000 in
theorem aindex {w : World} {Q : Nat → Prop} {A : Option Addr} {c : Nat} {l : List (Int × Int)} (h : Spn w Q A c l) (m : Int) (g : Nat) (hg : g < w.heap.size) (hm : w.cell? ⟨g, 0, none⟩ = some (.int .i64 m)) (n : Nat) (hn : n = l.length) :
    Calls Tryd.prog 71 #[.slice A n c, .func (.func 63) #[] #[.pointer (some ⟨g, 0, none⟩)]] w fun e w' => IxR l m e ∧ Below w.heap.size w w' := by
  have hnl : n ≤ 9223372036854775807 := by have := h.1; have := h.2.1; unfold maxLen at this; omega
  have HS := Lib.hid (h.mono (Q' := fun b => b < w.heap.size) fun b hb _ => hb)
  have HM : Hid (∀ W, Below w.heap.size w W → W.cell? ⟨g, 0, none⟩ = some (.int .i64 m)) := Lib.hid fun W hb => (World.cell?_of_block (hb.block g hg)).trans hm
  have HN := Lib.hid hn
  clear h hn hm
  go_enter Tryd.func71, Tryd.ntmps71
  go_wp2_with fail
  go_loopw [8] (fun iv wr => ∃ i : Nat, iv = .int .i64 i ∧ i ≤ n ∧ (¬ spm (l.take i) m) ∧ Below w.heap.size w wr) (fun iv _ => n - (intOf iv).toNat)
  case atStart => exact ⟨0, rfl, by omega, spm_nil _, Below.refl _ _⟩
  case round =>
    obtain ⟨i, rfl, hi, hno, hlow⟩ := hrel
    by_cases hin : i < n
    · obtain ⟨⟨s1, s2⟩, hs⟩ : ∃ s, l[i]? = some s := ⟨_, List.getElem?_eq_getElem (by have := HN.out; omega)⟩
      obtain ⟨b, o, rfl, _, hb, y1, y2⟩ := Spn.get (HS.out.low hlow) i _ hs
      simp only at y1 y2
      have hcl := aclo s1 s2 m g wr (Nat.lt_of_lt_of_le hg hlow.size) (HM.out wr hlow)
      have HSS := Lib.hid hs
      have HNO := Lib.hid hno
      have HB := Lib.hid hlow
      have hi0 : (0 : Int) ≤ (i : Int) := by omega
      have hi1 : (i : Int) < (n : Int) := by omega
      obtain ⟨D, hD⟩ : ∃ D, D = decide (s1 ≤ m ∧ m ≤ s2) := ⟨_, rfl⟩
      rw [← hD] at hcl
      have HD := Lib.hid hD
      clear hs hno hlow hD
      go_wp2_with fail
      refine hcl.mono ?_
      rintro e w2 ⟨rfl, hb2⟩
      have HB2 := Lib.hid (HB.out.trans (hb2.mono HB.out.size))
      clear hcl hb2 y1 y2
      cases D
      · have HNX : Hid (¬ spm (l.take (i + 1)) m) := Lib.hid (by
          rw [Sh.take_snoc HSS.out, spm_append, spm_cons]
          rintro (k | k | k)
          · exact HNO.out k
          · exact (of_decide_eq_false HD.out.symm) k
          · exact spm_nil _ k)
        go_wp2_with fail
        go_roundw
        case rel => exact ⟨i + 1, by go_num, by omega, HNX.out, HB2.out⟩
        case measure => simp [intOf]; omega
      · have HF : Hid (IxR l m (.returned (.int .i64 (i : Nat))) ∧ Below w.heap.size w w2) := Lib.hid ⟨⟨(i : Nat), rfl, iff_of_true (by omega) ⟨(s1, s2), List.mem_of_getElem? HSS.out, of_decide_eq_true HD.out.symm⟩⟩, HB2.out⟩
        go_wp2_with fail
        go_ret
        exact HF.out
    · obtain rfl : i = n := by omega
      have HF : Hid (IxR l m (.returned (.int .i64 (-1))) ∧ Below w.heap.size w wr) := Lib.hid ⟨⟨-1, rfl, by
        rw [HN.out, List.take_length] at hno
        constructor
        · omega
        · exact fun h => absurd h hno⟩, hlow⟩
      clear hno hlow
      go_wp2_with fail
      go_ret
      exact HF.out
set_option maxRecDepth 100000 in
theorem acontf {w : World} {Q : Nat → Prop} {A : Option Addr} {c : Nat} {l : List (Int × Int)} (h : Spn w Q A c l) (m : Int) (g : Nat) (hg : g < w.heap.size) (hm : w.cell? ⟨g, 0, none⟩ = some (.int .i64 m)) (n : Nat) (hn : n = l.length) (D : Bool) (hD : D = true ↔ spm l m) :
    Calls Tryd.prog 62 #[.slice A n c, .func (.func 63) #[] #[.pointer (some ⟨g, 0, none⟩)]] w fun e w' => e = .returned (.bool D) ∧ Below w.heap.size w w' := by
  have hix := aindex h m g hg hm n hn
  clear h hm hn
  go_enter Tryd.func62, Tryd.ntmps62
  go_wp2_with fail
  refine hix.mono ?_
  rintro e w' ⟨⟨r, rfl, hr⟩, hb⟩
  have HB := Lib.hid hb
  have hDr : D = true ↔ 0 ≤ r := hD.trans hr.symm
  clear hix hb hr hD
  have e : D = decide (0 ≤ r) := by
    by_cases h0 : 0 ≤ r
    · rw [decide_eq_true h0]; exact hDr.2 h0
    · rw [decide_eq_false h0, Bool.eq_false_iff]; exact fun h => h0 (hDr.1 h)
  have HE := Lib.hid e
  clear e hDr
  go_wp2_with fail
  go_ret
  exact ⟨by rw [HE.out]; rfl, HB.out⟩
end Go.Proofs.YtgbcncfhmnhljaaDoor
namespace Go.Proofs.YtgbcncfhmnhljaaDoor
open Go Go.RowKit Sh Leaf

set_option maxRecDepth 100000 in
set_option maxHeartbeats 1000000 in
theorem aeqs {w : World} {Q1 Q2 : Nat → Prop} {A1 A2 : Option Addr} {c1 c2 : Nat} {la lb : List (Int × Int)} (h1 : Spn w Q1 A1 c1 la) (h2 : Spn w Q2 A2 c2 lb) :
    Calls Tryd.prog 22 #[.slice A1 la.length c1, .slice A2 lb.length c2] w fun e w' => e = .returned (.bool (decide (la = lb))) ∧ Below w.heap.size w w' := by
  have hl1 : la.length ≤ 9223372036854775807 := by have := h1.1; have := h1.2.1; unfold maxLen at this; omega
  obtain ⟨D, hD⟩ : ∃ D, D = decide (la = lb) := ⟨_, rfl⟩
  rw [← hD]
  by_cases kl : la.length = lb.length
  case neg =>
    obtain rfl := hD.trans (decide_eq_false fun h => kl (by rw [h]))
    have kl' : ¬ (la.length : Int) = (lb.length : Int) := by omega
    clear hD h1 h2
    generalize la.length = n1 at *
    generalize lb.length = n2 at *
    go_enter Tryd.func22, Tryd.ntmps22
    go_wp2
    go_ret
    exact ⟨rfl, Below.refl _ _⟩
  obtain ⟨n, hn⟩ : ∃ n, n = la.length := ⟨_, rfl⟩
  rw [← kl, ← hn]
  have HL := Lib.hid (And.intro hn.symm (hn.trans kl).symm)
  have hln : n ≤ 9223372036854775807 := by omega
  have HQ1 := Lib.hid h1
  have HQ2 := Lib.hid h2
  have HD := Lib.hid hD
  clear h1 h2 hD hn kl hl1
  go_enter Tryd.func22, Tryd.ntmps22
  go_wp2
  go_loopw [13] (fun i wr => ∃ j : Nat, i = .int .i64 j ∧ j ≤ n ∧ (∀ i p q, i < j → la[i]? = some p → lb[i]? = some q → p = q) ∧ Spn wr Q1 A1 c1 la ∧ Spn wr Q2 A2 c2 lb ∧ Below w.heap.size w wr) (fun i _ => n - (intOf i).toNat)
  case atStart => exact ⟨0, rfl, by omega, fun i p q h => by omega, HQ1.out, HQ2.out, Below.refl _ _⟩
  case round =>
    obtain ⟨j, rfl, hj, hall, hq1, hq2, hbw⟩ := hrel
    have HB := Lib.hid hbw
    have HA := Lib.hid hall
    clear hbw hall HQ1 HQ2
    by_cases hlt : j < n
    · obtain ⟨⟨p1, p2⟩, hp⟩ : ∃ p, la[j]? = some p := ⟨_, List.getElem?_eq_getElem (by have := HL.out.1; omega)⟩
      obtain ⟨⟨q1, q2⟩, hq⟩ : ∃ p, lb[j]? = some p := ⟨_, List.getElem?_eq_getElem (by have := HL.out.2; omega)⟩
      obtain ⟨ga, oa, rfl, _, hga, x1, x2⟩ := Spn.get hq1 j _ hp
      obtain ⟨gb, ob, rfl, _, hgb, y1, y2⟩ := Spn.get hq2 j _ hq
      simp only at x1 x2 y1 y2
      have hne := fun W => run_neq_span p1 p2 q1 q2 W
      obtain ⟨B, hB⟩ : ∃ B, B = decide (p1 = q1 ∧ p2 = q2) := ⟨_, rfl⟩
      rw [← hB] at hne
      have HBB := Lib.hid hB
      have HP := Lib.hid hp
      have HQ := Lib.hid hq
      have H1 := Lib.hid hq1
      have H2 := Lib.hid hq2
      have hj0 : (0 : Int) ≤ (j : Int) := by omega
      have hjn : (j : Int) < (n : Int) := by omega
      clear hB hp hq hq1 hq2
      cases B
      · go_upto_region 6 with fail
        go_quiet (fail)
        have hF : D = false := by
          rw [HD.out]
          refine decide_eq_false (ne_at HP.out HQ.out fun e => ?_)
          injection e with e1 e2
          exact (of_decide_eq_false HBB.out.symm) ⟨e1, e2⟩
        have HF := Lib.hid hF
        have HG := Lib.hid (below_drewN HB.out nq)
        clear x1 x2 y1 y2 hF
        go_wp2_with fail
        go_ret
        exact ⟨by rw [HF.out]; rfl, HG.out⟩
      · go_upto_region 6 with fail
        go_quiet (fail)
        have HG := Lib.hid (below_drewN HB.out nq)
        clear x1 x2 y1 y2
        go_wp2_with fail
        go_roundw
        case rel =>
          refine ⟨j + 1, by go_num, by omega, fun i p q hi hp hq => ?_, H1.out, H2.out, HG.out⟩
          by_cases e : i = j
          · subst e
            have e1 := HP.out
            have e2 := HQ.out
            rw [hp] at e1
            rw [hq] at e2
            injection e1 with e1
            injection e2 with e2
            obtain ⟨k1, k2⟩ := of_decide_eq_true HBB.out.symm
            rw [e1, e2, k1, k2]
          · exact HA.out i p q (by omega) hp hq
        case measure => simp [intOf]; omega
    · obtain rfl : j = n := by omega
      have hT : D = true := by
        rw [HD.out]
        refine decide_eq_true ?_
        apply List.ext_getElem?
        intro i
        rcases Nat.lt_or_ge i j with h | h
        · obtain ⟨p, hp⟩ : ∃ p, la[i]? = some p := ⟨_, List.getElem?_eq_getElem (by have := HL.out.1; omega)⟩
          obtain ⟨q, hq⟩ : ∃ p, lb[i]? = some p := ⟨_, List.getElem?_eq_getElem (by have := HL.out.2; omega)⟩
          rw [hp, hq, HA.out i p q h hp hq]
        · rw [List.getElem?_eq_none (by have := HL.out.1; omega), List.getElem?_eq_none (by have := HL.out.2; omega)]
      have HT := Lib.hid hT
      clear hq1 hq2 hT
      go_wp2
      go_ret
      exact ⟨by rw [HT.out]; rfl, HB.out⟩
set_option maxRecDepth 100000 in
set_option maxHeartbeats 2000000 in
theorem aeq_in (n1 n2 : Bool) (z1 z2 l1 l2 d1 d2 a1 a2 b1 b2 : Int) (A1 A2 : Option Addr) (c1 c2 : Nat) (s1 s2 : List (Int × Int)) (h1 h2 : List B8) (Q1 Q2 : Nat → Prop) (D : Bool) (w : World)
    (hD : D = decide (n1 = n2 ∧ z1 = z2 ∧ l1 = l2 ∧ d1 = d2 ∧ a1 = a2 ∧ b1 = b2 ∧ h1 = h2 ∧ s1 = s2)) (hS1 : Spn w Q1 A1 c1 s1) (hS2 : Spn w Q2 A2 c2 s2) :
    Calls Tryd.prog 38 #[.agg (arow n1 z1 l1 d1 a1 b1 (.slice A1 s1.length c1) h1), .agg (arow n2 z2 l2 d2 a2 b2 (.slice A2 s2.length c2) h2)] w fun e w' => e = .returned (.bool D) ∧ Below w.heap.size w w' := by
  have hb := ab_below w
  have hs := sof_beq h1 h2
  by_cases kn : n1 = n2
  case neg =>
    obtain rfl := hD.trans (decide_eq_false fun h => kn h.1)
    obtain rfl : n2 = !n1 := by revert kn; cases n1 <;> cases n2 <;> decide
    clear hD kn hS1 hS2 hs
    generalize s1.length = m1 at *
    generalize s2.length = m2 at *
    cases n1
    · skip
      go_enter Tryd.func38, Tryd.ntmps38
      go_wp2
      go_ret
      exact ⟨rfl, hb _ _⟩
    · skip
      go_enter Tryd.func38, Tryd.ntmps38
      go_wp2
      go_ret
      exact ⟨rfl, hb _ _⟩
  subst kn
  have hnn : (n1 == n1) = true := by simp
  by_cases kz : z1 = z2
  case neg =>
    obtain rfl := hD.trans (decide_eq_false fun h => kz h.2.1)
    clear hD hS1 hS2 hs
    generalize s1.length = m1 at *
    generalize s2.length = m2 at *
    go_enter Tryd.func38, Tryd.ntmps38
    go_wp2
    go_ret
    exact ⟨rfl, hb _ _⟩
  subst kz
  by_cases kl : l1 = l2
  case neg =>
    obtain rfl := hD.trans (decide_eq_false fun h => kl h.2.2.1)
    clear hD hS1 hS2 hs
    generalize s1.length = m1 at *
    generalize s2.length = m2 at *
    go_enter Tryd.func38, Tryd.ntmps38
    go_wp2
    go_ret
    exact ⟨rfl, hb _ _⟩
  subst kl
  by_cases kd : d1 = d2
  case neg =>
    obtain rfl := hD.trans (decide_eq_false fun h => kd h.2.2.2.1)
    clear hD hS1 hS2 hs
    generalize s1.length = m1 at *
    generalize s2.length = m2 at *
    go_enter Tryd.func38, Tryd.ntmps38
    go_wp2
    go_ret
    exact ⟨rfl, hb _ _⟩
  subst kd
  by_cases ka : a1 = a2
  case neg =>
    obtain rfl := hD.trans (decide_eq_false fun h => ka h.2.2.2.2.1)
    clear hD hS1 hS2 hs
    generalize s1.length = m1 at *
    generalize s2.length = m2 at *
    go_enter Tryd.func38, Tryd.ntmps38
    go_wp2
    go_ret
    exact ⟨rfl, hb _ _⟩
  subst ka
  by_cases kb : b1 = b2
  case neg =>
    obtain rfl := hD.trans (decide_eq_false fun h => kb h.2.2.2.2.2.1)
    clear hD hS1 hS2 hs
    generalize s1.length = m1 at *
    generalize s2.length = m2 at *
    go_enter Tryd.func38, Tryd.ntmps38
    go_wp2
    go_ret
    exact ⟨rfl, hb _ _⟩
  subst kb
  by_cases kh : h1 = h2
  case neg =>
    obtain rfl := hD.trans (decide_eq_false fun h => kh h.2.2.2.2.2.2.1)
    rw [decide_eq_false kh] at hs
    clear hD hS1 hS2 kh
    generalize s1.length = m1 at *
    generalize s2.length = m2 at *
    go_enter Tryd.func38, Tryd.ntmps38
    go_wp2
    go_ret
    exact ⟨rfl, hb _ _⟩
  subst kh
  rw [decide_eq_true rfl] at hs
  have hD' : D = decide (s1 = s2) := hD.trans (decide_eq_decide.2 ⟨fun h => h.2.2.2.2.2.2.2, fun h => ⟨rfl, rfl, rfl, rfl, rfl, rfl, rfl, h⟩⟩)
  have hq := fun o1 o2 => aeqs ((hS1.alloc o1).alloc o2) ((hS2.alloc o1).alloc o2)
  rw [← hD'] at hq
  clear hD hD' hS1 hS2
  generalize s1.length = m1 at *
  generalize s2.length = m2 at *
  go_enter Tryd.func38, Tryd.ntmps38
  go_wp2_with fail
  refine (hq _ _).mono ?_
  rintro e w' ⟨rfl, hb2⟩
  have HF := Lib.hid ((hb _ _).trans (hb2.mono (by simp; omega)))
  clear hb2 hq hb
  go_wp2
  go_ret
  exact ⟨rfl, HF.out⟩
theorem aequal {w : World} {Q1 Q2 : Nat → Prop} {x y : Value} {a b : Aut} (hx : Av w Q1 x a) (hy : Av w Q2 y b) :
    Calls Tryd.prog 38 #[x, y] w fun e w' => e = .returned (.bool (decide (a = b))) ∧ Below w.heap.size w w' := by
  obtain ⟨A1, c1, rfl, hS1, -⟩ := hx
  obtain ⟨A2, c2, rfl, hS2, -⟩ := hy
  refine aeq_in _ _ _ _ _ _ _ _ _ _ _ _ A1 A2 c1 c2 _ _ _ _ Q1 Q2 _ w (decide_eq_decide.2 ?_) hS1 hS2
  obtain ⟨n1, z1, l1, d1, o1, i1, y1, h1⟩ := a
  obtain ⟨n2, z2, l2, d2, o2, i2, y2, h2⟩ := b
  simp only [Aut.mk.injEq, Int.natCast_inj]
  constructor
  · rintro ⟨e1, e2, e3, e4, e5, e6, e7, e8⟩; exact ⟨e1, e2, e3, e4, e5, e6, e8, e7⟩
  · rintro ⟨e1, e2, e3, e4, e5, e6, e7, e8⟩; exact ⟨e1, e2, e3, e4, e5, e6, e8, e7⟩
end Go.Proofs.YtgbcncfhmnhljaaDoor
namespace Go.Proofs.YtgbcncfhmnhljaaDoor
open Go Go.RowKit Sh Leaf

/-- What closed leaves: the summary, or the empty one. -/
theorem clo_av {z ln F L D : Nat} {M : Nat → Bool} {nm : List B8} {w : World} {B : Nat} {x : Value} (hz : z ≠ 0) (hz2 : z < 18446744073709551616) (hl : ln ≠ 0) (hl2 : ln < 4294967296) (hL : L ≤ 67108864) (hn : nok nm)
    (h : ((∀ y, ¬ inT F L D (tm M) y) ∧ x = .agg (arow true 0 0 0 0 0 (.slice none 0 0) [])) ∨ ∃ a A c, Canon z ln (inT F L D (tm M)) nm a ∧ x = .agg (avl a A c) ∧ Spn w (fun b => B ≤ b) A c a.daily) :
    ∃ c, Av w (fun b => B ≤ b) x c ∧ (((∀ y, ¬ inT F L D (tm M) y) ∧ c = .never) ∨ Canon z ln (inT F L D (tm M)) nm c) := by
  rcases h with ⟨h0, rfl⟩ | ⟨a, A, c, ha, rfl, hS⟩
  · exact ⟨.never, av_never _ _, .inl ⟨h0, rfl⟩⟩
  · exact ⟨a, ⟨A, c, rfl, hS, aok_abd (canon_set ha hz hz2 hl hl2 hL hn).1⟩, .inr ha⟩
set_option maxRecDepth 100000 in
set_option maxHeartbeats 2000000 in
theorem raok_t (z l d lo hi : Int) (A : Option Addr) (n c : Nat) (nm : List B8) (D : Bool) (w w1 : World) (hw1 : w1 = w.alloc (.cells (arow true z l d lo hi (.slice A n c) nm) 25))
    (k4 : Calls Tryd.prog 10 #[.agg (arow true z l d lo hi (.slice A n c) nm), .agg (arow true 0 0 0 0 0 (.slice none 0 0) [])] w1 fun e w' => e = .returned (.bool D) ∧ Below w1.heap.size w1 w') :
    Calls Tryd.prog 21 #[.agg (arow true z l d lo hi (.slice A n c) nm)] w fun e w' => e = .returned (.bool D) ∧ Below w.heap.size w w' := by
  have HB : Hid (Below w.heap.size w w1) := Lib.hid (by rw [hw1]; exact (Below.refl w.heap.size w).alloc (Nat.le_refl _) _)
  have esn : sof [] = { data := #[] } := by unfold sof; rfl
  unfold arow at k4
  rw [esn] at k4
  clear esn
  subst hw1
  go_enter Tryd.func21, Tryd.ntmps21
  go_wp2_with fail
  refine k4.mono ?_
  rintro e w2 ⟨rfl, hb2⟩
  have HF := Lib.hid (HB.out.trans (hb2.mono HB.out.size))
  clear hb2
  go_wp2_with fail
  go_ret
  exact ⟨rfl, HF.out⟩
set_option maxRecDepth 100000 in
set_option maxHeartbeats 2000000 in
theorem raok_f (z l d lo hi : Int) (A : Option Addr) (n c : Nat) (nm : List B8) (D R : Bool) (w w1 : World) (hw1 : w1 = w.alloc (.cells (arow false z l d lo hi (.slice A n c) nm) 25)) (hRD : R = false → D = false)
    (T : World → Nat → Prop) (C : World → Value → Prop)
    (k1 : ∀ W, Below w1.heap.size w1 W → Calls Tryd.prog 43 #[.agg (arow false z l d lo hi (.slice A n c) nm)] W fun e w' => e = .returned (.bool R) ∧ Below w1.heap.size w1 w')
    (k2 : R = true → ∀ W, Below w1.heap.size w1 W → Calls Tryd.prog 24 #[.agg (arow false z l d lo hi (.slice A n c) nm)] W fun e w' => (∃ g, e = .returned (.pointer (some ⟨g, 0, none⟩)) ∧ T w' g) ∧ Below w1.heap.size w1 w')
    (k3 : R = true → ∀ W g, Below w1.heap.size w1 W → T W g → Calls Tryd.prog 35 #[.agg (arow false z l d lo hi (.slice A n c) nm), .pointer (some ⟨g, 0, none⟩)] W fun e w' => (∃ y, e = .returned y ∧ C w' y) ∧ Below w1.heap.size w1 w')
    (k4 : ∀ W y, Below w1.heap.size w1 W → C W y → Calls Tryd.prog 10 #[.agg (arow false z l d lo hi (.slice A n c) nm), y] W fun e w' => e = .returned (.bool D) ∧ Below w1.heap.size w1 w') :
    Calls Tryd.prog 21 #[.agg (arow false z l d lo hi (.slice A n c) nm)] w fun e w' => e = .returned (.bool D) ∧ Below w.heap.size w w' := by
  have hsz : w1.heap.size = w.heap.size + 1 := by rw [hw1]; simp
  have hR : ARow w1 w.heap.size false z l d lo hi (.slice A n c) nm := by rw [hw1]; exact Whole.here _ _ _
  have HB : Hid (Below w.heap.size w w1) := Lib.hid (by rw [hw1]; exact (Below.refl w.heap.size w).alloc (Nat.le_refl _) _)
  have hcc : ∀ W, Below w1.heap.size w1 W → W.cell? ⟨w.heap.size, 0, none⟩ = some (.bool false) ∧ W.cell? ⟨w.heap.size, 1, none⟩ = some (.int .u64 z) ∧ W.cell? ⟨w.heap.size, 2, none⟩ = some (.int .u64 l) ∧ W.cell? ⟨w.heap.size, 3, none⟩ = some (.int .u64 d) ∧ W.cell? ⟨w.heap.size, 4, none⟩ = some (.int .i64 lo) ∧ W.cell? ⟨w.heap.size, 5, none⟩ = some (.int .i64 hi) ∧ W.cell? ⟨w.heap.size, 6, none⟩ = some (.slice A n c) ∧ W.cell? ⟨w.heap.size, 7, none⟩ = some (.string (sof nm)) := fun W hb => ARow.cells (Whole.below hR hb (by omega))
  have hc0 := hcc w1 (Below.refl _ _)
  have hbr := Below.refl w1.heap.size w1
  clear hR hsz
  go_enter Tryd.func21, Tryd.ntmps21
  go_wp2_with fail
  rw [← hw1]
  clear hw1
  cases R
  · obtain rfl := hRD rfl
    clear k2 k3 k4
    refine wp_region_held_drew (S := fun W => W.cell? ⟨w.heap.size, 0, none⟩ = some (.bool false) ∧ W.cell? ⟨w.heap.size, 1, none⟩ = some (.int .u64 z) ∧ W.cell? ⟨w.heap.size, 2, none⟩ = some (.int .u64 l) ∧ W.cell? ⟨w.heap.size, 3, none⟩ = some (.int .u64 d) ∧ W.cell? ⟨w.heap.size, 4, none⟩ = some (.int .i64 lo) ∧ W.cell? ⟨w.heap.size, 5, none⟩ = some (.int .i64 hi) ∧ W.cell? ⟨w.heap.size, 6, none⟩ = some (.slice A n c) ∧ W.cell? ⟨w.heap.size, 7, none⟩ = some (.string (sof nm))) (by kernel_rfl) (hcc _ (Below.refl _ _).drew) (fun hHeld => ?_)
    apply wpAnyH_take (i := 0) rfl (by kernel_rfl) (by kernel_rfl) (by kernel_rfl)
    case hQ => exact fun _ _ _ h => h
    case hS => exact hHeld
    case hy => (refine Or.inl ⟨by rfl, ?_⟩; intro w hSw; go_split_ands; go_simp; (try with_reducible rfl))
    (try simp only [List.getElem_toArray, List.getElem_cons_zero, Act.put, List.setIfInBounds_toArray, List.set_cons_zero, List.set_cons_succ])
    refine wpAnyH_ready (rs := [1]) (by kernel_rfl) (by simp) ?_
    refine AllReadyH.cons rfl (fun K hK => ?_) AllReadyH.nil
    (try simp only [List.getElem_toArray, List.getElem_cons_succ, List.getElem_cons_zero])
    go_simp
    go_at_call 43
    refine (k1 _ (Below.drew hbr)).mono ?_
    rintro e w2 ⟨rfl, hb2⟩
    refine hK.out _ _ (hcc _ hb2) (fun hHeld => ?_)
    clear hK K
    (try simp only [List.getElem_toArray, List.getElem_cons_succ, List.getElem_cons_zero, Act.put, List.setIfInBounds_toArray, List.set_cons_zero, List.set_cons_succ])
    apply wpAnyH_take (i := 2) rfl (by kernel_rfl) (by kernel_rfl) (by kernel_rfl)
    case hQ => exact fun _ _ _ h => h
    case hS => exact hHeld
    case hy => (refine Or.inl ⟨by rfl, ?_⟩; intro w hSw; go_split_ands; go_simp; (try with_reducible rfl))
    (try simp only [List.getElem_toArray, List.getElem_cons_succ, List.getElem_cons_zero, Act.put, List.setIfInBounds_toArray, List.set_cons_zero, List.set_cons_succ])
    apply wpAnyH_take (i := 3) rfl (by kernel_rfl) (by kernel_rfl) (by kernel_rfl)
    case hQ => exact fun _ _ _ h => h
    case hS => exact hHeld
    case hy => exact Or.inr ⟨by rfl, rfl⟩
    (try simp only [List.getElem_toArray, List.getElem_cons_succ, List.getElem_cons_zero, Act.put, List.setIfInBounds_toArray, List.set_cons_zero, List.set_cons_succ])
    apply wpAnyH_take (i := 4) rfl (by kernel_rfl) (by kernel_rfl) (by kernel_rfl)
    case hQ => exact fun _ _ _ h => h
    case hS => exact hHeld
    case hy => exact Or.inr ⟨by rfl, rfl⟩
    (try simp only [List.getElem_toArray, List.getElem_cons_succ, List.getElem_cons_zero, Act.put, List.setIfInBounds_toArray, List.set_cons_zero, List.set_cons_succ])
    apply wpAnyH_take (i := 5) rfl (by kernel_rfl) (by kernel_rfl) (by kernel_rfl)
    case hQ => exact fun _ _ _ h => h
    case hS => exact hHeld
    case hy => exact Or.inr ⟨by rfl, rfl⟩
    (try simp only [List.getElem_toArray, List.getElem_cons_succ, List.getElem_cons_zero, Act.put, List.setIfInBounds_toArray, List.set_cons_zero, List.set_cons_succ])
    apply wpAnyH_take (i := 6) rfl (by kernel_rfl) (by kernel_rfl) (by kernel_rfl)
    case hQ => exact fun _ _ _ h => h
    case hS => exact hHeld
    case hy => exact Or.inr ⟨by rfl, rfl⟩
    (try simp only [List.getElem_toArray, List.getElem_cons_succ, List.getElem_cons_zero, Act.put, List.setIfInBounds_toArray, List.set_cons_zero, List.set_cons_succ])
    apply wpAnyH_take (i := 7) rfl (by kernel_rfl) (by kernel_rfl) (by kernel_rfl)
    case hQ => exact fun _ _ _ h => h
    case hS => exact hHeld
    case hy => exact Or.inr ⟨by rfl, rfl⟩
    (try simp only [List.getElem_toArray, List.getElem_cons_succ, List.getElem_cons_zero, Act.put, List.setIfInBounds_toArray, List.set_cons_zero, List.set_cons_succ])
    apply wpAnyH_take (i := 8) rfl (by kernel_rfl) (by kernel_rfl) (by kernel_rfl)
    case hQ => exact fun _ _ _ h => h
    case hS => exact hHeld
    case hy => exact Or.inr ⟨by rfl, rfl⟩
    (try simp only [List.getElem_toArray, List.getElem_cons_succ, List.getElem_cons_zero, Act.put, List.setIfInBounds_toArray, List.set_cons_zero, List.set_cons_succ])
    apply wpAnyH_take (i := 9) rfl (by kernel_rfl) (by kernel_rfl) (by kernel_rfl)
    case hQ => exact fun _ _ _ h => h
    case hS => exact hHeld
    case hy => (refine Or.inl ⟨by rfl, ?_⟩; intro w hSw; go_split_ands; go_simp; (try with_reducible rfl))
    (try simp only [List.getElem_toArray, List.getElem_cons_succ, List.getElem_cons_zero, Act.put, List.setIfInBounds_toArray, List.set_cons_zero, List.set_cons_succ])
    apply wpAnyH_take (i := 10) rfl (by kernel_rfl) (by kernel_rfl) (by kernel_rfl)
    case hQ => exact fun _ _ _ h => h
    case hS => exact hHeld
    case hy => (refine Or.inl ⟨by rfl, ?_⟩; intro w hSw; go_split_ands; go_simp; (try with_reducible rfl))
    (try simp only [List.getElem_toArray, List.getElem_cons_succ, List.getElem_cons_zero, Act.put, List.setIfInBounds_toArray, List.set_cons_zero, List.set_cons_succ])
    refine wpAnyH_done (by kernel_rfl) ?_ _
    have HF := Lib.hid (HB.out.trans (hb2.mono HB.out.size))
    clear hb2 hcc hc0 hbr k1
    go_wp2
    go_ret
    exact ⟨rfl, HF.out⟩
  · have k2' := k2 rfl
    have k3' := k3 rfl
    clear k2 k3 hRD
    go_region_held3 (fun W => W.cell? ⟨w.heap.size, 0, none⟩ = some (.bool false) ∧ W.cell? ⟨w.heap.size, 1, none⟩ = some (.int .u64 z) ∧ W.cell? ⟨w.heap.size, 2, none⟩ = some (.int .u64 l) ∧ W.cell? ⟨w.heap.size, 3, none⟩ = some (.int .u64 d) ∧ W.cell? ⟨w.heap.size, 4, none⟩ = some (.int .i64 lo) ∧ W.cell? ⟨w.heap.size, 5, none⟩ = some (.int .i64 hi) ∧ W.cell? ⟨w.heap.size, 6, none⟩ = some (.slice A n c) ∧ W.cell? ⟨w.heap.size, 7, none⟩ = some (.string (sof nm))) (first | exact hc0 | assumption | go_keep)
      (first
        | (have g5 := hb4; go_at_call 10; refine (k4 _ _ hb4 hC).mono ?_; rintro e w5 ⟨rfl, hb5⟩; have hs5 := hcc w5 hb5)
        | (have g4 := hb3; go_at_call 35; refine (k3' _ _ hb3 hT).mono ?_; rintro e w4 ⟨⟨y, rfl, hC⟩, hb4⟩; have hs4 := hcc w4 hb4)
        | (have g3 := hb2; go_at_call 24; refine (k2' _ hb2).mono ?_; rintro e w3 ⟨⟨g, rfl, hT⟩, hb3⟩; have hs3 := hcc w3 hb3)
        | (go_at_call 43; refine (k1 _ (Below.drew hbr)).mono ?_; rintro e w2 ⟨rfl, hb2⟩; have hs2 := hcc w2 hb2))
    have HF := Lib.hid (HB.out.trans (hb5.mono HB.out.size))
    clear hb2 hs2 hb3 hs3 hb4 hs4 hb5 hs5 hcc hc0 hbr k1 k2' k3' k4
    go_wp2
    go_ret
    exact ⟨rfl, HF.out⟩
theorem raok {w : World} {Q : Nat → Prop} {x : Value} {a : Aut} (hx : Av w Q x a) :
    Calls Tryd.prog 21 #[x] w fun e w' => e = .returned (.bool (decide (aok a))) ∧ Below w.heap.size w w' := by
  have hx0 := hx.any
  obtain ⟨A, c, rfl, hS, hab⟩ := hx
  obtain ⟨w1, hw1⟩ : ∃ w1, w1 = w.alloc (.cells (avl a A c) 25) := ⟨_, rfl⟩
  have hB : Below w.heap.size w w1 := by rw [hw1]; exact (Below.refl w.heap.size w).alloc (Nat.le_refl _) _
  have hav : ∀ W, Below w1.heap.size w1 W → Av W (fun g => g < w.heap.size) (.agg (avl a A c)) a := fun W hb => ((hx0.below hB (Nat.le_refl _)).low (hb.mono hB.size))
  have k4 : ∀ W y b, Below w1.heap.size w1 W → Av W (fun _ => True) y b → (a = b ↔ aok a) → Calls Tryd.prog 10 #[.agg (avl a A c), y] W fun e w' => e = .returned (.bool (decide (aok a))) ∧ Below w1.heap.size w1 w' := fun W y b hb hy he =>
    (rsame_aut (hav W hb) hy).mono fun e w' h => ⟨by rw [h.1]; exact congrArg (fun t => Ending.returned (Value.bool t)) (decide_eq_decide.2 he), hb.trans (h.2.mono hb.size)⟩
  rcases (by cases a.none <;> simp : a.none = true ∨ a.none = false) with hn | hn
  · have kk := k4 w1 (.agg (arow true 0 0 0 0 0 (.slice none 0 0) [])) .never (Below.refl _ _) (av_never _ _) ⟨fun e => by rw [e]; exact aok_never, fun h => none_aok h hn⟩
    rw [show avl a A c = arow true a.zones a.lines a.days a.lo a.hi (.slice A a.daily.length c) a.holder by unfold avl; rw [hn]] at hw1 kk ⊢
    exact raok_t _ _ _ _ _ A _ c _ _ w w1 hw1 kk
  · have k1 : ∀ W, Below w1.heap.size w1 W → Calls Tryd.prog 43 #[.agg (avl a A c)] W fun e w' => e = .returned (.bool (decide (rng a))) ∧ Below w1.heap.size w1 w' := fun W hb => (rranges (hav W hb)).mono fun e w' h => ⟨h.1, hb.trans (h.2.mono hb.size)⟩
    have kr : decide (rng a) = false → decide (aok a) = false := fun h => decide_eq_false fun k => of_decide_eq_false h (aok_rng k hn)
    have k2 : decide (rng a) = true → ∀ W, Below w1.heap.size w1 W → Calls Tryd.prog 24 #[.agg (avl a A c)] W fun e w' => (∃ g, e = .returned (.pointer (some ⟨g, 0, none⟩)) ∧ TRow w' g a.lo a.hi a.days (fun k => spb a.daily k)) ∧ Below w1.heap.size w1 w' := fun hr W hb => by
      have hr := of_decide_eq_true hr
      have hd : inday a.daily := fun s hs => by
        have := sepA_mem hr.2.2.2.2.2.2.2.2.2.1 s hs
        exact ⟨this.1, this.2, hr.2.2.2.2.2.2.2.2.2.2 s hs⟩
      exact (ttimes a.none a.zones a.lines a.days a.lo a.hi A c a.daily a.holder W (((hS.mono (Q' := fun g => g < w.heap.size) (fun g hg _ => hg)).below hB (Nat.le_refl _)).low (hb.mono hB.size)) hd).mono fun e w' h => ⟨⟨_, h.1, h.2.1⟩, hb.trans (h.2.2.mono hb.size)⟩
    have k3 : decide (rng a) = true → ∀ W g, Below w1.heap.size w1 W → TRow W g a.lo a.hi a.days (fun k => spb a.daily k) → Calls Tryd.prog 35 #[.agg (avl a A c), .pointer (some ⟨g, 0, none⟩)] W fun e w' => (∃ y, e = .returned y ∧ ∃ b, Av w' (fun _ => True) y b ∧ (a = b ↔ aok a)) ∧ Below w1.heap.size w1 w' := fun hr W g hb ht => by
      have hr := of_decide_eq_true hr
      obtain ⟨r1, r2, r3, r4, r5, r6, r7, r8, r9, r10, r11⟩ := id hr
      have e1 : a.lo = ((a.lo.toNat : Nat) : Int) := by omega
      have e2 : a.hi = ((a.hi.toNat : Nat) : Int) := by omega
      rw [e1, e2] at ht
      have hc := rclosed a.zones a.lines a.days a.lo a.hi (.slice A a.daily.length c) a.holder g a.lo.toNat a.hi.toNat a.days (fun k => spb a.daily k) (by omega) (by omega) W ht
      have ea : avl a A c = arow false a.zones a.lines a.days a.lo a.hi (.slice A a.daily.length c) a.holder := by unfold avl; rw [hn]
      rw [ea]
      refine hc.mono fun e w' h => ?_
      obtain ⟨⟨y, rfl, hy⟩, hb'⟩ := h
      obtain ⟨b, hb1, hb2⟩ := clo_av r1 hab.1 r2 r3 (by omega) r9 hy
      refine ⟨⟨y, rfl, b, hb1.all, ?_⟩, hb.trans (hb'.mono hb.size)⟩
      have em : (tm fun k => spb a.daily (k : Int)) = fun k : Nat => spm a.daily (k : Int) := funext fun k => propext (spb_iff _ _)
      rw [em] at hb2
      exact aok_clo hn hab.1 hr hb2
    have kk : ∀ W y, Below w1.heap.size w1 W → (∃ b, Av W (fun _ => True) y b ∧ (a = b ↔ aok a)) → Calls Tryd.prog 10 #[.agg (avl a A c), y] W fun e w' => e = .returned (.bool (decide (aok a))) ∧ Below w1.heap.size w1 w' := fun W y hb ⟨b, h1, h2⟩ => k4 W y b hb h1 h2
    rw [show avl a A c = arow false a.zones a.lines a.days a.lo a.hi (.slice A a.daily.length c) a.holder by unfold avl; rw [hn]] at hw1 k1 k2 k3 kk ⊢
    exact raok_f _ _ _ _ _ A _ c _ _ _ w w1 hw1 kr _ _ k1 k2 k3 kk
end Go.Proofs.YtgbcncfhmnhljaaDoor
namespace Go.Proofs.YtgbcncfhmnhljaaDoor
open Go Go.RowKit Sh Leaf

theorem mins_has (a : Aut) (x : Nat) : hasB a.lo a.hi a.days (fun k => spb a.daily k) x = true ↔ mins a x := by
  unfold hasB mins
  simp only [Bool.and_eq_true, decide_eq_true_eq, spb_iff]
def LatP (a b : Aut) (e : Ending) : Prop := ∃ (m : Nat) (ok : Bool), e = .returned (.tuple #[.int .i64 (m : Int), .bool ok]) ∧ ((ok = true ∧ FirstMin a b m) ∨ (ok = false ∧ m = 0 ∧ NoMin a b))
set_option linter.unusedSimpArgs false in
set_option maxRecDepth 100000 in
set_option maxHeartbeats 4000000 in
theorem rlater {w : World} {Q1 Q2 : Nat → Prop} {x y : Value} {a b : Aut} (hx : Av w Q1 x a) (hy : Av w Q2 y b) (ha : aok a) (hb : aok b) (hna : a.none = false) (hnb : b.none = false) :
    Calls Tryd.prog 27 #[x, y] w fun e w' => LatP a b e ∧ Below w.heap.size w w' := by
  obtain ⟨A1, c1, rfl, hS1, -⟩ := hx
  obtain ⟨A2, c2, rfl, hS2, -⟩ := hy
  obtain ⟨p, hp⟩ : ∃ p, p = (w.alloc (.cells (avl a A1 c1) 25)).alloc (.cells (avl b A2 c2) 25) := ⟨_, rfl⟩
  have hbl : Below w.heap.size w p := by rw [hp]; exact ab_below _ _ _
  have hr1 : ARow p w.heap.size a.none a.zones a.lines a.days a.lo a.hi (.slice A1 a.daily.length c1) a.holder := by rw [hp]; exact (Whole.here _ _ _).alloc _
  have hr2 : ARow p (w.heap.size + 1) b.none b.zones b.lines b.days b.lo b.hi (.slice A2 b.daily.length c2) b.holder := by rw [hp]; exact Whole.at_ _ _ _ _ (by simp)
  have hcc : ∀ W, Below p.heap.size p W → W.cell? ⟨w.heap.size, 0, none⟩ = some (.bool a.none) ∧ W.cell? ⟨w.heap.size, 1, none⟩ = some (.int .u64 (a.zones : Int)) ∧ W.cell? ⟨w.heap.size, 2, none⟩ = some (.int .u64 (a.lines : Int)) ∧ W.cell? ⟨w.heap.size, 3, none⟩ = some (.int .u64 (a.days : Int)) ∧ W.cell? ⟨w.heap.size, 4, none⟩ = some (.int .i64 a.lo) ∧ W.cell? ⟨w.heap.size, 5, none⟩ = some (.int .i64 a.hi) ∧ W.cell? ⟨w.heap.size, 6, none⟩ = some (.slice A1 a.daily.length c1) ∧ W.cell? ⟨w.heap.size, 7, none⟩ = some (.string (sof a.holder)) ∧ W.cell? ⟨(w.heap.size + 1), 0, none⟩ = some (.bool b.none) ∧ W.cell? ⟨(w.heap.size + 1), 1, none⟩ = some (.int .u64 (b.zones : Int)) ∧ W.cell? ⟨(w.heap.size + 1), 2, none⟩ = some (.int .u64 (b.lines : Int)) ∧ W.cell? ⟨(w.heap.size + 1), 3, none⟩ = some (.int .u64 (b.days : Int)) ∧ W.cell? ⟨(w.heap.size + 1), 4, none⟩ = some (.int .i64 b.lo) ∧ W.cell? ⟨(w.heap.size + 1), 5, none⟩ = some (.int .i64 b.hi) ∧ W.cell? ⟨(w.heap.size + 1), 6, none⟩ = some (.slice A2 b.daily.length c2) ∧ W.cell? ⟨(w.heap.size + 1), 7, none⟩ = some (.string (sof b.holder)) := fun W hb => by
    obtain ⟨x0, x1, x2, x3, x4, x5, x6, x7⟩ := ARow.cells (Whole.below hr1 hb (Whole.lt hr1))
    obtain ⟨y0, y1, y2, y3, y4, y5, y6, y7⟩ := ARow.cells (Whole.below hr2 hb (Whole.lt hr2))
    exact ⟨x0, x1, x2, x3, x4, x5, x6, x7, y0, y1, y2, y3, y4, y5, y6, y7⟩
  have kTA : ∀ W, Below p.heap.size p W → Calls Tryd.prog 24 #[.agg (avl a A1 c1)] W fun e w' => (∃ g, e = .returned (.pointer (some ⟨g, 0, none⟩)) ∧ TRow w' g a.lo a.hi a.days (fun k => spb a.daily k)) ∧ Below p.heap.size p w' := fun W hb' =>
    (ttimes a.none a.zones a.lines a.days a.lo a.hi A1 c1 a.daily a.holder W ((hS1.mono (Q' := fun g => g < w.heap.size) (fun g hg _ => hg)).low (hbl.trans (hb'.mono hbl.size))) (aok_bd ha).2).mono fun e w' h => ⟨⟨_, h.1, h.2.1⟩, hb'.trans (h.2.2.mono hb'.size)⟩
  have kTB : ∀ W, Below p.heap.size p W → Calls Tryd.prog 24 #[.agg (avl b A2 c2)] W fun e w' => (∃ g, e = .returned (.pointer (some ⟨g, 0, none⟩)) ∧ TRow w' g b.lo b.hi b.days (fun k => spb b.daily k)) ∧ Below W.heap.size W w' := fun W hb' =>
    (ttimes b.none b.zones b.lines b.days b.lo b.hi A2 c2 b.daily b.holder W ((hS2.mono (Q' := fun g => g < w.heap.size) (fun g hg _ => hg)).low (hbl.trans (hb'.mono hbl.size))) (aok_bd hb).2).mono fun e w' h => ⟨⟨_, h.1, h.2.1⟩, h.2.2⟩
  obtain ⟨r1, r2, r3, r4, r5, r6, r7, r8, r9, r10, r11⟩ := aok_rng ha hna
  obtain ⟨q1, q2, q3, q4, q5, q6, q7, q8, q9, q10, q11⟩ := aok_rng hb hnb
  obtain ⟨F, hF⟩ : ∃ n : Nat, a.lo = (n : Int) := ⟨a.lo.toNat, by omega⟩
  obtain ⟨L, hL⟩ : ∃ n : Nat, a.hi = (n : Int) := ⟨a.hi.toNat, by omega⟩
  obtain ⟨F2, hF2⟩ : ∃ n : Nat, b.lo = (n : Int) := ⟨b.lo.toNat, by omega⟩
  obtain ⟨L2, hL2⟩ : ∃ n : Nat, b.hi = (n : Int) := ⟨b.hi.toNat, by omega⟩
  obtain ⟨fd, hfd⟩ : ∃ n, n = F / 1440 := ⟨_, rfl⟩
  obtain ⟨ld, hld⟩ : ∃ n, n = L / 1440 := ⟨_, rfl⟩
  obtain ⟨fb, hfb⟩ : ∃ n, n = F2 / 1440 := ⟨_, rfl⟩
  obtain ⟨lb, hlb⟩ : ∃ n, n = L2 / 1440 := ⟨_, rfl⟩
  have e1 : (F : Int).tdiv 1440 = (fd : Int) := by rw [Int.tdiv_eq_ediv_of_nonneg (by omega), hfd]; omega
  have e2 : (L : Int).tdiv 1440 = (ld : Int) := by rw [Int.tdiv_eq_ediv_of_nonneg (by omega), hld]; omega
  have e3 : (F2 : Int).tdiv 1440 = (fb : Int) := by rw [Int.tdiv_eq_ediv_of_nonneg (by omega), hfb]; omega
  have e4 : (L2 : Int).tdiv 1440 = (lb : Int) := by rw [Int.tdiv_eq_ediv_of_nonneg (by omega), hlb]; omega
  have wu1 : IntKind.i64.wrap (fd : Int) = (fd : Int) := by rw [IntKind.wrap_i64]; omega
  have wu2 : IntKind.i64.wrap (ld : Int) = (ld : Int) := by rw [IntKind.wrap_i64]; omega
  have wu3 : IntKind.i64.wrap (fb : Int) = (fb : Int) := by rw [IntKind.wrap_i64]; omega
  have wu4 : IntKind.i64.wrap (lb : Int) = (lb : Int) := by rw [IntKind.wrap_i64]; omega
  have v1 : IntKind.i64.wrap ((fd : Int) + 9) = (fd : Int) + 9 := by rw [IntKind.wrap_i64]; omega
  have v2 : IntKind.i64.wrap ((ld : Int) - 9) = (ld : Int) - 9 := by rw [IntKind.wrap_i64]; omega
  have v3 : IntKind.i64.wrap ((fb : Int) - 9) = (fb : Int) - 9 := by rw [IntKind.wrap_i64]; omega
  have v4 : IntKind.i64.wrap ((fb : Int) + 9) = (fb : Int) + 9 := by rw [IntKind.wrap_i64]; omega
  have v5 : IntKind.i64.wrap ((lb : Int) - 9) = (lb : Int) - 9 := by rw [IntKind.wrap_i64]; omega
  have v6 : IntKind.i64.wrap ((lb : Int) + 9) = (lb : Int) + 9 := by rw [IntKind.wrap_i64]; omega
  have HB : Hid (fd ≤ 46604 ∧ ld ≤ 46604 ∧ fb ≤ 46604 ∧ lb ≤ 46604 ∧ fd ≤ ld) := Lib.hid (by omega)
  have HN1 : Hid (0 ≤ a.lo ∧ a.lo / 1440 = (fd : Int) ∧ b.hi / 1440 = (lb : Int)) := Lib.hid (by omega)
  have HN2 : Hid ((fd : Int) * 1440 ≤ a.lo ∧ a.hi < ((ld : Int) + 1) * 1440) := Lib.hid (by omega)
  have HBL := Lib.hid hbl
  have hbr := Below.refl p.heap.size p
  have hc0 := hcc p hbr
  rw [hF, hL] at kTA
  rw [hF2, hL2] at kTB
  have HM1 : Hid (∀ x, hasB F L a.days (fun k => spb a.daily k) x = true ↔ mins a x) := Lib.hid (fun x => by rw [← hF, ← hL]; exact mins_has a x)
  have HM2 : Hid (∀ x, hasB F2 L2 b.days (fun k => spb b.daily k) x = true ↔ mins b x) := Lib.hid (fun x => by rw [← hF2, ← hL2]; exact mins_has b x)
  clear r1 r2 r3 r4 r5 r6 r7 r8 r9 r10 r11 q1 q2 q3 q4 q5 q6 q7 q8 q9 q10 q11 hF hL hF2 hL2 hfd hld hfb hlb hS1 hS2 hr1 hr2 ha hb hna hnb hbl
  go_enter Tryd.func27, Tryd.ntmps27
  go_upto_region 1 with fail
  rw [← hp]
  clear hp
  go_region_held3 (fun W => W.cell? ⟨w.heap.size, 0, none⟩ = some (.bool a.none) ∧ W.cell? ⟨w.heap.size, 1, none⟩ = some (.int .u64 (a.zones : Int)) ∧ W.cell? ⟨w.heap.size, 2, none⟩ = some (.int .u64 (a.lines : Int)) ∧ W.cell? ⟨w.heap.size, 3, none⟩ = some (.int .u64 (a.days : Int)) ∧ W.cell? ⟨w.heap.size, 4, none⟩ = some (.int .i64 a.lo) ∧ W.cell? ⟨w.heap.size, 5, none⟩ = some (.int .i64 a.hi) ∧ W.cell? ⟨w.heap.size, 6, none⟩ = some (.slice A1 a.daily.length c1) ∧ W.cell? ⟨w.heap.size, 7, none⟩ = some (.string (sof a.holder)) ∧ W.cell? ⟨(w.heap.size + 1), 0, none⟩ = some (.bool b.none) ∧ W.cell? ⟨(w.heap.size + 1), 1, none⟩ = some (.int .u64 (b.zones : Int)) ∧ W.cell? ⟨(w.heap.size + 1), 2, none⟩ = some (.int .u64 (b.lines : Int)) ∧ W.cell? ⟨(w.heap.size + 1), 3, none⟩ = some (.int .u64 (b.days : Int)) ∧ W.cell? ⟨(w.heap.size + 1), 4, none⟩ = some (.int .i64 b.lo) ∧ W.cell? ⟨(w.heap.size + 1), 5, none⟩ = some (.int .i64 b.hi) ∧ W.cell? ⟨(w.heap.size + 1), 6, none⟩ = some (.slice A2 b.daily.length c2) ∧ W.cell? ⟨(w.heap.size + 1), 7, none⟩ = some (.string (sof b.holder))) (first | exact hc0 | assumption | go_keep)
    (first
      | (have g5 := hb4; go_at_call 24; refine (kTB _ hb4).mono ?_; rintro e w5 ⟨⟨g2, rfl, hT2⟩, hb5⟩; have hs5 := hcc w5 (hb4.trans (hb5.mono hb4.size)))
      | (go_at_call 24; refine (kTA _ (Below.drew hbr)).mono ?_; rintro e w4 ⟨⟨g1, rfl, hT1⟩, hb4⟩; have hs4 := hcc w4 hb4))
  have hT1' : TRow w5 g1 F L a.days (fun k => spb a.daily k) := Whole.below hT1 hb5 hT1.lt
  have HB5 : Hid (Below w.heap.size w w5) := Lib.hid (HBL.out.trans ((hb4.trans (hb5.mono hb4.size)).mono HBL.out.size))
  clear hs4 hs5 hb4 hb5 hc0 hcc hbr kTA kTB hT1
  have x0 := TRow.c0 hT1'
  have x1 := TRow.c1 hT1'
  have HT1 := Lib.hid hT1'
  have HT2 := Lib.hid hT2
  clear hT1' hT2
  go_upto_region 2 with fail
  go_quiet (fail)
  go_wp2_with fail
  have HN : Hid (Below w.heap.size w (w5.drewN nq)) := Lib.hid (below_drewN HB5.out nq)
  have HT1' : Hid (TRow (w5.drewN nq) g1 F L a.days (fun k => spb a.daily k)) := Lib.hid HT1.out
  have HT2' : Hid (TRow (w5.drewN nq) g2 F2 L2 b.days (fun k => spb b.daily k)) := Lib.hid HT2.out
  generalize w5.drewN nq = p1 at HN HT1' HT2' ⊢
  clear x0 x1 e1 e2 wu1 wu2 HT1 HT2 HB5 g5
  go_loopw [10] (fun v wr => ∃ d : Nat, v = .int .i64 d ∧ d ≤ ld + 1 ∧ before a b d 0 ∧ wr = p1) (fun v _ => ld + 1 - (intOf v).toNat)
  case atStart => exact ⟨fd, rfl, by have := HB.out; omega, before.start fd HN2.out.1, rfl⟩
  case round =>
    obtain ⟨d, rfl, hd, hbef, rfl⟩ := hrel
    obtain ⟨hb1, hb2, hb3, hb4, hb5⟩ := HB.out
    have HBF := Lib.hid hbef
    clear hbef
    by_cases hdl : d ≤ ld
    case neg =>
      have HX : Hid (NoMin a b) := Lib.hid (before.done HBF.out (by have := HN2.out.2; omega))
      clear HBF
      go_wp2_with fail
      go_ret2
      exact ⟨⟨0, false, rfl, .inr ⟨rfl, rfl, HX.out⟩⟩, HN.out⟩
    have hdl' : (d : Int) ≤ (ld : Int) := by omega
    have x0 := TRow.c0 HT2'.out
    have x1 := TRow.c1 HT2'.out
    go_upto_region 6 with fail
    go_cut [11] (fun v wx => ∃ n : Bool, v = .bool n ∧ (n = false → before a b (d + 1) 0) ∧ wx = wr)
    case first =>
      by_cases h1 : (d : Int) ≤ (fd : Int) + 9
      · skip
        go_wp2_with fail
        go_meet
        exact ⟨true, rfl, (fun h => nomatch h), rfl⟩
      by_cases h2 : (ld : Int) - 9 ≤ (d : Int)
      · skip
        go_wp2_with fail
        go_meet
        exact ⟨true, rfl, (fun h => nomatch h), rfl⟩
      by_cases h3 : (fb : Int) - 9 ≤ (d : Int)
      · by_cases h4 : (d : Int) ≤ (fb : Int) + 9
        · skip
          go_wp2_with fail
          go_meet
          exact ⟨true, rfl, (fun h => nomatch h), rfl⟩
        · skip
          by_cases h5 : (lb : Int) - 9 ≤ (d : Int)
          · by_cases h6 : (d : Int) ≤ (lb : Int) + 9
            · skip
              go_wp2_with fail
              go_meet
              exact ⟨true, rfl, (fun h => nomatch h), rfl⟩
            · skip
              go_wp2_with fail
              go_meet
              exact ⟨false, rfl, fun _ => near_skip HBF.out HN1.out.1 (by rw [HN1.out.2.1]; omega) (by rw [HN1.out.2.2]; omega), rfl⟩
          · skip
            go_wp2_with fail
            go_meet
            exact ⟨false, rfl, fun _ => near_skip HBF.out HN1.out.1 (by rw [HN1.out.2.1]; omega) (by rw [HN1.out.2.2]; omega), rfl⟩
      · skip
        by_cases h5 : (lb : Int) - 9 ≤ (d : Int)
        · by_cases h6 : (d : Int) ≤ (lb : Int) + 9
          · skip
            go_wp2_with fail
            go_meet
            exact ⟨true, rfl, (fun h => nomatch h), rfl⟩
          · skip
            go_wp2_with fail
            go_meet
            exact ⟨false, rfl, fun _ => near_skip HBF.out HN1.out.1 (by rw [HN1.out.2.1]; omega) (by rw [HN1.out.2.2]; omega), rfl⟩
        · skip
          go_wp2_with fail
          go_meet
          exact ⟨false, rfl, fun _ => near_skip HBF.out HN1.out.1 (by rw [HN1.out.2.1]; omega) (by rw [HN1.out.2.2]; omega), rfl⟩
    case rest =>
      obtain ⟨n, rfl, hn, hwr⟩ := hcut
      have hwr' := hwr.symm
      subst hwr'
      clear x0 x1 v1 v2 v3 v4 v5 v6
      cases n
      · have HC2 : Hid (before a b (d + 1) 0) := Lib.hid (hn rfl)
        clear hn HBF
        go_wp2_with fail
        go_roundw
        case rel => exact ⟨d + 1, by go_num, by omega, HC2.out, trivial⟩
        case measure => simp [intOf]; omega
      have c2 := TRow.c2 HT1'.out
      obtain ⟨i, hi⟩ : ∃ i, i = d % 7 := ⟨_, rfl⟩
      have hi7 : i < 7 := by omega
      have e5 : (d : Int).tmod 7 = (i : Int) := by rw [Int.tmod_eq_emod_of_nonneg (by omega), hi]; omega
      have wi7 : IntKind.u64.wrap (i : Int) = (i : Int) := by rw [IntKind.wrap_u64]; omega
      have hmi : min i 64 = i := by omega
      have hbit := bit_zero a.days i
      have HI := Lib.hid hi
      clear hi hn
      by_cases hbt : a.days / 2 ^ i % 2 = 1
      case neg =>
        rw [decide_eq_false hbt] at hbit
        have HC2 : Hid (before a b (d + 1) 0) := Lib.hid (day_skip HBF.out (by rw [← HI.out]; exact hbt))
        clear hbt HBF
        go_wp2_with fail
        go_roundw
        case rel => exact ⟨d + 1, by go_num, by omega, HC2.out, trivial⟩
        case measure => simp [intOf]; omega
      rw [decide_eq_true hbt] at hbit
      clear hbt
      go_wp2_with fail
      clear c2 e5 wi7 hmi hbit hi7 HI
      go_loopw [12] (fun kv wx => ∃ k : Nat, kv = .int .i64 k ∧ k ≤ 1440 ∧ before a b d k ∧ wx = wr) (fun kv _ => 1440 - (intOf kv).toNat)
      case atStart => exact ⟨0, rfl, by omega, HBF.out, rfl⟩
      case round =>
        obtain ⟨k, rfl, hk, hbk, rfl⟩ := hrel
        have HK := Lib.hid hbk
        clear hbk HBF
        by_cases hk4 : k < 1440
        case neg =>
          obtain rfl : k = 1440 := by omega
          have HD2 : Hid (before a b (d + 1) 0) := Lib.hid HK.out.next
          go_wp2_with fail
          go_roundw
          case rel => exact ⟨d + 1, by go_num, by omega, HD2.out, trivial⟩
          case measure => simp [intOf]; omega
        have cM := TRow.m HT1'.out k hk4
        have k0 : (0 : Int) ≤ (k : Int) := by omega
        have k1 : (k : Int) < 1440 := by omega
        have w5' : IntKind.i64.wrap ((d : Int) * 1440) = (d : Int) * 1440 := by rw [IntKind.wrap_i64]; omega
        have w6' : IntKind.i64.wrap ((d : Int) * 1440 + (k : Int)) = ((d * 1440 + k : Nat) : Int) := by rw [IntKind.wrap_i64]; omega
        obtain ⟨X, hX⟩ : ∃ X, X = d * 1440 + k := ⟨_, rfl⟩
        have hstep : ¬ dif a b X → before a b d (k + 1) := fun h x hx hd' => by
          by_cases e : x = X
          · rw [e] at hd'; exact h hd'
          · exact HK.out x (by omega) hd'
        have hfirst : dif a b X → FirstMin a b X := fun h => by rw [hX] at h ⊢; exact HK.out.first hk4 h
        have hmk : mins a X → spb a.daily k = true := fun h => by
          have := h.2.2.2
          rw [show X % 1440 = k by omega] at this
          exact (spb_iff _ _).2 this
        rw [← hX] at w6'
        have HST := Lib.hid hstep
        have HFI := Lib.hid hfirst
        have HMK := Lib.hid hmk
        have hX8 : X ≤ 1000000000000 := by omega
        have hcl1 := thas g1 F L a.days (fun k => spb a.daily k) X hX8 wr HT1'.out
        have hcl2 := thas g2 F2 L2 b.days (fun k => spb b.daily k) X hX8 wr HT2'.out
        obtain ⟨B1, hB1⟩ : ∃ B, B = hasB F L a.days (fun k => spb a.daily k) X := ⟨_, rfl⟩
        obtain ⟨B2, hB2⟩ : ∃ B, B = hasB F2 L2 b.days (fun k => spb b.daily k) X := ⟨_, rfl⟩
        rw [← hB1] at hcl1
        rw [← hB2] at hcl2
        have H1 : Hid (B1 = true ↔ mins a X) := Lib.hid (by rw [hB1]; exact HM1.out X)
        have H2 : Hid (B2 = true ↔ mins b X) := Lib.hid (by rw [hB2]; exact HM2.out X)
        obtain ⟨B0, hB0⟩ : ∃ B, B = spb a.daily k := ⟨_, rfl⟩
        rw [← hB0] at cM hmk
        have H0 : Hid (mins a X → B0 = true) := Lib.hid hmk
        clear hstep hfirst hmk hX hB1 hB2 hB0 hX8 HMK HK
        cases B0
        · have HX : Hid (before a b d (k + 1)) := Lib.hid (HST.out fun h => by have := H0.out h.1; cases this)
          clear hcl1 hcl2
          go_wp2_with fail
          go_roundw
          case rel => exact ⟨k + 1, by go_num, by omega, HX.out, trivial⟩
          case measure => simp [intOf]; omega
        go_wp2_with fail
        refine hcl1.mono ?_
        rintro e w1 ⟨rfl, hw1⟩
        subst hw1
        clear hcl1 cM
        cases B1
        · have HX : Hid (before a b d (k + 1)) := Lib.hid (HST.out fun h => by have := H1.out.2 h.1; cases this)
          clear hcl2
          go_wp2_with fail
          go_roundw
          case rel => exact ⟨k + 1, by go_num, by omega, HX.out, trivial⟩
          case measure => simp [intOf]; omega
        go_wp2_with fail
        refine hcl2.mono ?_
        rintro e w1 ⟨rfl, hw1⟩
        subst hw1
        clear hcl2
        cases B2
        · have HX : Hid (FirstMin a b X) := Lib.hid (HFI.out ⟨by have := H1.out; simpa using this, fun h => by have := H2.out.2 h; cases this⟩)
          go_wp2_with fail
          go_ret2
          exact ⟨⟨X, true, rfl, .inl ⟨rfl, HX.out⟩⟩, HN.out⟩
        · have HX : Hid (before a b d (k + 1)) := Lib.hid (HST.out fun h => h.2 (H2.out.1 rfl))
          go_wp2_with fail
          go_roundw
          case rel => exact ⟨k + 1, by go_num, by omega, HX.out, trivial⟩
          case measure => simp [intOf]; omega
end Go.Proofs.YtgbcncfhmnhljaaDoor
