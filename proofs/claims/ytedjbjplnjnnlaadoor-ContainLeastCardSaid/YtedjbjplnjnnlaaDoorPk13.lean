/-
  The program's common: the common minutes of two lists of spans.
  The program's search among spans: the function value of Contains, slices.IndexFunc, slices.ContainsFunc.
  The program's equal: slices.Equal on spans, equal on authorities.
-/
import Derived.BigRegion
import Derived.BigQuiet
import Derived.Deep.CutBlock
import Derived.Deep.DeepCutAuto
import Derived.Test.YtedjbjplnjnnlaaDoorPk9
namespace Go.Proofs.YtedjbjplnjnnlaaDoor
open Go Go.RowKit Sh Leaf

/-- The length of a slice value. -/
def slen : Value → Nat
  | .slice _ n _ => n
  | _ => 0
theorem sbd_cmn {s t : Int × Int} (hs : sbd s) (ht : sbd t) : sbd (max s.1 t.1, min s.2 t.2) := by
  obtain ⟨⟨a, b⟩, c, d⟩ := hs
  obtain ⟨⟨e, f⟩, g, h⟩ := ht
  exact ⟨⟨by simp only; omega, by simp only; omega⟩, ⟨by simp only; omega, by simp only; omega⟩⟩
/-- What is known while common goes on. -/
structure CmI (w : World) (la lb : List (Int × Int)) (x y v : Value) (wr : World) (A1 : Option Addr) (n1 c1 : Nat) (ra : List (Int × Int)) (A2 : Option Addr) (n2 c2 : Nat) (rb l : List (Int × Int)) : Prop where
  ex : x = .slice A1 n1 c1
  ey : y = .slice A2 n2 c2
  en1 : n1 = ra.length
  en2 : n2 = rb.length
  sa : Spn wr (fun g => g < w.heap.size) A1 c1 ra
  sb : Spn wr (fun g => g < w.heap.size) A2 c2 rb
  own : OwnSp wr w.heap.size v l
  bd : ∀ s ∈ l, sbd s
  low : Below w.heap.size w wr
  eq : l ++ cmn ra rb = cmn la lb
  len : l.length + ra.length + rb.length ≤ la.length + lb.length
/-- .. for some lists. -/
def CmR (w : World) (la lb : List (Int × Int)) (x y v : Value) (wr : World) : Prop := ∃ A1' m1 c1' ra A2' m2 c2' rb l, CmI w la lb x y v wr A1' m1 c1' ra A2' m2 c2' rb l
theorem CmR.drewN {w wr : World} {la lb : List (Int × Int)} {x y v : Value} (h : CmR w la lb x y v wr) (n : Nat) : CmR w la lb x y v (wr.drewN n) := by
  obtain ⟨a1, a2, a3, a4, a5, a6, a7, a8, a9, h⟩ := h
  exact ⟨a1, a2, a3, a4, a5, a6, a7, a8, a9, h.ex, h.ey, h.en1, h.en2, h.sa, h.sb, h.own, h.bd, below_drewN h.low n, h.eq, h.len⟩
/-- One step of common. -/
def CmS (w wr : World) (la lb : List (Int × Int)) (g1 o1 k1 c1 : Nat) (s1 s2 : Int) (ra : List (Int × Int)) (g2 o2 k2 c2 : Nat) (t1 t2 : Int) (rb l l2 : List (Int × Int)) (v2 : Value) (w2 : World) : Prop :=
  OwnSp w2 w.heap.size v2 l2 → Below w.heap.size wr w2 → l2 = l ++ cmn1 (s1, s2) (t1, t2) →
    (s2 < t2 → ∀ A1' c1' n', n' = k1 → Spn w2 (fun g => g < w.heap.size) A1' c1' ra → CmR w la lb (.slice A1' n' c1') (.slice (some ⟨g2, o2, none⟩) (k2 + 1) c2) v2 w2) ∧
    (t2 ≤ s2 → ∀ A2' c2' n', n' = k2 → Spn w2 (fun g => g < w.heap.size) A2' c2' rb → CmR w la lb (.slice (some ⟨g1, o1, none⟩) (k1 + 1) c1) (.slice A2' n' c2') v2 w2)
theorem CmI.step {w wr : World} {la lb : List (Int × Int)} {v : Value} {A1 A2 : Option Addr} {k1 k2 c1 c2 g1 o1 g2 o2 : Nat} {s1 s2 t1 t2 : Int} {ra rb l : List (Int × Int)}
    (h : CmI w la lb (.slice A1 (k1 + 1) c1) (.slice A2 (k2 + 1) c2) v wr A1 (k1 + 1) c1 ((s1, s2) :: ra) A2 (k2 + 1) c2 ((t1, t2) :: rb) l) (e1 : A1 = some ⟨g1, o1, none⟩) (e2 : A2 = some ⟨g2, o2, none⟩) (l2 : List (Int × Int)) (v2 : Value) (w2 : World) :
    CmS w wr la lb g1 o1 k1 c1 s1 s2 ra g2 o2 k2 c2 t1 t2 rb l l2 v2 w2 := by
  subst e1 e2
  intro h1 h2 h3
  obtain ⟨_, _, k1, k2, hsa, hsb, _, hbd, hlow, e, hl⟩ := h
  have hbd1 := hsa.2.2.2.1 (s1, s2) (by simp)
  have hbd2 := hsb.2.2.2.1 (t1, t2) (by simp)
  rw [cmn_cons] at e
  have hb : ∀ s ∈ l2, sbd s := fun s hs => by
    rw [h3] at hs
    rcases List.mem_append.1 hs with hs | hs
    · exact hbd s hs
    · unfold cmn1 at hs
      split at hs
      · rw [List.mem_singleton.1 hs]; exact sbd_cmn hbd1 hbd2
      · simp at hs
  have hl1 := cmn1_len (s1, s2) (t1, t2)
  rw [List.length_cons, List.length_cons] at hl
  rw [List.length_cons] at k1 k2
  constructor
  · rintro hlt A c n' rfl hs
    rw [if_pos hlt] at e
    exact ⟨_, _, _, ra, _, _, _, (t1, t2) :: rb, l2, rfl, rfl, by omega, by rw [List.length_cons]; omega, hs, hsb.low h2, h1, hb, hlow.trans h2, by rw [← e, h3, List.append_assoc], by rw [h3, List.length_append, List.length_cons]; omega⟩
  · rintro hlt A c n' rfl hs
    rw [if_neg (by simp only; omega)] at e
    exact ⟨_, _, _, (s1, s2) :: ra, _, _, _, rb, l2, rfl, rfl, by rw [List.length_cons]; omega, by omega, hsa.low h2, hs, h1, hb, hlow.trans h2, by rw [← e, h3, List.append_assoc], by rw [h3, List.length_append, List.length_cons]; omega⟩
/-- What a step leaves. -/
def CmM (w wr : World) (l : List (Int × Int)) (s t : Int × Int) (v2 : Value) (w2 : World) : Prop := OwnSp w2 w.heap.size v2 (l ++ cmn1 s t) ∧ Below w.heap.size wr w2
set_option maxRecDepth 100000 in
set_option maxHeartbeats 2000000 in
theorem acommon {w : World} {Q1 Q2 : Nat → Prop} {A1 A2 : Option Addr} {c1 c2 : Nat} {la lb : List (Int × Int)} (h1 : Spn w Q1 A1 c1 la) (h2 : Spn w Q2 A2 c2 lb) (hl : la.length + lb.length ≤ 100000) {n1 n2 : Nat} (hn1 : n1 = la.length) (hn2 : n2 = lb.length) :
    Calls Tryd.prog 53 #[.slice A1 n1 c1, .slice A2 n2 c2] w fun e w' => (∃ A c n, e = .returned (.slice A n c) ∧ n = (cmn la lb).length ∧ Spn w' (fun g => w.heap.size ≤ g) A c (cmn la lb)) ∧ Below w.heap.size w w' := by
  have HI : Hid (CmR w la lb (.slice A1 n1 c1) (.slice A2 n2 c2) (.slice none 0 0) w) := Lib.hid
    ⟨A1, n1, c1, la, A2, n2, c2, lb, [], rfl, rfl, hn1, hn2, h1.mono fun g hg _ => hg, h2.mono fun g hg _ => hg, owns_nil _ _, fun s hs => by simp at hs, Below.refl _ _, rfl, by simp⟩
  have HL := Lib.hid hl
  clear h1 h2 hl hn1 hn2
  go_enter Tryd.func53, Tryd.ntmps53
  go_wp2_with fail
  go_loopw [0, 1, 5] (fun x y v wr => CmR w la lb x y v wr) (fun x y _ _ => slen x + slen y)
  case atStart => exact HI.out
  case round =>
    clear HI
    obtain ⟨A1, n1, c1, ra, A2, n2, c2, rb, l, hI⟩ := hrel
    have HI := Lib.hid hI
    obtain ⟨rfl, rfl, e1, e2, sa, sb, own, hbd, hlow, heq, hlen⟩ := hI
    have HF : Hid (cmn ra rb = [] → (∃ A c n, (Ending.returned u5 : Ending) = .returned (.slice A n c) ∧ n = (cmn la lb).length ∧ Spn wr (fun g => w.heap.size ≤ g) A c (cmn la lb)) ∧ Below w.heap.size w wr) := Lib.hid fun h0 => by
      rw [h0, List.append_nil] at heq
      subst heq
      obtain ⟨A, c, rfl, hS⟩ := own.seq hbd
      exact ⟨⟨A, c, _, rfl, rfl, hS⟩, hlow⟩
    clear heq hbd
    cases ra with
    | nil =>
      have HE := Lib.hid (HF.out (cmn_nil _))
      rw [List.length_nil] at e1
      subst e1
      clear HF own HI sa sb
      go_wp2_with fail
      go_ret
      exact HE.out
    | cons s ra =>
    cases rb with
    | nil =>
      have HE := Lib.hid (HF.out (cmn_nil2 _))
      rw [List.length_nil] at e2
      subst e2
      obtain ⟨k1, hk1⟩ : ∃ k, k = ra.length := ⟨_, rfl⟩
      rw [List.length_cons, ← hk1] at e1
      have hp : (0 : Int) < (n1 : Int) := by omega
      clear HF own hk1 e1 HI sa sb
      go_wp2_with fail
      go_ret
      exact HE.out
    | cons t rb =>
    clear HF
    obtain ⟨k1, hk1⟩ : ∃ k, k = ra.length := ⟨_, rfl⟩
    obtain ⟨k2, hk2⟩ : ∃ k, k = rb.length := ⟨_, rfl⟩
    rw [List.length_cons, ← hk1] at e1
    rw [List.length_cons, ← hk2] at e2
    subst e1 e2
    have hbd1 := sa.2.2.2.1 s (by simp)
    have hbd2 := sb.2.2.2.1 t (by simp)
    obtain ⟨g1, o1, rfl, hg1, hg1', x1, x2⟩ := Spn.get sa 0 s rfl
    obtain ⟨g2, o2, rfl, hg2, hg2', y1, y2⟩ := Spn.get sb 0 t rfl
    have hp1 : (0 : Int) < ((k1 + 1 : Nat) : Int) := by omega
    have hp2 : (0 : Int) < ((k2 + 1 : Nat) : Int) := by omega
    rw [Nat.zero_mul, Nat.add_zero] at x1 x2 y1 y2
    have hll : l.length ≤ 99000000 := by have := HL.out; omega
    obtain ⟨s1, s2⟩ := s
    obtain ⟨t1, t2⟩ := t
    simp only at x1 x2 y1 y2
    have HST := Lib.hid fun l2 v2 w2 => CmI.step HI.out rfl rfl l2 v2 w2
    have HO := Lib.hid own
    have HSA := Lib.hid sa
    have HSB := Lib.hid sb
    have hwl := hlow.size
    have HC : Hid (∀ W, Below w.heap.size wr W → W.cell? ⟨g1, o1 + 1, none⟩ = some (.int .i64 s2) ∧ W.cell? ⟨g2, o2 + 1, none⟩ = some (.int .i64 t2)) := Lib.hid fun W hb =>
      ⟨(World.cell?_of_block (hb.block g1 hg1)).trans x2, (World.cell?_of_block (hb.block g2 hg2)).trans y2⟩
    obtain ⟨X1, hX1⟩ : ∃ x, x = (if c1 = 1 then (some ⟨g1, o1, none⟩ : Option Addr) else (some ⟨g1, o1, none⟩ : Option Addr).map (·.add (1 * 2))) := ⟨_, rfl⟩
    obtain ⟨X2, hX2⟩ : ∃ x, x = (if c2 = 1 then (some ⟨g2, o2, none⟩ : Option Addr) else (some ⟨g2, o2, none⟩ : Option Addr).map (·.add (1 * 2))) := ⟨_, rfl⟩
    have hcut1 : ∀ W, (Instr.sliceAt 23 (.slice (some ⟨g1, o1, none⟩) (k1 + 1) c1) (some (.int .i64 1)) none none).run Tryd.prog W = .ok (.slice X1 k1 (c1 - 1)) W := fun W => by
      have := run_seq_from (P := Tryd.prog) (n := 2) (t := 23) (by kernel_rfl) (by kernel_rfl) (some ⟨g1, o1, none⟩) (k1 + 1) c1 1 (by omega) W
      rw [← hX1] at this
      exact this
    have hcut2 : ∀ W, (Instr.sliceAt 23 (.slice (some ⟨g2, o2, none⟩) (k2 + 1) c2) (some (.int .i64 1)) none none).run Tryd.prog W = .ok (.slice X2 k2 (c2 - 1)) W := fun W => by
      have := run_seq_from (P := Tryd.prog) (n := 2) (t := 23) (by kernel_rfl) (by kernel_rfl) (some ⟨g2, o2, none⟩) (k2 + 1) c2 1 (by omega) W
      rw [← hX2] at this
      exact this
    have HS1 : Hid (Spn wr (fun g => g < w.heap.size) X1 (c1 - 1) ra) := Lib.hid (by rw [hX1]; exact (HSA.out.from scl_len 1 (by simp)).2)
    have HS2 : Hid (Spn wr (fun g => g < w.heap.size) X2 (c2 - 1) rb) := Lib.hid (by rw [hX2]; exact (HSB.out.from scl_len 1 (by simp)).2)
    have HCUT := Lib.hid hcut1
    have HCUT2 := Lib.hid hcut2
    have HK1 := Lib.hid hk1
    have HK2 := Lib.hid hk2
    obtain ⟨M, hM⟩ : ∃ z, z = max s1 t1 := ⟨_, rfl⟩
    obtain ⟨N, hN⟩ : ∃ z, z = min s2 t2 := ⟨_, rfl⟩
    have q1 : (if s1 < t1 then t1 else s1) = M := by rw [hM]; split <;> omega
    have q2 : (if s2 < t2 then s2 else t2) = N := by rw [hN]; split <;> omega
    have q3 : (if t2 < s2 then t2 else s2) = N := by rw [hN]; split <;> omega
    have hsb : sbd (M, N) := by rw [hM, hN]; exact sbd_cmn hbd1 hbd2
    have e1 : cmn1 (s1, s2) (t1, t2) = if M ≤ N then [(M, N)] else [] := by rw [hM, hN]; rfl
    have HB1 : Hid (Below wr.heap.size wr (wr.alloc (.cells #[.int .i64 M, .int .i64 N] 56)).drew) := Lib.hid (((Below.refl wr.heap.size wr).alloc (Nat.le_refl _) _).drew)
    have HQ : Hid (M ≤ N → Seq scl sbd ((wr.alloc (.cells #[.int .i64 M, .int .i64 N] 56)).alloc (.cells #[.int .i64 M, .int .i64 N] 56)).drew (fun b => b = wr.heap.size + 1) (some ⟨wr.heap.size + 1, 0, none⟩) 1 [(M, N)]) := Lib.hid fun _ => seq_one (f := scl) (p := (M, N)) (Whole.at_ _ _ _ _ (by simp)) rfl hsb
    have HE1 := Lib.hid e1
    have HWL := Lib.hid hwl
    have HLL := Lib.hid hll
    have HG := Lib.hid (And.intro hg1 hg2)
    clear own sa sb hlow hX1 hX2 hk1 hk2 hM hN hsb hbd1 hbd2 hcut1 hcut2 e1 HI HSA HSB hwl hll hg1 hg2 hlen
    go_wp2_with fail
    go_region
    clear x1 x2 y1 y2 q1 q2 q3 hg1' hg2'
    go_upto_if 38 with fail
    go_cut [5] (fun v wx => CmM w wr l (s1, s2) (t1, t2) v wx)
    case first =>
      clear HC HS1 HS2 HCUT HCUT2 HST hp1 hp2 HK1 HK2 HG
      by_cases hMN : M ≤ N
      · have HE2 := Lib.hid (HE1.out.trans (if_pos hMN))
        have HB2 : Hid (Below wr.heap.size wr ((wr.alloc (.cells #[.int .i64 M, .int .i64 N] 56)).alloc (.cells #[.int .i64 M, .int .i64 N] 56)).drew) := Lib.hid ((((Below.refl wr.heap.size wr).alloc (Nat.le_refl _) _).alloc (by simp) _).drew)
        have HQ2 := Lib.hid (HQ.out hMN)
        clear HQ HE1
        go_wp2_with (at_builtin; go_must (refine wpList_append_seq rfl _ _ 23 56 _ 16 rfl Tryd.underlying23 spanInfo rfl (by decide) (by decide) scl_len scl_one w.heap.size _ l rfl (own_below HO.out HB2.out (Nat.le_refl _)) (fun b => b = wr.heap.size + 1) _ 1 _ [(M, N)] rfl rfl HQ2.out (by have := HLL.out; simp <;> omega) (by have := HWL.out; simp <;> omega) ?_; intro v2 w2 h1 h2 h3; have HBB : Hid (CmM w wr l (s1, s2) (t1, t2) v2 w2) := Lib.hid ⟨by rw [HE2.out]; exact h1, (HB2.out.mono HWL.out).trans h2⟩; clear h1 h2 h3))
        go_meet
        exact HBB.out
      · have HBB : Hid (CmM w wr l (s1, s2) (t1, t2) u5 (wr.alloc (.cells #[.int .i64 M, .int .i64 N] 56)).drew) := Lib.hid ⟨by rw [HE1.out, if_neg hMN, List.append_nil]; exact own_below HO.out HB1.out (Nat.le_refl _), HB1.out.mono HWL.out⟩
        clear HQ HE1 HB1 HO
        go_wp2_with fail
        go_meet
        exact HBB.out
    case rest =>
      rename World => w2
      clear HQ HE1 HB1 HO
      have HM := Lib.hid hcut
      obtain ⟨x2, y2⟩ := HC.out _ HM.out.2
      have HX := Lib.hid (HST.out _ _ _ HM.out.1 HM.out.2 rfl)
      have hz1 := Lib.hid (HS1.out.low HM.out.2)
      have hz2 := Lib.hid (HS2.out.low HM.out.2)
      have hcut1 := HCUT.out
      have hcut2 := HCUT2.out
      clear HS1 HS2 HM hcut HC HST HCUT HCUT2 HG HLL HWL HK1 HK2 HL
      by_cases hlt : s2 < t2
      · have HR := Lib.hid (HX.out.1 hlt _ _ _ rfl hz1.out)
        clear hz1 hz2 HX hcut2
        go_upto_region 6 with fail
        go_quiet (fail)
        go_wp2_with fail
        go_roundw
        case rel => exact HR.out.drewN _
        case measure => simp [slen]
      · have hle : t2 ≤ s2 := by omega
        have HR := Lib.hid (HX.out.2 hle _ _ _ rfl hz2.out)
        clear hz1 hz2 HX hlt hcut1
        go_upto_region 6 with fail
        go_quiet (fail)
        go_wp2_with fail
        go_roundw
        case rel => exact HR.out.drewN _
        case measure => simp [slen]
end Go.Proofs.YtedjbjplnjnnlaaDoor
namespace Go.Proofs.YtedjbjplnjnnlaaDoor
open Go Go.RowKit Sh Leaf

set_option maxRecDepth 100000 in
set_option maxHeartbeats 1000000 in
theorem aclo (s1 s2 m : Int) (g : Nat) (w : World) (hg : g < w.heap.size) (hm : w.cell? ⟨g, 0, none⟩ = some (.int .i64 m)) :
    Calls Tryd.prog 40 #[.agg #[.int .i64 s1, .int .i64 s2], .pointer (some ⟨g, 0, none⟩)] w fun e w' => e = .returned (.bool (decide (s1 ≤ m ∧ m ≤ s2))) ∧ Below w.heap.size w w' := by
  have hb : ∀ o, Below w.heap.size w (w.alloc o) := fun o => (Below.refl w.heap.size w).alloc (Nat.le_refl _) o
  obtain ⟨D, hD⟩ : ∃ D, D = decide (s1 ≤ m ∧ m ≤ s2) := ⟨_, rfl⟩
  rw [← hD]
  by_cases h1 : s1 ≤ m
  · by_cases h2 : m ≤ s2
    · obtain rfl := hD.trans (decide_eq_true ⟨h1, h2⟩)
      clear hD
      go_enter Tryd.func40, Tryd.ntmps40
      go_wp2
      go_ret
      exact ⟨rfl, hb _⟩
    · obtain rfl := hD.trans (decide_eq_false fun h => h2 h.2)
      clear hD
      go_enter Tryd.func40, Tryd.ntmps40
      go_wp2
      go_ret
      exact ⟨rfl, hb _⟩
  · obtain rfl := hD.trans (decide_eq_false fun h => h1 h.1)
    clear hD
    go_enter Tryd.func40, Tryd.ntmps40
    go_wp2
    go_ret
    exact ⟨rfl, hb _⟩
/-- What IndexFunc answers. -/
def IxR (l : List (Int × Int)) (m : Int) (e : Ending) : Prop := ∃ r : Int, e = .returned (.int .i64 r) ∧ (0 ≤ r ↔ spm l m)
set_option maxRecDepth 100000 in
set_option maxHeartbeats 2000000 in
theorem aindex {w : World} {Q : Nat → Prop} {A : Option Addr} {c : Nat} {l : List (Int × Int)} (h : Spn w Q A c l) (m : Int) (g : Nat) (hg : g < w.heap.size) (hm : w.cell? ⟨g, 0, none⟩ = some (.int .i64 m)) (n : Nat) (hn : n = l.length) :
    Calls Tryd.prog 61 #[.slice A n c, .func (.func 40) #[] #[.pointer (some ⟨g, 0, none⟩)]] w fun e w' => IxR l m e ∧ Below w.heap.size w w' := by
  have hnl : n ≤ 9223372036854775807 := by have := h.1; have := h.2.1; unfold maxLen at this; omega
  have HS := Lib.hid (h.mono (Q' := fun b => b < w.heap.size) fun b hb _ => hb)
  have HM : Hid (∀ W, Below w.heap.size w W → W.cell? ⟨g, 0, none⟩ = some (.int .i64 m)) := Lib.hid fun W hb => (World.cell?_of_block (hb.block g hg)).trans hm
  have HN := Lib.hid hn
  clear h hn hm
  go_enter Tryd.func61, Tryd.ntmps61
  go_wp2_with fail
  go_loopw [8] (fun iv wr => ∃ i : Nat, iv = .int .i64 i ∧ i ≤ n ∧ (¬ spm (l.take i) m) ∧ Below w.heap.size w wr) (fun iv _ => n - (intOf iv).toNat)
  case atStart => exact ⟨0, rfl, by omega, spm_nil _, Below.refl _ _⟩
  case round =>
    obtain ⟨i, rfl, hi, hno, hlow⟩ := hrel
    by_cases hin : i < n
    · obtain ⟨⟨s1, s2⟩, hs⟩ : ∃ s, l[i]? = some s := ⟨_, List.getElem?_eq_getElem (by have := HN.out; omega)⟩
      obtain ⟨b, o, rfl, _, hb, y1, y2⟩ := Spn.get (HS.out.low hlow) i _ hs
      simp only at y1 y2
      have hcl := aclo s1 s2 m g wr (Nat.lt_of_lt_of_le hg hlow.size) (HM.out wr hlow)
      have HSS := Lib.hid hs
      have HNO := Lib.hid hno
      have HB := Lib.hid hlow
      have hi0 : (0 : Int) ≤ (i : Int) := by omega
      have hi1 : (i : Int) < (n : Int) := by omega
      obtain ⟨D, hD⟩ : ∃ D, D = decide (s1 ≤ m ∧ m ≤ s2) := ⟨_, rfl⟩
      rw [← hD] at hcl
      have HD := Lib.hid hD
      clear hs hno hlow hD
      go_wp2_with fail
      refine hcl.mono ?_
      rintro e w2 ⟨rfl, hb2⟩
      have HB2 := Lib.hid (HB.out.trans (hb2.mono HB.out.size))
      clear hcl hb2 y1 y2
      cases D
      · have HNX : Hid (¬ spm (l.take (i + 1)) m) := Lib.hid (by
          rw [Sh.take_snoc HSS.out, spm_append, spm_cons]
          rintro (k | k | k)
          · exact HNO.out k
          · exact (of_decide_eq_false HD.out.symm) k
          · exact spm_nil _ k)
        go_wp2_with fail
        go_roundw
        case rel => exact ⟨i + 1, by go_num, by omega, HNX.out, HB2.out⟩
        case measure => simp [intOf]; omega
      · have HF : Hid (IxR l m (.returned (.int .i64 (i : Nat))) ∧ Below w.heap.size w w2) := Lib.hid ⟨⟨(i : Nat), rfl, iff_of_true (by omega) ⟨(s1, s2), List.mem_of_getElem? HSS.out, of_decide_eq_true HD.out.symm⟩⟩, HB2.out⟩
        go_wp2_with fail
        go_ret
        exact HF.out
    · obtain rfl : i = n := by omega
      have HF : Hid (IxR l m (.returned (.int .i64 (-1))) ∧ Below w.heap.size w wr) := Lib.hid ⟨⟨-1, rfl, by
        rw [HN.out, List.take_length] at hno
        constructor
        · omega
        · exact fun h => absurd h hno⟩, hlow⟩
      clear hno hlow
      go_wp2_with fail
      go_ret
      exact HF.out
set_option maxRecDepth 100000 in
theorem acontf {w : World} {Q : Nat → Prop} {A : Option Addr} {c : Nat} {l : List (Int × Int)} (h : Spn w Q A c l) (m : Int) (g : Nat) (hg : g < w.heap.size) (hm : w.cell? ⟨g, 0, none⟩ = some (.int .i64 m)) (n : Nat) (hn : n = l.length) (D : Bool) (hD : D = true ↔ spm l m) :
    Calls Tryd.prog 39 #[.slice A n c, .func (.func 40) #[] #[.pointer (some ⟨g, 0, none⟩)]] w fun e w' => e = .returned (.bool D) ∧ Below w.heap.size w w' := by
  have hix := aindex h m g hg hm n hn
  clear h hm hn
  go_enter Tryd.func39, Tryd.ntmps39
  go_wp2_with fail
  refine hix.mono ?_
  rintro e w' ⟨⟨r, rfl, hr⟩, hb⟩
  have HB := Lib.hid hb
  have hDr : D = true ↔ 0 ≤ r := hD.trans hr.symm
  clear hix hb hr hD
  have e : D = decide (0 ≤ r) := by
    by_cases h0 : 0 ≤ r
    · rw [decide_eq_true h0]; exact hDr.2 h0
    · rw [decide_eq_false h0, Bool.eq_false_iff]; exact fun h => h0 (hDr.1 h)
  have HE := Lib.hid e
  clear e hDr
  go_wp2_with fail
  go_ret
  exact ⟨by rw [HE.out]; rfl, HB.out⟩
end Go.Proofs.YtedjbjplnjnnlaaDoor
namespace Go.Proofs.YtedjbjplnjnnlaaDoor
open Go Go.RowKit Sh Leaf

set_option maxRecDepth 100000 in
set_option maxHeartbeats 1000000 in
theorem aeqs {w : World} {Q1 Q2 : Nat → Prop} {A1 A2 : Option Addr} {c1 c2 : Nat} {la lb : List (Int × Int)} (h1 : Spn w Q1 A1 c1 la) (h2 : Spn w Q2 A2 c2 lb) :
    Calls Tryd.prog 31 #[.slice A1 la.length c1, .slice A2 lb.length c2] w fun e w' => e = .returned (.bool (decide (la = lb))) ∧ Below w.heap.size w w' := by
  have hl1 : la.length ≤ 9223372036854775807 := by have := h1.1; have := h1.2.1; unfold maxLen at this; omega
  obtain ⟨D, hD⟩ : ∃ D, D = decide (la = lb) := ⟨_, rfl⟩
  rw [← hD]
  by_cases kl : la.length = lb.length
  case neg =>
    obtain rfl := hD.trans (decide_eq_false fun h => kl (by rw [h]))
    have kl' : ¬ (la.length : Int) = (lb.length : Int) := by omega
    clear hD h1 h2
    generalize la.length = n1 at *
    generalize lb.length = n2 at *
    go_enter Tryd.func31, Tryd.ntmps31
    go_wp2
    go_ret
    exact ⟨rfl, Below.refl _ _⟩
  obtain ⟨n, hn⟩ : ∃ n, n = la.length := ⟨_, rfl⟩
  rw [← kl, ← hn]
  have HL := Lib.hid (And.intro hn.symm (hn.trans kl).symm)
  have hln : n ≤ 9223372036854775807 := by omega
  have HQ1 := Lib.hid h1
  have HQ2 := Lib.hid h2
  have HD := Lib.hid hD
  clear h1 h2 hD hn kl hl1
  go_enter Tryd.func31, Tryd.ntmps31
  go_wp2
  go_loopw [13] (fun i wr => ∃ j : Nat, i = .int .i64 j ∧ j ≤ n ∧ (∀ i p q, i < j → la[i]? = some p → lb[i]? = some q → p = q) ∧ Spn wr Q1 A1 c1 la ∧ Spn wr Q2 A2 c2 lb ∧ Below w.heap.size w wr) (fun i _ => n - (intOf i).toNat)
  case atStart => exact ⟨0, rfl, by omega, fun i p q h => by omega, HQ1.out, HQ2.out, Below.refl _ _⟩
  case round =>
    obtain ⟨j, rfl, hj, hall, hq1, hq2, hbw⟩ := hrel
    have HB := Lib.hid hbw
    have HA := Lib.hid hall
    clear hbw hall HQ1 HQ2
    by_cases hlt : j < n
    · obtain ⟨⟨p1, p2⟩, hp⟩ : ∃ p, la[j]? = some p := ⟨_, List.getElem?_eq_getElem (by have := HL.out.1; omega)⟩
      obtain ⟨⟨q1, q2⟩, hq⟩ : ∃ p, lb[j]? = some p := ⟨_, List.getElem?_eq_getElem (by have := HL.out.2; omega)⟩
      obtain ⟨ga, oa, rfl, _, hga, x1, x2⟩ := Spn.get hq1 j _ hp
      obtain ⟨gb, ob, rfl, _, hgb, y1, y2⟩ := Spn.get hq2 j _ hq
      simp only at x1 x2 y1 y2
      have hne := fun W => run_neq_span p1 p2 q1 q2 W
      obtain ⟨B, hB⟩ : ∃ B, B = decide (p1 = q1 ∧ p2 = q2) := ⟨_, rfl⟩
      rw [← hB] at hne
      have HBB := Lib.hid hB
      have HP := Lib.hid hp
      have HQ := Lib.hid hq
      have H1 := Lib.hid hq1
      have H2 := Lib.hid hq2
      have hj0 : (0 : Int) ≤ (j : Int) := by omega
      have hjn : (j : Int) < (n : Int) := by omega
      clear hB hp hq hq1 hq2
      cases B
      · go_upto_region 6 with fail
        go_quiet (fail)
        have hF : D = false := by
          rw [HD.out]
          refine decide_eq_false (ne_at HP.out HQ.out fun e => ?_)
          injection e with e1 e2
          exact (of_decide_eq_false HBB.out.symm) ⟨e1, e2⟩
        have HF := Lib.hid hF
        have HG := Lib.hid (below_drewN HB.out nq)
        clear x1 x2 y1 y2 hF
        go_wp2_with fail
        go_ret
        exact ⟨by rw [HF.out]; rfl, HG.out⟩
      · go_upto_region 6 with fail
        go_quiet (fail)
        have HG := Lib.hid (below_drewN HB.out nq)
        clear x1 x2 y1 y2
        go_wp2_with fail
        go_roundw
        case rel =>
          refine ⟨j + 1, by go_num, by omega, fun i p q hi hp hq => ?_, H1.out, H2.out, HG.out⟩
          by_cases e : i = j
          · subst e
            have e1 := HP.out
            have e2 := HQ.out
            rw [hp] at e1
            rw [hq] at e2
            injection e1 with e1
            injection e2 with e2
            obtain ⟨k1, k2⟩ := of_decide_eq_true HBB.out.symm
            rw [e1, e2, k1, k2]
          · exact HA.out i p q (by omega) hp hq
        case measure => simp [intOf]; omega
    · obtain rfl : j = n := by omega
      have hT : D = true := by
        rw [HD.out]
        refine decide_eq_true ?_
        apply List.ext_getElem?
        intro i
        rcases Nat.lt_or_ge i j with h | h
        · obtain ⟨p, hp⟩ : ∃ p, la[i]? = some p := ⟨_, List.getElem?_eq_getElem (by have := HL.out.1; omega)⟩
          obtain ⟨q, hq⟩ : ∃ p, lb[i]? = some p := ⟨_, List.getElem?_eq_getElem (by have := HL.out.2; omega)⟩
          rw [hp, hq, HA.out i p q h hp hq]
        · rw [List.getElem?_eq_none (by have := HL.out.1; omega), List.getElem?_eq_none (by have := HL.out.2; omega)]
      have HT := Lib.hid hT
      clear hq1 hq2 hT
      go_wp2
      go_ret
      exact ⟨by rw [HT.out]; rfl, HB.out⟩
set_option maxRecDepth 100000 in
set_option maxHeartbeats 2000000 in
theorem aeq_in (n1 n2 : Bool) (z1 z2 l1 l2 d1 d2 a1 a2 b1 b2 : Int) (A1 A2 : Option Addr) (c1 c2 : Nat) (s1 s2 : List (Int × Int)) (h1 h2 : List B8) (Q1 Q2 : Nat → Prop) (D : Bool) (w : World)
    (hD : D = decide (n1 = n2 ∧ z1 = z2 ∧ l1 = l2 ∧ d1 = d2 ∧ a1 = a2 ∧ b1 = b2 ∧ h1 = h2 ∧ s1 = s2)) (hS1 : Spn w Q1 A1 c1 s1) (hS2 : Spn w Q2 A2 c2 s2) :
    Calls Tryd.prog 56 #[.agg (arow n1 z1 l1 d1 a1 b1 (.slice A1 s1.length c1) h1), .agg (arow n2 z2 l2 d2 a2 b2 (.slice A2 s2.length c2) h2)] w fun e w' => e = .returned (.bool D) ∧ Below w.heap.size w w' := by
  have hb := ab_below w
  have hs := sof_beq h1 h2
  by_cases kn : n1 = n2
  case neg =>
    obtain rfl := hD.trans (decide_eq_false fun h => kn h.1)
    obtain rfl : n2 = !n1 := by revert kn; cases n1 <;> cases n2 <;> decide
    clear hD kn hS1 hS2 hs
    generalize s1.length = m1 at *
    generalize s2.length = m2 at *
    cases n1
    · skip
      go_enter Tryd.func56, Tryd.ntmps56
      go_wp2
      go_ret
      exact ⟨rfl, hb _ _⟩
    · skip
      go_enter Tryd.func56, Tryd.ntmps56
      go_wp2
      go_ret
      exact ⟨rfl, hb _ _⟩
  subst kn
  have hnn : (n1 == n1) = true := by simp
  by_cases kz : z1 = z2
  case neg =>
    obtain rfl := hD.trans (decide_eq_false fun h => kz h.2.1)
    clear hD hS1 hS2 hs
    generalize s1.length = m1 at *
    generalize s2.length = m2 at *
    go_enter Tryd.func56, Tryd.ntmps56
    go_wp2
    go_ret
    exact ⟨rfl, hb _ _⟩
  subst kz
  by_cases kl : l1 = l2
  case neg =>
    obtain rfl := hD.trans (decide_eq_false fun h => kl h.2.2.1)
    clear hD hS1 hS2 hs
    generalize s1.length = m1 at *
    generalize s2.length = m2 at *
    go_enter Tryd.func56, Tryd.ntmps56
    go_wp2
    go_ret
    exact ⟨rfl, hb _ _⟩
  subst kl
  by_cases kd : d1 = d2
  case neg =>
    obtain rfl := hD.trans (decide_eq_false fun h => kd h.2.2.2.1)
    clear hD hS1 hS2 hs
    generalize s1.length = m1 at *
    generalize s2.length = m2 at *
    go_enter Tryd.func56, Tryd.ntmps56
    go_wp2
    go_ret
    exact ⟨rfl, hb _ _⟩
  subst kd
  by_cases ka : a1 = a2
  case neg =>
    obtain rfl := hD.trans (decide_eq_false fun h => ka h.2.2.2.2.1)
    clear hD hS1 hS2 hs
    generalize s1.length = m1 at *
    generalize s2.length = m2 at *
    go_enter Tryd.func56, Tryd.ntmps56
    go_wp2
    go_ret
    exact ⟨rfl, hb _ _⟩
  subst ka
  by_cases kb : b1 = b2
  case neg =>
    obtain rfl := hD.trans (decide_eq_false fun h => kb h.2.2.2.2.2.1)
    clear hD hS1 hS2 hs
    generalize s1.length = m1 at *
    generalize s2.length = m2 at *
    go_enter Tryd.func56, Tryd.ntmps56
    go_wp2
    go_ret
    exact ⟨rfl, hb _ _⟩
  subst kb
  by_cases kh : h1 = h2
  case neg =>
    obtain rfl := hD.trans (decide_eq_false fun h => kh h.2.2.2.2.2.2.1)
    rw [decide_eq_false kh] at hs
    clear hD hS1 hS2 kh
    generalize s1.length = m1 at *
    generalize s2.length = m2 at *
    go_enter Tryd.func56, Tryd.ntmps56
    go_wp2
    go_ret
    exact ⟨rfl, hb _ _⟩
  subst kh
  rw [decide_eq_true rfl] at hs
  have hD' : D = decide (s1 = s2) := hD.trans (decide_eq_decide.2 ⟨fun h => h.2.2.2.2.2.2.2, fun h => ⟨rfl, rfl, rfl, rfl, rfl, rfl, rfl, h⟩⟩)
  have hq := fun o1 o2 => aeqs ((hS1.alloc o1).alloc o2) ((hS2.alloc o1).alloc o2)
  rw [← hD'] at hq
  clear hD hD' hS1 hS2
  generalize s1.length = m1 at *
  generalize s2.length = m2 at *
  go_enter Tryd.func56, Tryd.ntmps56
  go_wp2_with fail
  refine (hq _ _).mono ?_
  rintro e w' ⟨rfl, hb2⟩
  have HF := Lib.hid ((hb _ _).trans (hb2.mono (by simp; omega)))
  clear hb2 hq hb
  go_wp2
  go_ret
  exact ⟨rfl, HF.out⟩
theorem aequal {w : World} {Q1 Q2 : Nat → Prop} {x y : Value} {a b : Aut} (hx : Av w Q1 x a) (hy : Av w Q2 y b) :
    Calls Tryd.prog 56 #[x, y] w fun e w' => e = .returned (.bool (decide (a = b))) ∧ Below w.heap.size w w' := by
  obtain ⟨A1, c1, rfl, hS1, -⟩ := hx
  obtain ⟨A2, c2, rfl, hS2, -⟩ := hy
  refine aeq_in _ _ _ _ _ _ _ _ _ _ _ _ A1 A2 c1 c2 _ _ _ _ Q1 Q2 _ w (decide_eq_decide.2 ?_) hS1 hS2
  obtain ⟨n1, z1, l1, d1, o1, i1, y1, h1⟩ := a
  obtain ⟨n2, z2, l2, d2, o2, i2, y2, h2⟩ := b
  simp only [Aut.mk.injEq, Int.natCast_inj]
  constructor
  · rintro ⟨e1, e2, e3, e4, e5, e6, e7, e8⟩; exact ⟨e1, e2, e3, e4, e5, e6, e8, e7⟩
  · rintro ⟨e1, e2, e3, e4, e5, e6, e7, e8⟩; exact ⟨e1, e2, e3, e4, e5, e6, e8, e7⟩
end Go.Proofs.YtedjbjplnjnnlaaDoor
