/-
  The minutes of a day that an authority permits, as the comparing package lists them.
  The reference's ranges: its loop.
  The reference's ranges.
-/
import Derived.Deep.DeepCutAuto
import Derived.Deep.RegionHeld3
import Derived.BigQuiet
import Derived.Test.YtgbcncfhmnhljaaDoorPk0
import Derived.Test.YtgbcncfhmnhljaaDoorPk10
import Derived.Test.YtgbcncfhmnhljaaDoorPk1
import Derived.Test.YtgbcncfhmnhljaaDoorPk8
namespace Go.Proofs.YtgbcncfhmnhljaaDoor
open Go Go.RowKit Sh Leaf

namespace Sh
/-- The spans of a day, moved to its beginning and cut to lo and hi. -/
def cday (lo hi st : Int) : List (Int × Int) → List (Int × Int)
  | [] => []
  | s :: t => if max lo (st + s.1) ≤ min hi (st + s.2) then (max lo (st + s.1), min hi (st + s.2)) :: cday lo hi st t else cday lo hi st t
theorem cday_snoc (lo hi st : Int) : ∀ (l : List (Int × Int)) (s : Int × Int), cday lo hi st (l ++ [s]) = cday lo hi st l ++ (if max lo (st + s.1) ≤ min hi (st + s.2) then [(max lo (st + s.1), min hi (st + s.2))] else [])
  | [], s => by simp [cday]
  | r :: t, s => by
    rw [List.cons_append, cday, cday, cday_snoc lo hi st t s]
    split <;> simp
theorem cday_len (lo hi st : Int) : ∀ l : List (Int × Int), (cday lo hi st l).length ≤ l.length
  | [] => by simp [cday]
  | r :: t => by
    rw [cday]
    have := cday_len lo hi st t
    split <;> simp <;> omega
theorem cday_mem (lo hi st : Int) : ∀ (l : List (Int × Int)) (p : Int × Int), p ∈ cday lo hi st l → lo ≤ p.1 ∧ p.1 ≤ p.2 ∧ p.2 ≤ hi
  | [], p, h => by simp [cday] at h
  | r :: t, p, h => by
    rw [cday] at h
    split at h
    · rcases List.mem_cons.1 h with rfl | h
      · simp only; omega
      · exact cday_mem lo hi st t p h
    · exact cday_mem lo hi st t p h
/-- What lies in the day's spans. -/
theorem cday_spm (lo hi st : Int) : ∀ (l : List (Int × Int)) (k : Int), spm (cday lo hi st l) k ↔ lo ≤ k ∧ k ≤ hi ∧ spm l (k - st)
  | [], k => by simp [cday, spm_nil]
  | r :: t, k => by
    rw [cday, spm_cons r t]
    have ih := cday_spm lo hi st t k
    split
    · rw [spm_cons, ih]
      constructor
      · rintro (⟨h1, h2⟩ | ⟨h1, h2, h3⟩)
        · exact ⟨by omega, by omega, .inl ⟨by omega, by omega⟩⟩
        · exact ⟨h1, h2, .inr h3⟩
      · rintro ⟨h1, h2, ⟨h3, h4⟩ | h3⟩
        · exact .inl ⟨by omega, by omega⟩
        · exact .inr ⟨h1, h2, h3⟩
    · rw [ih]
      constructor
      · rintro ⟨h1, h2, h3⟩; exact ⟨h1, h2, .inr h3⟩
      · rintro ⟨h1, h2, ⟨h3, h4⟩ | h3⟩
        · omega
        · exact ⟨h1, h2, h3⟩
/-- Ascending spans that do not overlap. -/
def ascS : Int → List (Int × Int) → Prop
  | _, [] => True
  | lo, s :: t => lo ≤ s.1 ∧ s.1 ≤ s.2 ∧ ascS (s.2 + 1) t
theorem ascS_ge : ∀ {l : List (Int × Int)} {lo k : Int}, ascS lo l → spm l k → lo ≤ k
  | [], _, _, _, h => absurd h (spm_nil _)
  | s :: t, lo, k, h, hk => by
    obtain ⟨h1, h2, h3⟩ := h
    rcases (spm_cons s t k).1 hk with h | h
    · omega
    · have := ascS_ge h3 h; omega
theorem ascS_mono : ∀ {l : List (Int × Int)} {lo lo' : Int}, ascS lo l → lo' ≤ lo → ascS lo' l
  | [], _, _, _, _ => trivial
  | s :: t, lo, lo', h, hl => ⟨by have := h.1; omega, h.2.1, h.2.2⟩
theorem cday_asc (lo hi st : Int) : ∀ (l : List (Int × Int)) (m : Int), sepA m l → ascS (st + m) (cday lo hi st l)
  | [], m, _ => trivial
  | s :: t, m, h => by
    obtain ⟨h1, h2, h3⟩ := h
    rw [cday]
    have ih := cday_asc lo hi st t (s.2 + 2) h3
    split
    · exact ⟨by simp only; omega, by assumption, ascS_mono ih (by simp only; omega)⟩
    · exact ascS_mono ih (by omega)
end Sh
/-- The list of a day. -/
noncomputable def cdl (a : Aut) (day : Nat) : List (Int × Int) := if a.days / 2 ^ (day % 7) % 2 = 0 then [] else cday a.lo a.hi ((day : Int) * 1440) a.daily
/-- What the walks of this package ask of an authority. -/
structure Cok (a : Aut) : Prop where
  days : a.days < 18446744073709551616
  lo : 0 ≤ a.lo ∧ a.lo ≤ 67108864
  hi : 0 ≤ a.hi ∧ a.hi ≤ 67108864
  len : a.daily.length ≤ 1000
  mem : ∀ s ∈ a.daily, 0 ≤ s.1 ∧ s.1 ≤ s.2 ∧ s.2 < 1440
  sep : sepA 0 a.daily
set_option maxRecDepth 100000 in
set_option maxHeartbeats 2000000 in
theorem conday {w : World} {Q : Nat → Prop} {x : Value} {a : Aut} (hx : Av w Q x a) (ha : Cok a) (day : Nat) (hday : day ≤ 100000) :
    Calls Tryd.prog 65 #[x, .int .i64 (day : Int)] w fun e w' => (∃ A c, e = .returned (.slice A (cdl a day).length c) ∧ Spn w' (fun g => w.heap.size ≤ g) A c (cdl a day)) ∧ Below w.heap.size w w' := by
  obtain ⟨A, c, rfl, hS, hab⟩ := hx
  obtain ⟨no, z, l, d, lo, hi, dy, h⟩ := a
  obtain ⟨hd64, hlo, hhi, hlen, hmem, hsep⟩ := ha
  simp only at hS hd64 hlo hhi hlen hmem hsep
  show Calls Tryd.prog 65 #[.agg (arow no z l d lo hi (.slice A dy.length c) h), .int .i64 (day : Int)] w _
  have hb0 : Below w.heap.size w (w.alloc (.cells (arow no z l d lo hi (.slice A dy.length c) h) 25)) := (Below.refl _ _).alloc (Nat.le_refl _) _
  have hr0 : ARow (w.alloc (.cells (arow no z l d lo hi (.slice A dy.length c) h) 25)) w.heap.size no z l d lo hi (.slice A dy.length c) h := Whole.here _ _ _
  have hand : bits BinOp.and IntKind.u64 ((d : Int) / 2 ^ (day % 7)) 1 = ((d / 2 ^ (day % 7) % 2 : Nat) : Int) := by
    have e1 : ((d : Int) / 2 ^ (day % 7)) = ((d / 2 ^ (day % 7) : Nat) : Int) := by simp
    have hlt : d / 2 ^ (day % 7) < 18446744073709551616 := Nat.lt_of_le_of_lt (Nat.div_le_self _ _) hd64
    rw [e1, show (1 : Int) = ((1 : Nat) : Int) from rfl, bits_and_u64_nat _ _ hlt (by omega), Nat.and_one_is_mod]
  by_cases hz : d / 2 ^ (day % 7) % 2 = 0
  · have hc : (bits BinOp.and IntKind.u64 ((d : Int) / 2 ^ (day % 7)) 1 == 0) = true := by rw [hand, hz]; rfl
    have hl : cdl ⟨no, z, l, d, lo, hi, dy, h⟩ day = [] := by unfold cdl; rw [if_pos hz]
    rw [hl]
    clear hand hz hl hab hS hsep hmem
    go_enter Tryd.func65, Tryd.ntmps65
    go_wp2
    go_ret
    exact ⟨⟨none, 0, rfl, Seq.nil _ _⟩, hb0⟩
  · have hc : (bits BinOp.and IntKind.u64 ((d : Int) / 2 ^ (day % 7)) 1 == 0) = false := by
      rw [hand, show d / 2 ^ (day % 7) % 2 = 1 by omega]; rfl
    obtain ⟨st, hst⟩ : ∃ st, st = (day : Int) * 1440 := ⟨_, rfl⟩
    have hl : cdl ⟨no, z, l, d, lo, hi, dy, h⟩ day = cday lo hi st dy := by unfold cdl; rw [if_neg hz, hst]
    rw [hl]
    have hst0 : 0 ≤ st ∧ st ≤ 144000000 := by omega
    have hw1 : IntKind.i64.wrap ((day : Int) * 1440) = st := by rw [hst, IntKind.wrap_i64]; omega
    obtain ⟨w1, hw⟩ : ∃ w1, w1 = w.alloc (.cells (arow no z l d lo hi (.slice A dy.length c) h) 25) := ⟨_, rfl⟩
    rw [← hw] at hb0 hr0
    have hS1 : Spn w1 (fun g => g < w1.heap.size) A c dy := (hS.below hb0 (Nat.le_refl _)).mono fun g hg _ => hg
    obtain ⟨n, hn⟩ : ∃ n, n = dy.length := ⟨_, rfl⟩
    rw [← hn] at hr0 hw hlen ⊢
    have HS := Lib.hid hS1
    have HN := Lib.hid hn
    have HM := Lib.hid hmem
    have HB := Lib.hid hb0
    have HR := Lib.hid hr0
    have HH := Lib.hid hst
    obtain ⟨r0, r1, r2, r3, r4, r5, r6, r7⟩ := ARow.cells hr0
    clear hand hz hl hab hS hsep hmem hS1 hn hb0 hr0 hst
    go_enter Tryd.func65, Tryd.ntmps65
    go_upto_region 1 with fail
    rw [← hw]
    clear hw
    go_wp2_with fail
    go_loopw [5, 23] (fun v kk wr => ∃ k : Nat, kk = .int .i64 k ∧ k ≤ n ∧ OwnSp wr w1.heap.size v (cday lo hi st (dy.take k)) ∧ Below w1.heap.size w1 wr) (fun _ k _ => 1001 - (intOf k).toNat)
    case atStart => exact ⟨0, rfl, by omega, by simpa [cday] using owns_nil _ _, Below.refl _ _⟩
    case round =>
      obtain ⟨k, rfl, hk, hown, hb⟩ := hrel
      clear r0 r1 r2 r3 r4 r5 r6 r7
      by_cases hlt : k < n
      · have hlt' : (k : Int) < (n : Int) := by omega
        have hk0 : (0 : Int) ≤ (k : Int) := by omega
        obtain ⟨s, hs⟩ : ∃ s, dy[k]? = some s := ⟨_, List.getElem?_eq_getElem (by rw [← HN.out]; exact hlt)⟩
        obtain ⟨s1, s2⟩ := s
        have hsb := HM.out _ (List.mem_of_getElem? hs)
        simp only at hsb
        obtain ⟨g, o, rfl, hgq, hgl, y1, y2⟩ := Spn.get (Seq.low HS.out hb) k (s1, s2) hs
        simp only at y1 y2
        have hr := Whole.below HR.out hb (Whole.lt HR.out)
        obtain ⟨r0, r1, r2, r3, r4, r5, r6, r7⟩ := ARow.cells hr
        have hgw : w.heap.size < wr.heap.size := Whole.lt hr
        have hw2 : IntKind.i64.wrap (st + s1) = st + s1 := by rw [IntKind.wrap_i64]; omega
        have hw3 : IntKind.i64.wrap (st + s2) = st + s2 := by rw [IntKind.wrap_i64]; omega
        have hk1 : IntKind.i64.wrap ((k : Int) + 1) = ((k + 1 : Nat) : Int) := by rw [IntKind.wrap_i64]; omega
        have HO := Lib.hid hown
        have HBk := Lib.hid hb
        have HSS := Lib.hid hs
        clear hown hb hs hr r0 r1 r2 r3 r6 r7
        go_upto_region 8 with fail
        have hb2 : Below wr.heap.size wr (wr.alloc (.cells #[.int .i64 s1, .int .i64 s2] 50)) := (Below.refl _ _).alloc (Nat.le_refl _) _
        have hz2 : Whole (wr.alloc (.cells #[.int .i64 s1, .int .i64 s2] 50)) wr.heap.size 50 #[.int .i64 s1, .int .i64 s2] := Whole.here _ _ _
        have ho2 : OwnSp (wr.alloc (.cells #[.int .i64 s1, .int .i64 s2] 50)) w1.heap.size u5 (cday lo hi st (List.take k dy)) := HO.out.alloc _
        have q4 := (hb2.cell (p := ⟨w.heap.size, 4, none⟩) hgw).trans r4
        have q5 := (hb2.cell (p := ⟨w.heap.size, 5, none⟩) hgw).trans r5
        have HB2 : Hid (Below w1.heap.size w1 (wr.alloc (.cells #[.int .i64 s1, .int .i64 s2] 50))) := Lib.hid (HBk.out.trans (hb2.mono (Below.size HBk.out)))
        have z1 := hz2.cell 0
        have z2 := hz2.cell 1
        have HO2 := Lib.hid ho2
        clear hb2 hz2 ho2 HO HBk r4 r5 y1 y2
        generalize wr.alloc (.cells #[.int .i64 s1, .int .i64 s2] 50) = W2 at q4 q5 HB2 z1 z2 HO2 ⊢
        go_quiet (fail)
        obtain ⟨F, hF⟩ : ∃ F, F = max lo (st + s1) := ⟨_, rfl⟩
        obtain ⟨T, hT⟩ : ∃ T, T = min hi (st + s2) := ⟨_, rfl⟩
        have e1 : (if lo < st + s1 then st + s1 else lo) = F := by omega
        have e2 : (if st + s2 < hi then st + s2 else hi) = T := by omega
        rw [e1, e2]
        have hFb : i64ok F ∧ i64ok T := ⟨⟨by show (-9223372036854775808 : Int) ≤ F; omega, by show F ≤ (9223372036854775807 : Int); omega⟩, ⟨by show (-9223372036854775808 : Int) ≤ T; omega, by show T ≤ (9223372036854775807 : Int); omega⟩⟩
        have hcd : cday lo hi st (dy.take (k + 1)) = cday lo hi st (dy.take k) ++ (if F ≤ T then [(F, T)] else []) := by
          rw [Sh.take_snoc HSS.out, cday_snoc, hF, hT]
        have hlk : (cday lo hi st (dy.take k)).length ≤ 1000 := Nat.le_trans (cday_len lo hi st _) (by rw [List.length_take]; omega)
        have HCD := Lib.hid hcd
        have HFB := Lib.hid hFb
        have HO3 : Hid (OwnSp (W2.drewN nq) w1.heap.size u5 (cday lo hi st (List.take k dy))) := Lib.hid HO2.out
        have HB3 : Hid (Below w1.heap.size w1 (W2.drewN nq)) := Lib.hid (below_drewN HB2.out nq)
        clear hcd hFb e1 e2 HO2 HB2 q4 q5 z1 z2 hF hT
        generalize W2.drewN nq = W3 at HO3 HB3 ⊢
        generalize hCk : cday lo hi st (List.take k dy) = Ck at HCD HO3 hlk
        clear hCk
        by_cases hft : F ≤ T
        · rw [if_pos hft] at HCD
          have HSO : Hid (Spn (W3.alloc (.cells #[.int .i64 F, .int .i64 T] 50)) (fun b => b = W3.heap.size) (some ⟨W3.heap.size, 0, none⟩) 1 [(F, T)]) := Lib.hid (seq_one (heap_alloc_new W3 _) rfl HFB.out)
          have HOA : Hid (OwnSp (W3.alloc (.cells #[.int .i64 F, .int .i64 T] 50)) w1.heap.size u5 Ck) := Lib.hid (HO3.out.alloc _)
          have HBA : Hid (Below w1.heap.size w1 (W3.alloc (.cells #[.int .i64 F, .int .i64 T] 50))) := Lib.hid (HB3.out.alloc (Below.size HB3.out) _)
          clear HO3 HB3 hlo hhi hsb
          go_wp2_with (at_builtin; go_must (refine wpList_append_seq (f := scl) (n := 2) rfl _ _ 23 50 _ 16 rfl Tryd.underlying23 spanInfo rfl (by decide) (by decide) scl_len scl_one w1.heap.size _ Ck rfl HOA.out _ (some ⟨W3.heap.size, 0, none⟩) 1 1 [(F, T)] rfl rfl HSO.out (by simp <;> omega) (Below.size HBA.out) ?_; intro v6 w6 ho hb hgr))
          go_roundw
          case rel => exact ⟨k + 1, by go_num, by omega, by rw [HCD.out]; exact ho, HBA.out.trans hb⟩
          case measure => simp [intOf]; omega
        · rw [if_neg hft, List.append_nil] at HCD
          clear hlo hhi hsb
          go_wp2
          go_roundw
          case rel => exact ⟨k + 1, by go_num, by omega, by rw [HCD.out]; exact HO3.out, HB3.out⟩
          case measure => simp [intOf]; omega
      · have hkn : k = n := by omega
        subst hkn
        have e : dy.take k = dy := by rw [HN.out, List.take_length]
        rw [e] at hown
        obtain ⟨Ar, cr, rfl, hSr⟩ := OwnS.seq (ok := sbd) hown (fun p hp => by
          have := cday_mem lo hi st dy p hp
          exact ⟨⟨by show (-9223372036854775808 : Int) ≤ p.1; omega, by show p.1 ≤ (9223372036854775807 : Int); omega⟩, ⟨by show (-9223372036854775808 : Int) ≤ p.2; omega, by show p.2 ≤ (9223372036854775807 : Int); omega⟩⟩)
        have HX := Lib.hid (And.intro hSr hb)
        have hlt' : ¬ (k : Int) < (k : Int) := by omega
        obtain ⟨nr, hnr⟩ : ∃ m, m = (cday lo hi st dy).length := ⟨_, rfl⟩
        rw [← hnr]
        have HNR := Lib.hid hnr
        clear hown hSr hb e hnr
        go_wp2
        go_ret
        exact ⟨⟨Ar, cr, by rw [← HNR.out]; rfl, HX.out.1.mono fun g _ hg => Nat.le_trans (Below.size HB.out) hg⟩, HB.out.trans (HX.out.2.mono (Below.size HB.out))⟩
end Go.Proofs.YtgbcncfhmnhljaaDoor
namespace Go.Proofs.YtgbcncfhmnhljaaDoor
open Go Go.RowKit Sh Leaf
namespace Sh

/-- What the reference asks of span i. -/
def okAt (s : List (Int × Int)) (i : Nat) : Prop := ∀ p, s[i]? = some p → 0 ≤ p.1 ∧ p.1 ≤ p.2 ∧ p.2 < 1440 ∧ ∀ q, 0 < i → s[i - 1]? = some q → q.2 + 2 ≤ p.1
noncomputable instance (s : List (Int × Int)) (i : Nat) : Decidable (okAt s i) := Classical.propDecidable _
theorem sep_at : ∀ {l : List (Int × Int)} {lo : Int}, (sepA lo l ∧ ∀ s ∈ l, s.2 < 1440) ↔ ∀ (i : Nat) (p : Int × Int), l[i]? = some p → p.1 ≤ p.2 ∧ p.2 < 1440 ∧ (i = 0 → lo ≤ p.1) ∧ ∀ q : Int × Int, 0 < i → l[i - 1]? = some q → q.2 + 2 ≤ p.1
  | [], lo => by
    constructor
    · intro _ i p h; simp at h
    · intro _; exact ⟨trivial, fun s h => by simp at h⟩
  | s :: t, lo => by
    have ih := sep_at (l := t) (lo := s.2 + 2)
    constructor
    · rintro ⟨⟨h1, h2, h3⟩, h4⟩ i p hp
      have hk := ih.1 ⟨h3, fun x hx => h4 x (List.mem_cons_of_mem _ hx)⟩
      cases i with
      | zero =>
        have e : s = p := by simpa using hp
        subst e
        exact ⟨h2, h4 s (by simp), fun _ => h1, fun q h => by omega⟩
      | succ i =>
        rw [List.getElem?_cons_succ] at hp
        obtain ⟨k1, k2, k3, k4⟩ := hk i p hp
        refine ⟨k1, k2, fun h => by omega, fun q _ hq => ?_⟩
        cases i with
        | zero =>
          have e : s = q := by simpa using hq
          subst e
          exact k3 rfl
        | succ i => exact k4 q (by omega) (by simpa using hq)
    · intro h
      obtain ⟨h1, h2, h3, _⟩ := h 0 s (by simp)
      obtain ⟨k1, k2⟩ := ih.2 fun i p hp => by
        obtain ⟨g1, g2, g3, g4⟩ := h (i + 1) p (by simpa using hp)
        refine ⟨g1, g2, fun e => ?_, fun q hi hq => ?_⟩
        · subst e
          exact g4 s (by omega) (by simp)
        · cases i with
          | zero => omega
          | succ i => exact g4 q (by omega) (by simpa using hq)
      refine ⟨⟨h3 rfl, h1, k1⟩, fun x hx => ?_⟩
      rcases List.mem_cons.1 hx with rfl | hx
      · exact h2
      · exact k2 x hx
theorem sep_iff {l : List (Int × Int)} : (sepA 0 l ∧ ∀ s ∈ l, s.2 < 1440) ↔ ∀ i, i < l.length → okAt l i := by
  constructor
  · intro h i _ p hp
    obtain ⟨h1, h2, h3, h4⟩ := sep_at.1 h i p hp
    exact ⟨(sepA_mem h.1 p (List.mem_of_getElem? hp)).1, h1, h2, h4⟩
  · intro h
    refine sep_at.2 fun i p hp => ?_
    obtain ⟨h1, h2, h3, h4⟩ := h i (List.getElem?_eq_some_iff.1 hp).1 p hp
    exact ⟨h2, h3, fun _ => h1, h4⟩
end Sh
set_option maxRecDepth 100000 in
set_option maxHeartbeats 2000000 in
theorem rng_good {Q : Nat → Prop} (no : Bool) (z l d lo hi : Int) (A : Option Addr) (c : Nat) (s : List (Int × Int)) (nm : List B8) (n : Nat) (D E : Bool) (w : World) (hls : n ≤ 9223372036854775807)
    (c1 : ¬ z = 0) (c2 : ¬ l = 0) (c3 : l < 4294967296) (c4 : ¬ d = 0) (c5 : d < 128) (c6 : 0 ≤ lo) (c7 : lo ≤ hi) (c8 : hi ≤ 67108864) (c10 : (n : Int) ≤ 1440)
    (hnm : ∀ W : World, Calls Tryd.prog 59 #[.string (sof nm)] W fun e w' => e = .returned (.bool (decide (nmok nm))) ∧ W = w') (hie : (sof nm).toList.isEmpty = E) (HS : Hid (∀ o, Spn (w.alloc o) Q A c s)) (HN : Hid (n = s.length)) (HE : Hid (E = false → nmok nm)) (HD : Hid (D = decide (∀ i, i < n → okAt s i))) :
    Calls Tryd.prog 43 #[.agg (arow no z l d lo hi (.slice A n c) nm)] w fun e w' => e = .returned (.bool D) ∧ Below w.heap.size w w' := by
  have HB0 : Hid (Below w.heap.size w (w.alloc (.cells (arow no z l d lo hi (.slice A n c) nm) 25))) := Lib.hid ((Below.refl w.heap.size w).alloc (Nat.le_refl _) _)
  have HR0 : Hid (ARow (w.alloc (.cells (arow no z l d lo hi (.slice A n c) nm) 25)) w.heap.size no z l d lo hi (.slice A n c) nm) := Lib.hid (Whole.here _ _ _)
  have HS0 : Hid (Spn (w.alloc (.cells (arow no z l d lo hi (.slice A n c) nm) 25)) Q A c s) := Lib.hid (HS.out _)
  clear HS
  have e1 : (z == 0) = false := beq_eq_false_iff_ne.2 c1
  have e2 : (l == 0) = false := beq_eq_false_iff_ne.2 c2
  have e3 : decide (4294967296 ≤ l) = false := decide_eq_false (by omega)
  have e4 : (d == 0) = false := beq_eq_false_iff_ne.2 c4
  have e5 : decide (128 ≤ d) = false := decide_eq_false (by omega)
  have e6 : decide (lo < 0) = false := decide_eq_false (by omega)
  have e7 : decide (hi < lo) = false := decide_eq_false (by omega)
  have e8 : decide (67108864 < hi) = false := decide_eq_false (by omega)
  have e9 : decide (1440 < (n : Int)) = false := decide_eq_false (by omega)
  clear c1 c2 c3 c4 c5 c6 c7 c8
  go_enter Tryd.func43, Tryd.ntmps43
  go_upto_region 1 with fail
  go_cut [61] (fun v wx => v = .bool false ∧ wx = w.alloc (.cells (arow no z l d lo hi (.slice A n c) nm) 25))
  case first =>
    cases E
    · have hnm' := fun W => hnm W
      rw [decide_eq_true (HE.out rfl)] at hnm'
      clear hnm
      go_wp2_with (go_at_call 59; refine (hnm' _).mono ?_; rintro e w' ⟨rfl, rfl⟩)
      go_meet
      exact ⟨rfl, rfl⟩
    · clear hnm
      go_wp2_with fail
      go_meet
      exact ⟨rfl, rfl⟩
  case rest =>
    obtain ⟨rfl, rfl⟩ := hcut
    clear hie e1 e2 e3 e4 e5 e6 e7 e8 e9 HE hnm
    go_wp2_with fail
    go_loopw [3] (fun i wr => ∃ j : Nat, i = .int .i64 j ∧ j ≤ n ∧ (∀ i, i < j → okAt s i) ∧ ARow wr w.heap.size no z l d lo hi (.slice A n c) nm ∧ Spn wr Q A c s ∧ Below w.heap.size w wr) (fun i _ => n - (intOf i).toNat)
    case atStart => exact ⟨0, rfl, by omega, fun i h => by omega, HR0.out, HS0.out, HB0.out⟩
    case round =>
      obtain ⟨j, rfl, hj, hall, hr, hq, hbw⟩ := hrel
      obtain ⟨x0, x1, x2, x3, x4, x5, x6, x7⟩ := hr.cells
      clear x0 x1 x2 x3 x4 x5 x7
      have HA := Lib.hid hall
      have HX := Lib.hid hr
      have HS1 := Lib.hid hq
      have HB := Lib.hid hbw
      clear hall hr hbw HR0 HS0 HB0
      by_cases hlt : j < n
      · obtain ⟨⟨p1, p2⟩, hp⟩ : ∃ p, s[j]? = some p := ⟨_, List.getElem?_eq_getElem (by have := HN.out; omega)⟩
        obtain ⟨g, o, rfl, -, hg, f1, f2⟩ := Spn.get hq j _ hp
        simp only at f1 f2
        have hbd := hq.2.2.2.1 _ (List.mem_of_getElem? hp)
        simp only [sbd, i64ok] at hbd
        obtain ⟨⟨b1, b2⟩, b3, b4⟩ := hbd
        have HP := Lib.hid hp
        clear hq hp
        go_wp2_with fail
        go_cut [105] (fun v wx => v = .bool (!decide (okAt s j)) ∧ ∃ N, wx = (wr.alloc (.cells #[.int .i64 p1, .int .i64 p2] 50)).drewN N)
        case first =>
          by_cases k1 : p1 < 0
          · have HJ : Hid (Value.bool true = Value.bool (!decide (okAt s j))) := Lib.hid (by rw [decide_eq_false (fun q => by have := (q _ HP.out).1; simp only at this; omega)]; rfl)
            have t1 := decide_eq_true k1
            clear k1
            go_big_quiet (fail)
            go_wp2
            go_meet
            exact ⟨HJ.out, _, rfl⟩
          have t1 := decide_eq_false k1
          by_cases k2 : p2 < p1
          · have HJ : Hid (Value.bool true = Value.bool (!decide (okAt s j))) := Lib.hid (by rw [decide_eq_false (fun q => by have := (q _ HP.out).2.1; simp only at this; omega)]; rfl)
            have t2 := decide_eq_true k2
            clear k1 k2
            go_big_quiet (fail)
            go_wp2
            go_meet
            exact ⟨HJ.out, _, rfl⟩
          have t2 := decide_eq_false k2
          by_cases k3 : 1440 ≤ p2
          · have HJ : Hid (Value.bool true = Value.bool (!decide (okAt s j))) := Lib.hid (by rw [decide_eq_false (fun q => by have := (q _ HP.out).2.2.1; simp only at this; omega)]; rfl)
            have t3 := decide_eq_true k3
            clear k1 k2 k3
            go_big_quiet (fail)
            go_wp2
            go_meet
            exact ⟨HJ.out, _, rfl⟩
          have t3 := decide_eq_false k3
          by_cases k4 : 0 < j
          case neg =>
            have t4 : decide (0 < j) = false := decide_eq_false (by omega)
            have HJ : Hid (Value.bool false = Value.bool (!decide (okAt s j))) := Lib.hid (by
              rw [decide_eq_true (p := okAt s j)]
              · rfl
              · intro p hp
                have := HP.out
                rw [hp] at this
                injection this with this
                subst this
                exact ⟨by simp only; omega, by simp only; omega, by simp only; omega, fun q h => absurd h k4⟩)
            clear k1 k2 k3 k4
            go_big_quiet (fail)
            go_wp2
            go_meet
            exact ⟨HJ.out, _, rfl⟩
          have t4 : decide (0 < j) = true := decide_eq_true (by omega)
          obtain ⟨⟨q1, q2⟩, hq0⟩ : ∃ p, s[j - 1]? = some p := ⟨_, List.getElem?_eq_getElem (by have := HN.out; omega)⟩
          obtain ⟨g', o', hA', -, -, f3, f4⟩ := Spn.get HS1.out (j - 1) _ hq0
          injection hA' with hA'
          injection hA' with hA1 hA2
          subst hA1 hA2
          simp only at f3 f4
          have hbd := HS1.out.2.2.2.1 _ (List.mem_of_getElem? hq0)
          simp only [sbd, i64ok] at hbd
          obtain ⟨⟨-, -⟩, b5, b6⟩ := hbd
          have HQ := Lib.hid hq0
          have hq3 : q2 < 1440 ∧ 0 ≤ q2 := by
            have := HA.out (j - 1) (by omega) _ HQ.out
            simp only at this
            omega
          obtain ⟨m, hm⟩ : ∃ m, m = j - 1 := ⟨_, rfl⟩
          rw [← hm] at f4
          have w1 : IntKind.i64.wrap ((j : Int) - 1) = (m : Int) := by rw [IntKind.wrap_i64]; omega
          have w2 : IntKind.i64.wrap (q2 + 2) = q2 + 2 := by rw [IntKind.wrap_i64]; omega
          have m0 : (0 : Int) ≤ (m : Int) := by omega
          have m1 : (m : Int) < (n : Int) := by omega
          have HM := Lib.hid hm
          have hsz : w.heap.size < wr.heap.size := HX.out.lt
          clear hq0 f3 hm
          by_cases k5 : p1 < q2 + 2
          · have HJ : Hid (Value.bool true = Value.bool (!decide (okAt s j))) := Lib.hid (by rw [decide_eq_false (fun q => by have := (q _ HP.out).2.2.2 (q1, q2) k4 HQ.out; simp only at this; omega)]; rfl)
            have t5 := decide_eq_true k5
            clear k1 k2 k3 k4 k5 hq3
            go_big_quiet (fail)
            go_wp2
            go_meet
            exact ⟨HJ.out, _, rfl⟩
          · have t5 := decide_eq_false k5
            have HJ : Hid (Value.bool false = Value.bool (!decide (okAt s j))) := Lib.hid (by
              rw [decide_eq_true (p := okAt s j)]
              · rfl
              · intro p hp
                have := HP.out
                rw [hp] at this
                injection this with this
                subst this
                refine ⟨by simp only; omega, by simp only; omega, by simp only; omega, fun q _ hq => ?_⟩
                have h2 := HQ.out
                rw [hq] at h2
                injection h2 with h2
                subst h2
                simp only
                omega)
            clear k1 k2 k3 k4 k5 hq3
            go_big_quiet (fail)
            go_wp2
            go_meet
            exact ⟨HJ.out, _, rfl⟩
        case rest =>
          obtain ⟨rfl, N, rfl⟩ := hcut
          have HB2 : Hid (Below w.heap.size w ((wr.alloc (.cells #[.int .i64 p1, .int .i64 p2] 50)).drewN N)) := Lib.hid (below_drewN (HB.out.alloc HB.out.size _) N)
          by_cases hok : okAt s j
          · have HOK : Hid (∀ i, i < j + 1 → okAt s i) := Lib.hid fun i hi => by
              by_cases e : i = j
              · subst e; exact hok
              · exact HA.out i (by omega)
            rw [decide_eq_true hok]
            clear hok
            go_wp2_with fail
            go_roundw
            case rel =>
              exact ⟨j + 1, by go_num, by omega, HOK.out, HX.out.alloc _, HS1.out.alloc _, HB2.out⟩
            case measure => simp [intOf]; omega
          · obtain rfl := HD.out.trans (decide_eq_false fun h => hok (h j hlt))
            rw [decide_eq_false hok]
            clear hok
            go_wp2_with fail
            go_ret
            exact ⟨rfl, HB2.out⟩
      · obtain rfl : j = n := by omega
        obtain rfl := HD.out.trans (decide_eq_true HA.out)
        clear hq
        go_wp2_with fail
        go_ret
        exact ⟨rfl, HB.out⟩
end Go.Proofs.YtgbcncfhmnhljaaDoor
namespace Go.Proofs.YtgbcncfhmnhljaaDoor
open Go Go.RowKit Sh Leaf

set_option maxRecDepth 100000 in
set_option maxHeartbeats 2000000 in
theorem rng_in {Q : Nat → Prop} (no : Bool) (z l d lo hi : Int) (A : Option Addr) (c : Nat) (s : List (Int × Int)) (nm : List B8) (hn : nm.length ≤ 9223372036854775807) (D : Bool) (w : World)
    (hD : D = decide (¬ z = 0 ∧ ¬ l = 0 ∧ l < 4294967296 ∧ ¬ d = 0 ∧ d < 128 ∧ 0 ≤ lo ∧ lo ≤ hi ∧ hi ≤ 67108864 ∧ nok nm ∧ s.length ≤ 1440 ∧ ∀ i, i < s.length → okAt s i)) (hS : Spn w Q A c s) :
    Calls Tryd.prog 43 #[.agg (arow no z l d lo hi (.slice A s.length c) nm)] w fun e w' => e = .returned (.bool D) ∧ Below w.heap.size w w' := by
  have hb1 : ∀ o, Below w.heap.size w (w.alloc o) := fun o => (Below.refl w.heap.size w).alloc (Nat.le_refl _) o
  have hls : s.length ≤ 9223372036854775807 := by have := hS.1; have := hS.2.1; unfold maxLen at this; omega
  have hnm := fun W => name_ok nm W hn
  have hie : (sof nm).toList.isEmpty = decide (nm = []) := by
    rw [sof_toList]
    cases nm <;> simp
  have HS : Hid (∀ o, Spn (w.alloc o) Q A c s) := Lib.hid fun o => hS.alloc o
  clear hS hn
  by_cases c1 : ¬ z = 0
  case neg =>
    obtain rfl : z = 0 := Classical.byContradiction fun q => c1 q
    obtain rfl := hD.trans (decide_eq_false fun h => h.1 rfl)
    clear c1
    clear hD HS hnm hie
    go_enter Tryd.func43, Tryd.ntmps43
    go_wp2
    go_ret
    exact ⟨rfl, hb1 _⟩
  by_cases c2 : ¬ l = 0
  case neg =>
    obtain rfl : l = 0 := Classical.byContradiction fun q => c2 q
    obtain rfl := hD.trans (decide_eq_false fun h => h.2.1 rfl)
    clear c2
    clear hD HS hnm hie
    go_enter Tryd.func43, Tryd.ntmps43
    go_wp2
    go_ret
    exact ⟨rfl, hb1 _⟩
  by_cases c3 : l < 4294967296
  case neg =>
    obtain rfl := hD.trans (decide_eq_false fun h => c3 h.2.2.1)
    clear hD HS hnm hie
    go_enter Tryd.func43, Tryd.ntmps43
    go_wp2
    go_ret
    exact ⟨rfl, hb1 _⟩
  by_cases c4 : ¬ d = 0
  case neg =>
    obtain rfl : d = 0 := Classical.byContradiction fun q => c4 q
    obtain rfl := hD.trans (decide_eq_false fun h => h.2.2.2.1 rfl)
    clear c4
    clear hD HS hnm hie
    go_enter Tryd.func43, Tryd.ntmps43
    go_wp2
    go_ret
    exact ⟨rfl, hb1 _⟩
  by_cases c5 : d < 128
  case neg =>
    obtain rfl := hD.trans (decide_eq_false fun h => c5 h.2.2.2.2.1)
    clear hD HS hnm hie
    go_enter Tryd.func43, Tryd.ntmps43
    go_wp2
    go_ret
    exact ⟨rfl, hb1 _⟩
  by_cases c6 : 0 ≤ lo
  case neg =>
    obtain rfl := hD.trans (decide_eq_false fun h => c6 h.2.2.2.2.2.1)
    clear hD HS hnm hie
    go_enter Tryd.func43, Tryd.ntmps43
    go_wp2
    go_ret
    exact ⟨rfl, hb1 _⟩
  by_cases c7 : lo ≤ hi
  case neg =>
    obtain rfl := hD.trans (decide_eq_false fun h => c7 h.2.2.2.2.2.2.1)
    clear hD HS hnm hie
    go_enter Tryd.func43, Tryd.ntmps43
    go_wp2
    go_ret
    exact ⟨rfl, hb1 _⟩
  by_cases c8 : hi ≤ 67108864
  case neg =>
    obtain rfl := hD.trans (decide_eq_false fun h => c8 h.2.2.2.2.2.2.2.1)
    clear hD HS hnm hie
    go_enter Tryd.func43, Tryd.ntmps43
    go_wp2
    go_ret
    exact ⟨rfl, hb1 _⟩
  by_cases c9 : nok nm
  case neg =>
    obtain rfl := hD.trans (decide_eq_false fun h => c9 h.2.2.2.2.2.2.2.2.1)
    rw [decide_eq_false (fun e => c9 (.inl e))] at hie
    have hnm' := fun W => hnm W
    rw [decide_eq_false (fun e => c9 (.inr e))] at hnm'
    clear hD HS c9 hnm
    go_enter Tryd.func43, Tryd.ntmps43
    go_wp2_with (go_at_call 59; refine (hnm' _).mono ?_; rintro e w' ⟨rfl, rfl⟩)
    go_ret
    exact ⟨rfl, hb1 _⟩
  obtain ⟨n, hn⟩ : ∃ n, n = s.length := ⟨_, rfl⟩
  rw [← hn] at hls hD ⊢
  have HN := Lib.hid hn
  clear hn
  obtain ⟨E, hE⟩ : ∃ E, E = decide (nm = []) := ⟨_, rfl⟩
  rw [← hE] at hie
  have hnmE : E = false → nmok nm := fun e => c9.elim (fun k => absurd k (of_decide_eq_false (hE.symm.trans e))) id
  have HE := Lib.hid hnmE
  clear hE hnmE
  by_cases c10 : n ≤ 1440
  case neg =>
    obtain rfl := hD.trans (decide_eq_false fun h => c10 h.2.2.2.2.2.2.2.2.2.1)
    have c10' : ¬ (n : Int) ≤ 1440 := by omega
    clear hD HS c10 c9
    cases E
    · have hnm' := fun W => hnm W
      rw [decide_eq_true (HE.out rfl)] at hnm'
      clear hnm
      go_enter Tryd.func43, Tryd.ntmps43
      go_wp2_with (go_at_call 59; refine (hnm' _).mono ?_; rintro e w' ⟨rfl, rfl⟩)
      go_ret
      exact ⟨rfl, hb1 _⟩
    · go_enter Tryd.func43, Tryd.ntmps43
      go_wp2
      go_ret
      exact ⟨rfl, hb1 _⟩
  have c10' : (n : Int) ≤ 1440 := by omega
  have HD : Hid (D = decide (∀ i, i < n → okAt s i)) := Lib.hid (hD.trans (decide_eq_decide.2 ⟨fun h => h.2.2.2.2.2.2.2.2.2.2, fun h => ⟨c1, c2, c3, c4, c5, c6, c7, c8, c9, c10, h⟩⟩))
  clear hD c9
  exact rng_good no z l d lo hi A c s nm n D E w hls c1 c2 c3 c4 c5 c6 c7 c8 c10' hnm hie HS HN HE HD
theorem rranges {w : World} {Q : Nat → Prop} {x : Value} {a : Aut} (hx : Av w Q x a) :
    Calls Tryd.prog 43 #[x] w fun e w' => e = .returned (.bool (decide (rng a))) ∧ Below w.heap.size w w' := by
  obtain ⟨A1, c1, rfl, hS, hb⟩ := hx
  refine rng_in _ _ _ _ _ _ A1 c1 _ _ hb.2.2.2.2.2 _ w (decide_eq_decide.2 ?_) hS
  rw [← sep_iff]
  unfold rng
  constructor
  · rintro ⟨h1, h2, h3, h4, h5, h6, h7, h8, h9, h10, h11⟩
    exact ⟨by omega, by omega, by omega, by omega, by omega, h6, h7, h8, h9, by have := rng_len ⟨h1, h2, h3, h4, h5, h6, h7, h8, h9, h10, h11⟩; omega, h10, h11⟩
  · rintro ⟨h1, h2, h3, h4, h5, h6, h7, h8, h9, -, h10, h11⟩
    exact ⟨by omega, by omega, by omega, by omega, by omega, h6, h7, h8, h9, h10, h11⟩
end Go.Proofs.YtgbcncfhmnhljaaDoor
