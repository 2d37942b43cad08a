/-
  The minutes of a day that an authority permits, as the comparing package lists them.
-/
import Derived.Deep.DeepCutAuto
import Derived.Deep.RegionHeld3
import Derived.BigQuiet
import Derived.Test.YtedjbjplnjnnlaaDoorPk0
import Derived.Test.YtedjbjplnjnnlaaDoorPk9
import Derived.Test.YtedjbjplnjnnlaaDoorPk1
namespace Go.Proofs.YtedjbjplnjnnlaaDoor
open Go Go.RowKit Sh Leaf

namespace Sh
/-- The spans of a day, moved to its beginning and cut to lo and hi. -/
def cday (lo hi st : Int) : List (Int × Int) → List (Int × Int)
  | [] => []
  | s :: t => if max lo (st + s.1) ≤ min hi (st + s.2) then (max lo (st + s.1), min hi (st + s.2)) :: cday lo hi st t else cday lo hi st t
theorem cday_snoc (lo hi st : Int) : ∀ (l : List (Int × Int)) (s : Int × Int), cday lo hi st (l ++ [s]) = cday lo hi st l ++ (if max lo (st + s.1) ≤ min hi (st + s.2) then [(max lo (st + s.1), min hi (st + s.2))] else [])
  | [], s => by simp [cday]
  | r :: t, s => by
    rw [List.cons_append, cday, cday, cday_snoc lo hi st t s]
    split <;> simp
theorem cday_len (lo hi st : Int) : ∀ l : List (Int × Int), (cday lo hi st l).length ≤ l.length
  | [] => by simp [cday]
  | r :: t => by
    rw [cday]
    have := cday_len lo hi st t
    split <;> simp <;> omega
theorem cday_mem (lo hi st : Int) : ∀ (l : List (Int × Int)) (p : Int × Int), p ∈ cday lo hi st l → lo ≤ p.1 ∧ p.1 ≤ p.2 ∧ p.2 ≤ hi
  | [], p, h => by simp [cday] at h
  | r :: t, p, h => by
    rw [cday] at h
    split at h
    · rcases List.mem_cons.1 h with rfl | h
      · simp only; omega
      · exact cday_mem lo hi st t p h
    · exact cday_mem lo hi st t p h
/-- What lies in the day's spans. -/
theorem cday_spm (lo hi st : Int) : ∀ (l : List (Int × Int)) (k : Int), spm (cday lo hi st l) k ↔ lo ≤ k ∧ k ≤ hi ∧ spm l (k - st)
  | [], k => by simp [cday, spm_nil]
  | r :: t, k => by
    rw [cday, spm_cons r t]
    have ih := cday_spm lo hi st t k
    split
    · rw [spm_cons, ih]
      constructor
      · rintro (⟨h1, h2⟩ | ⟨h1, h2, h3⟩)
        · exact ⟨by omega, by omega, .inl ⟨by omega, by omega⟩⟩
        · exact ⟨h1, h2, .inr h3⟩
      · rintro ⟨h1, h2, ⟨h3, h4⟩ | h3⟩
        · exact .inl ⟨by omega, by omega⟩
        · exact .inr ⟨h1, h2, h3⟩
    · rw [ih]
      constructor
      · rintro ⟨h1, h2, h3⟩; exact ⟨h1, h2, .inr h3⟩
      · rintro ⟨h1, h2, ⟨h3, h4⟩ | h3⟩
        · omega
        · exact ⟨h1, h2, h3⟩
/-- Ascending spans that do not overlap. -/
def ascS : Int → List (Int × Int) → Prop
  | _, [] => True
  | lo, s :: t => lo ≤ s.1 ∧ s.1 ≤ s.2 ∧ ascS (s.2 + 1) t
theorem ascS_ge : ∀ {l : List (Int × Int)} {lo k : Int}, ascS lo l → spm l k → lo ≤ k
  | [], _, _, _, h => absurd h (spm_nil _)
  | s :: t, lo, k, h, hk => by
    obtain ⟨h1, h2, h3⟩ := h
    rcases (spm_cons s t k).1 hk with h | h
    · omega
    · have := ascS_ge h3 h; omega
theorem ascS_mono : ∀ {l : List (Int × Int)} {lo lo' : Int}, ascS lo l → lo' ≤ lo → ascS lo' l
  | [], _, _, _, _ => trivial
  | s :: t, lo, lo', h, hl => ⟨by have := h.1; omega, h.2.1, h.2.2⟩
theorem cday_asc (lo hi st : Int) : ∀ (l : List (Int × Int)) (m : Int), sepA m l → ascS (st + m) (cday lo hi st l)
  | [], m, _ => trivial
  | s :: t, m, h => by
    obtain ⟨h1, h2, h3⟩ := h
    rw [cday]
    have ih := cday_asc lo hi st t (s.2 + 2) h3
    split
    · exact ⟨by simp only; omega, by assumption, ascS_mono ih (by simp only; omega)⟩
    · exact ascS_mono ih (by omega)
end Sh
/-- The list of a day. -/
noncomputable def cdl (a : Aut) (day : Nat) : List (Int × Int) := if a.days / 2 ^ (day % 7) % 2 = 0 then [] else cday a.lo a.hi ((day : Int) * 1440) a.daily
/-- What the walks of this package ask of an authority. -/
structure Cok (a : Aut) : Prop where
  days : a.days < 18446744073709551616
  lo : 0 ≤ a.lo ∧ a.lo ≤ 67108864
  hi : 0 ≤ a.hi ∧ a.hi ≤ 67108864
  len : a.daily.length ≤ 1000
  mem : ∀ s ∈ a.daily, 0 ≤ s.1 ∧ s.1 ≤ s.2 ∧ s.2 < 1440
  sep : sepA 0 a.daily
set_option maxRecDepth 100000 in
set_option maxHeartbeats 2000000 in
theorem conday {w : World} {Q : Nat → Prop} {x : Value} {a : Aut} (hx : Av w Q x a) (ha : Cok a) (day : Nat) (hday : day ≤ 100000) :
    Calls Tryd.prog 74 #[x, .int .i64 (day : Int)] w fun e w' => (∃ A c, e = .returned (.slice A (cdl a day).length c) ∧ Spn w' (fun g => w.heap.size ≤ g) A c (cdl a day)) ∧ Below w.heap.size w w' := by
  obtain ⟨A, c, rfl, hS, hab⟩ := hx
  obtain ⟨no, z, l, d, lo, hi, dy, h⟩ := a
  obtain ⟨hd64, hlo, hhi, hlen, hmem, hsep⟩ := ha
  simp only at hS hd64 hlo hhi hlen hmem hsep
  show Calls Tryd.prog 74 #[.agg (arow no z l d lo hi (.slice A dy.length c) h), .int .i64 (day : Int)] w _
  have hb0 : Below w.heap.size w (w.alloc (.cells (arow no z l d lo hi (.slice A dy.length c) h) 25)) := (Below.refl _ _).alloc (Nat.le_refl _) _
  have hr0 : ARow (w.alloc (.cells (arow no z l d lo hi (.slice A dy.length c) h) 25)) w.heap.size no z l d lo hi (.slice A dy.length c) h := Whole.here _ _ _
  have hand : bits BinOp.and IntKind.u64 ((d : Int) / 2 ^ (day % 7)) 1 = ((d / 2 ^ (day % 7) % 2 : Nat) : Int) := by
    have e1 : ((d : Int) / 2 ^ (day % 7)) = ((d / 2 ^ (day % 7) : Nat) : Int) := by simp
    have hlt : d / 2 ^ (day % 7) < 18446744073709551616 := Nat.lt_of_le_of_lt (Nat.div_le_self _ _) hd64
    rw [e1, show (1 : Int) = ((1 : Nat) : Int) from rfl, bits_and_u64_nat _ _ hlt (by omega), Nat.and_one_is_mod]
  by_cases hz : d / 2 ^ (day % 7) % 2 = 0
  · have hc : (bits BinOp.and IntKind.u64 ((d : Int) / 2 ^ (day % 7)) 1 == 0) = true := by rw [hand, hz]; rfl
    have hl : cdl ⟨no, z, l, d, lo, hi, dy, h⟩ day = [] := by unfold cdl; rw [if_pos hz]
    rw [hl]
    clear hand hz hl hab hS hsep hmem
    go_enter Tryd.func74, Tryd.ntmps74
    go_wp2
    go_ret
    exact ⟨⟨none, 0, rfl, Seq.nil _ _⟩, hb0⟩
  · have hc : (bits BinOp.and IntKind.u64 ((d : Int) / 2 ^ (day % 7)) 1 == 0) = false := by
      rw [hand, show d / 2 ^ (day % 7) % 2 = 1 by omega]; rfl
    obtain ⟨st, hst⟩ : ∃ st, st = (day : Int) * 1440 := ⟨_, rfl⟩
    have hl : cdl ⟨no, z, l, d, lo, hi, dy, h⟩ day = cday lo hi st dy := by unfold cdl; rw [if_neg hz, hst]
    rw [hl]
    have hst0 : 0 ≤ st ∧ st ≤ 144000000 := by omega
    have hw1 : IntKind.i64.wrap ((day : Int) * 1440) = st := by rw [hst, IntKind.wrap_i64]; omega
    obtain ⟨w1, hw⟩ : ∃ w1, w1 = w.alloc (.cells (arow no z l d lo hi (.slice A dy.length c) h) 25) := ⟨_, rfl⟩
    rw [← hw] at hb0 hr0
    have hS1 : Spn w1 (fun g => g < w1.heap.size) A c dy := (hS.below hb0 (Nat.le_refl _)).mono fun g hg _ => hg
    obtain ⟨n, hn⟩ : ∃ n, n = dy.length := ⟨_, rfl⟩
    rw [← hn] at hr0 hw hlen ⊢
    have HS := Lib.hid hS1
    have HN := Lib.hid hn
    have HM := Lib.hid hmem
    have HB := Lib.hid hb0
    have HR := Lib.hid hr0
    have HH := Lib.hid hst
    obtain ⟨r0, r1, r2, r3, r4, r5, r6, r7⟩ := ARow.cells hr0
    clear hand hz hl hab hS hsep hmem hS1 hn hb0 hr0 hst
    go_enter Tryd.func74, Tryd.ntmps74
    go_upto_region 1 with fail
    rw [← hw]
    clear hw
    go_wp2_with fail
    go_loopw [5, 23] (fun v kk wr => ∃ k : Nat, kk = .int .i64 k ∧ k ≤ n ∧ OwnSp wr w1.heap.size v (cday lo hi st (dy.take k)) ∧ Below w1.heap.size w1 wr) (fun _ k _ => 1001 - (intOf k).toNat)
    case atStart => exact ⟨0, rfl, by omega, by simpa [cday] using owns_nil _ _, Below.refl _ _⟩
    case round =>
      obtain ⟨k, rfl, hk, hown, hb⟩ := hrel
      clear r0 r1 r2 r3 r4 r5 r6 r7
      by_cases hlt : k < n
      · have hlt' : (k : Int) < (n : Int) := by omega
        have hk0 : (0 : Int) ≤ (k : Int) := by omega
        obtain ⟨s, hs⟩ : ∃ s, dy[k]? = some s := ⟨_, List.getElem?_eq_getElem (by rw [← HN.out]; exact hlt)⟩
        obtain ⟨s1, s2⟩ := s
        have hsb := HM.out _ (List.mem_of_getElem? hs)
        simp only at hsb
        obtain ⟨g, o, rfl, hgq, hgl, y1, y2⟩ := Spn.get (Seq.low HS.out hb) k (s1, s2) hs
        simp only at y1 y2
        have hr := Whole.below HR.out hb (Whole.lt HR.out)
        obtain ⟨r0, r1, r2, r3, r4, r5, r6, r7⟩ := ARow.cells hr
        have hgw : w.heap.size < wr.heap.size := Whole.lt hr
        have hw2 : IntKind.i64.wrap (st + s1) = st + s1 := by rw [IntKind.wrap_i64]; omega
        have hw3 : IntKind.i64.wrap (st + s2) = st + s2 := by rw [IntKind.wrap_i64]; omega
        have hk1 : IntKind.i64.wrap ((k : Int) + 1) = ((k + 1 : Nat) : Int) := by rw [IntKind.wrap_i64]; omega
        have HO := Lib.hid hown
        have HBk := Lib.hid hb
        have HSS := Lib.hid hs
        clear hown hb hs hr r0 r1 r2 r3 r6 r7
        go_upto_region 8 with fail
        have hb2 : Below wr.heap.size wr (wr.alloc (.cells #[.int .i64 s1, .int .i64 s2] 56)) := (Below.refl _ _).alloc (Nat.le_refl _) _
        have hz2 : Whole (wr.alloc (.cells #[.int .i64 s1, .int .i64 s2] 56)) wr.heap.size 56 #[.int .i64 s1, .int .i64 s2] := Whole.here _ _ _
        have ho2 : OwnSp (wr.alloc (.cells #[.int .i64 s1, .int .i64 s2] 56)) w1.heap.size u5 (cday lo hi st (List.take k dy)) := HO.out.alloc _
        have q4 := (hb2.cell (p := ⟨w.heap.size, 4, none⟩) hgw).trans r4
        have q5 := (hb2.cell (p := ⟨w.heap.size, 5, none⟩) hgw).trans r5
        have HB2 : Hid (Below w1.heap.size w1 (wr.alloc (.cells #[.int .i64 s1, .int .i64 s2] 56))) := Lib.hid (HBk.out.trans (hb2.mono (Below.size HBk.out)))
        have z1 := hz2.cell 0
        have z2 := hz2.cell 1
        have HO2 := Lib.hid ho2
        clear hb2 hz2 ho2 HO HBk r4 r5 y1 y2
        generalize wr.alloc (.cells #[.int .i64 s1, .int .i64 s2] 56) = W2 at q4 q5 HB2 z1 z2 HO2 ⊢
        go_quiet (fail)
        obtain ⟨F, hF⟩ : ∃ F, F = max lo (st + s1) := ⟨_, rfl⟩
        obtain ⟨T, hT⟩ : ∃ T, T = min hi (st + s2) := ⟨_, rfl⟩
        have e1 : (if lo < st + s1 then st + s1 else lo) = F := by omega
        have e2 : (if st + s2 < hi then st + s2 else hi) = T := by omega
        rw [e1, e2]
        have hFb : i64ok F ∧ i64ok T := ⟨⟨by show (-9223372036854775808 : Int) ≤ F; omega, by show F ≤ (9223372036854775807 : Int); omega⟩, ⟨by show (-9223372036854775808 : Int) ≤ T; omega, by show T ≤ (9223372036854775807 : Int); omega⟩⟩
        have hcd : cday lo hi st (dy.take (k + 1)) = cday lo hi st (dy.take k) ++ (if F ≤ T then [(F, T)] else []) := by
          rw [Sh.take_snoc HSS.out, cday_snoc, hF, hT]
        have hlk : (cday lo hi st (dy.take k)).length ≤ 1000 := Nat.le_trans (cday_len lo hi st _) (by rw [List.length_take]; omega)
        have HCD := Lib.hid hcd
        have HFB := Lib.hid hFb
        have HO3 : Hid (OwnSp (W2.drewN nq) w1.heap.size u5 (cday lo hi st (List.take k dy))) := Lib.hid HO2.out
        have HB3 : Hid (Below w1.heap.size w1 (W2.drewN nq)) := Lib.hid (below_drewN HB2.out nq)
        clear hcd hFb e1 e2 HO2 HB2 q4 q5 z1 z2 hF hT
        generalize W2.drewN nq = W3 at HO3 HB3 ⊢
        generalize hCk : cday lo hi st (List.take k dy) = Ck at HCD HO3 hlk
        clear hCk
        by_cases hft : F ≤ T
        · rw [if_pos hft] at HCD
          have HSO : Hid (Spn (W3.alloc (.cells #[.int .i64 F, .int .i64 T] 56)) (fun b => b = W3.heap.size) (some ⟨W3.heap.size, 0, none⟩) 1 [(F, T)]) := Lib.hid (seq_one (heap_alloc_new W3 _) rfl HFB.out)
          have HOA : Hid (OwnSp (W3.alloc (.cells #[.int .i64 F, .int .i64 T] 56)) w1.heap.size u5 Ck) := Lib.hid (HO3.out.alloc _)
          have HBA : Hid (Below w1.heap.size w1 (W3.alloc (.cells #[.int .i64 F, .int .i64 T] 56))) := Lib.hid (HB3.out.alloc (Below.size HB3.out) _)
          clear HO3 HB3 hlo hhi hsb
          go_wp2_with (at_builtin; go_must (refine wpList_append_seq (f := scl) (n := 2) rfl _ _ 23 56 _ 16 rfl Tryd.underlying23 spanInfo rfl (by decide) (by decide) scl_len scl_one w1.heap.size _ Ck rfl HOA.out _ (some ⟨W3.heap.size, 0, none⟩) 1 1 [(F, T)] rfl rfl HSO.out (by simp <;> omega) (Below.size HBA.out) ?_; intro v6 w6 ho hb hgr))
          go_roundw
          case rel => exact ⟨k + 1, by go_num, by omega, by rw [HCD.out]; exact ho, HBA.out.trans hb⟩
          case measure => simp [intOf]; omega
        · rw [if_neg hft, List.append_nil] at HCD
          clear hlo hhi hsb
          go_wp2
          go_roundw
          case rel => exact ⟨k + 1, by go_num, by omega, by rw [HCD.out]; exact HO3.out, HB3.out⟩
          case measure => simp [intOf]; omega
      · have hkn : k = n := by omega
        subst hkn
        have e : dy.take k = dy := by rw [HN.out, List.take_length]
        rw [e] at hown
        obtain ⟨Ar, cr, rfl, hSr⟩ := OwnS.seq (ok := sbd) hown (fun p hp => by
          have := cday_mem lo hi st dy p hp
          exact ⟨⟨by show (-9223372036854775808 : Int) ≤ p.1; omega, by show p.1 ≤ (9223372036854775807 : Int); omega⟩, ⟨by show (-9223372036854775808 : Int) ≤ p.2; omega, by show p.2 ≤ (9223372036854775807 : Int); omega⟩⟩)
        have HX := Lib.hid (And.intro hSr hb)
        have hlt' : ¬ (k : Int) < (k : Int) := by omega
        obtain ⟨nr, hnr⟩ : ∃ m, m = (cday lo hi st dy).length := ⟨_, rfl⟩
        rw [← hnr]
        have HNR := Lib.hid hnr
        clear hown hSr hb e hnr
        go_wp2
        go_ret
        exact ⟨⟨Ar, cr, by rw [← HNR.out]; rfl, HX.out.1.mono fun g _ hg => Nat.le_trans (Below.size HB.out) hg⟩, HB.out.trans (HX.out.2.mono (Below.size HB.out))⟩
end Go.Proofs.YtedjbjplnjnnlaaDoor
