/-
  The laws' helper made: two valid authorities off one deck.
  The reference's Of as made wants it.
-/
import Derived.Test.YtedjbjplnjnnlaaPk21
import Derived.Test.YtedjbjplnjnnlaaPk26
import Derived.Test.YtedjbjplnjnnlaaKAnyG
import Derived.Test.YtedjbjplnjnnlaaPk37
import Derived.Test.YtedjbjplnjnnlaaPk24
namespace Go.Proofs.Ytedjbjplnjnnlaa
open Go Go.RowKit Sh Leaf

def RofC : Prop := ∀ (l : List Prd) (A : Option Addr) (k : Nat) (Q : Nat → Prop) (w : World), Prds w Q A k l →
    Calls Try.prog 19 #[.slice A l.length k] w fun e w' => (∃ x m er, e = .returned (.tuple #[x, .int .i64 er]) ∧ Av w' (fun b => w.heap.size ≤ b) x m ∧ OfR l m er) ∧ Below w.heap.size w w'
theorem results_made {w : World} {fn : Func} {g1 g2 : Nat} {p q r : Tmp} (h : fn.results = #[.cell p 25, .cell q 25, .tmp r]) (tmps : Array Value) (hp : tmps.getD p undef = .pointer (some ⟨g1, 0, none⟩)) (hq : tmps.getD q undef = .pointer (some ⟨g2, 0, none⟩)) (x : Value) (hr : tmps.getD r undef = x) {c1 c2 : Array Value} (h1 : c1.size = 8) (h2 : c2.size = 8) (hg1 : Whole w g1 25 c1) (hg2 : Whole w g2 25 c2) :
    (results fn tmps).run Try.prog w = .ok (.tuple #[.agg c1, .agg c2, x]) w := by
  have hp' : tmps[p]?.getD undef = .pointer (some ⟨g1, 0, none⟩) := by simpa using hp
  have hq' : tmps[q]?.getD undef = .pointer (some ⟨g2, 0, none⟩) := by simpa using hq
  have hr' : tmps[r]?.getD undef = x := by simpa using hr
  simp [results, h, hp', hq', hr', asAddr, run_loadVar_row w g1 25 25 _ (0, 0) _ hg1 Try.underlying25 rfl (by rw [autSize, h1]), run_loadVar_row w g2 25 25 _ (0, 0) _ hg2 Try.underlying25 rfl (by rw [autSize, h2])]
set_option linter.unusedSimpArgs false in
set_option maxRecDepth 100000 in
set_option maxHeartbeats 4000000 in
theorem amade (hrof : RofC) (A0 : Option Addr) (l0 : List Int) (c0 : Nat) (w : World) (hI0 : Ints w (fun b => b < w.heap.size) A0 c0 l0) :
    Calls Try.prog 9 #[.slice A0 l0.length c0] w fun e w' => (∃ x y a b g, e = .returned (.tuple #[x, y, .pointer (some ⟨g, 0, none⟩)]) ∧ Av w' (fun k => w.heap.size ≤ k ∧ k ≠ g) x a ∧ Av w' (fun k => w.heap.size ≤ k ∧ k ≠ g) y b ∧ aok a ∧ aok b ∧ Deck g w' ∧ w.heap.size ≤ g) ∧ Below w.heap.size w w' := by
  obtain ⟨n0, hn0⟩ : ∃ n, n = l0.length := ⟨_, rfl⟩
  rw [← hn0]
  obtain ⟨w0, hw0⟩ : ∃ w0, w0 = (w.alloc (.cells #[.bool false, .int .u64 0, .int .u64 0, .int .u64 0, .int .i64 0, .int .i64 0, .slice none 0 0, .string { data := #[] }] 25)).alloc (.cells #[.bool false, .int .u64 0, .int .u64 0, .int .u64 0, .int .i64 0, .int .i64 0, .slice none 0 0, .string { data := #[] }] 25) := ⟨_, rfl⟩
  have hsz : w0.heap.size = w.heap.size + 2 := by rw [hw0]; simp
  have hb0 : Below w.heap.size w w0 := by rw [hw0]; exact ab_below w _ _
  have HZ1 : Hid (Whole w0 w.heap.size 25 #[.bool false, .int .u64 0, .int .u64 0, .int .u64 0, .int .i64 0, .int .i64 0, .slice none 0 0, .string { data := #[] }]) := Lib.hid (by rw [hw0]; exact (Whole.here _ _ _).alloc _)
  have HZ2 : Hid (Whole w0 (w.heap.size + 1) 25 #[.bool false, .int .u64 0, .int .u64 0, .int .u64 0, .int .i64 0, .int .i64 0, .slice none 0 0, .string { data := #[] }]) := Lib.hid (by rw [hw0]; exact Whole.at_ _ _ _ _ (by simp))
  have hI1 : Ints w0 (fun b => b < w0.heap.size) A0 c0 l0 := (hI0.below hb0).mono hb0.size
  have hd := dnew_in A0 n0 c0 l0 w0 hn0 hI1 (fun b => b < w.heap.size) (fun h => by
    obtain ⟨b, o, e, q, _⟩ := hI0.2.2.2.2 (by omega)
    exact ⟨b, o, e, q⟩)
  have HB0 := Lib.hid hb0
  obtain ⟨gd, hgd⟩ : ∃ g, g = w0.heap.size := ⟨_, rfl⟩
  rw [← hgd] at hd
  have HG : Hid (gd = w.heap.size + 2 ∧ gd = w0.heap.size) := Lib.hid ⟨by omega, hgd⟩
  clear hI0 hI1 hn0 hb0 hsz hgd
  go_enter Try.func9, Try.ntmps9
  go_upto_region 1 with fail
  rw [← hw0]
  clear hw0
  go_wp2_with fail
  refine hd.mono ?_
  rintro e w1 ⟨rfl, hk1, hi1, hb1⟩
  have hps := dpreds 4 (by omega) _ _ hk1
  rw [show ((4 : Nat) : Int) = 4 from rfl] at hps
  have HB1 : Hid (Below gd w0 w1) := Lib.hid hb1
  have HI1 : Hid (DeckIn (fun b => b < w.heap.size) gd w1) := Lib.hid hi1
  have HD1 : Hid (Deck gd w1) := Lib.hid hk1
  clear hd hk1 hb1 hi1
  go_wp2_with fail
  refine hps.mono ?_
  rintro e w2 ⟨v, lk, rfl, hk4, hlk, hown, ht2⟩
  obtain ⟨Ak, ck, rfl, hX⟩ := hown.prds (fun p hp => (hlk p hp).2)
  have hof := hrof lk Ak ck _ w2 hX
  obtain ⟨nk, hnk⟩ : ∃ n, n = lk.length := ⟨_, rfl⟩
  rw [← hnk] at hof ⊢
  have HT2 := Lib.hid ht2
  have HL4 : Hid (lk.length ≤ 64) := Lib.hid (by omega)
  have HOK : Hid (∀ p ∈ lk, pok p) := Lib.hid fun p hp => (hlk p hp).1
  clear hps hlk hk4 hown ht2 hX hnk
  go_wp2_with fail
  refine hof.mono ?_
  rintro e u1 ⟨⟨x, a, er, rfl, hm, hr⟩, hb⟩
  obtain ⟨hs, rfl⟩ := of_ok hr HL4.out HOK.out
  obtain ⟨Aa, ca, rfl, hS, hab⟩ := hm
  obtain ⟨p1, hp⟩ : ∃ p, p = u1.alloc (.cells (avl a Aa ca) 25) := ⟨_, rfl⟩
  have hup : Below u1.heap.size u1 p1 := by rw [hp]; exact (Below.refl u1.heap.size u1).alloc (Nat.le_refl _) _
  have HE1 : Hid (Below w2.heap.size w2 p1) := Lib.hid (hb.trans (hup.mono hb.size))
  have HR1 : Hid (ARow p1 u1.heap.size a.none a.zones a.lines a.days a.lo a.hi (.slice Aa a.daily.length ca) a.holder) := Lib.hid (by rw [hp]; exact Whole.here _ _ _)
  have hg12 : gd < w2.heap.size := HT2.out.1.lt
  have HUS1 : Hid (w2.heap.size ≤ u1.heap.size) := Lib.hid hb.size
  have HA1 : Hid (Av p1 (fun k => w.heap.size + 2 ≤ k ∧ k ≠ gd) (.agg (avl a Aa ca)) a) := Lib.hid ⟨Aa, ca, rfl, (hS.below hup (Nat.le_refl _)).mono fun k _ hq => by
    have h1 : w2.heap.size ≤ k := hq
    have h2 := HG.out.1
    constructor <;> omega, hab⟩
  have HS1 : Hid (aok a) := Lib.hid hs.1
  have hdk : Deck gd p1 := HT2.out.1.below HE1.out hg12
  have hps := dpreds 4 (by omega) _ _ hdk
  rw [show ((4 : Nat) : Int) = 4 from rfl] at hps
  clear hof hb hr hs hS hab hup hg12 HL4 HOK hdk
  go_upto_region 3 with fail
  rw [← hp]
  clear hp
  go_wp2_with fail
  refine hps.mono ?_
  rintro e w3 ⟨v, ll, rfl, hk4, hlk, hown, ht3⟩
  obtain ⟨Al, cl, rfl, hX⟩ := hown.prds (fun p hp => (hlk p hp).2)
  have hof := hrof ll Al cl _ w3 hX
  obtain ⟨nl, hnl⟩ : ∃ n, n = ll.length := ⟨_, rfl⟩
  rw [← hnl] at hof ⊢
  have HT3 := Lib.hid ht3
  have HL4 : Hid (ll.length ≤ 64) := Lib.hid (by omega)
  have HOK : Hid (∀ p ∈ ll, pok p) := Lib.hid fun p hp => (hlk p hp).1
  clear hps hlk hk4 hown ht3 hX hnl
  go_wp2_with fail
  refine hof.mono ?_
  rintro e u2 ⟨⟨x, b, er, rfl, hm, hr⟩, hb⟩
  obtain ⟨hs, rfl⟩ := of_ok hr HL4.out HOK.out
  obtain ⟨Ab, cb, rfl, hS, hbb⟩ := hm
  obtain ⟨p2, hp⟩ : ∃ p, p = u2.alloc (.cells (avl b Ab cb) 25) := ⟨_, rfl⟩
  have hup : Below u2.heap.size u2 p2 := by rw [hp]; exact (Below.refl u2.heap.size u2).alloc (Nat.le_refl _) _
  have hE2 : Below w3.heap.size w3 p2 := hb.trans (hup.mono hb.size)
  have hgz := HG.out
  have hg12 : gd < w2.heap.size := HT2.out.1.lt
  have hg3 : gd < w3.heap.size := HT3.out.1.lt
  have hus1 := HUS1.out
  have hs1 := HE1.out.size
  have hs3 := HT3.out.2.1.size
  have hu1 := HR1.out.lt
  have hr2 : ARow p2 u2.heap.size b.none b.zones b.lines b.days b.lo b.hi (.slice Ab b.daily.length cb) b.holder := by rw [hp]; exact Whole.here _ _ _
  have hr1 : ARow p2 u1.heap.size a.none a.zones a.lines a.days a.lo a.hi (.slice Aa a.daily.length ca) a.holder := Whole.below (HT3.out.2.2.oth _ _ _ (by omega) HR1.out) hE2 (by omega)
  have hz : Below gd w0 p2 := HB1.out.trans (HT2.out.2.1.trans ((HE1.out.mono (by omega)).trans (HT3.out.2.1.trans (hE2.mono (by omega)))))
  have HZ1' : Hid (Whole p2 w.heap.size 25 #[.bool false, .int .u64 0, .int .u64 0, .int .u64 0, .int .i64 0, .int .i64 0, .slice none 0 0, .string { data := #[] }]) := Lib.hid (HZ1.out.below hz (by omega))
  have HZ2' : Hid (Whole p2 (w.heap.size + 1) 25 #[.bool false, .int .u64 0, .int .u64 0, .int .u64 0, .int .i64 0, .int .i64 0, .slice none 0 0, .string { data := #[] }]) := Lib.hid (HZ2.out.below hz (by omega))
  have hB : Below w.heap.size w p2 := HB0.out.trans (hz.mono (by omega))
  have HAA : Hid (Av p2 (fun k => w.heap.size + 2 ≤ k ∧ k ≠ gd) (.agg (avl a Aa ca)) a) := Lib.hid ((HA1.out.oth HT3.out.2.2 hs3 (fun k _ hq => hq.2)).below hE2 (Nat.le_refl _))
  have HBB : Hid (Av p2 (fun k => w.heap.size + 2 ≤ k ∧ k ≠ gd) (.agg (avl b Ab cb)) b) := Lib.hid ⟨Ab, cb, rfl, (hS.below hup (Nat.le_refl _)).mono fun k _ hq => by
    have h1 : w3.heap.size ≤ k := hq
    constructor <;> omega, hbb⟩
  have HS2 : Hid (aok b) := Lib.hid hs.1
  have HDK : Hid (Deck gd p2) := Lib.hid (HT3.out.1.below hE2 hg3)
  have HDI : Hid (DeckIn (fun b => b < w.heap.size) gd p2) := Lib.hid ((((HI1.out.oth HT2.out.2.2).below HE1.out hg12).oth HT3.out.2.2).below hE2 hg3)
  have HB := Lib.hid hB
  have hwp : w.heap.size + 2 < p2.heap.size := by have := hz.size; have := hE2.size; omega
  have hus2 := hb.size
  have HY1 : Hid ((p2.drew.setRow w.heap.size (arow a.none a.zones a.lines a.days a.lo a.hi (.slice Aa a.daily.length ca) a.holder)).cell? ⟨u2.heap.size, 0, none⟩ = some (.bool b.none) ∧ (p2.drew.setRow w.heap.size (arow a.none a.zones a.lines a.days a.lo a.hi (.slice Aa a.daily.length ca) a.holder)).cell? ⟨u2.heap.size, 1, none⟩ = some (.int .u64 (b.zones : Int)) ∧ (p2.drew.setRow w.heap.size (arow a.none a.zones a.lines a.days a.lo a.hi (.slice Aa a.daily.length ca) a.holder)).cell? ⟨u2.heap.size, 2, none⟩ = some (.int .u64 (b.lines : Int)) ∧ (p2.drew.setRow w.heap.size (arow a.none a.zones a.lines a.days a.lo a.hi (.slice Aa a.daily.length ca) a.holder)).cell? ⟨u2.heap.size, 3, none⟩ = some (.int .u64 (b.days : Int)) ∧ (p2.drew.setRow w.heap.size (arow a.none a.zones a.lines a.days a.lo a.hi (.slice Aa a.daily.length ca) a.holder)).cell? ⟨u2.heap.size, 4, none⟩ = some (.int .i64 b.lo) ∧ (p2.drew.setRow w.heap.size (arow a.none a.zones a.lines a.days a.lo a.hi (.slice Aa a.daily.length ca) a.holder)).cell? ⟨u2.heap.size, 5, none⟩ = some (.int .i64 b.hi) ∧ (p2.drew.setRow w.heap.size (arow a.none a.zones a.lines a.days a.lo a.hi (.slice Aa a.daily.length ca) a.holder)).cell? ⟨u2.heap.size, 6, none⟩ = some (.slice Ab b.daily.length cb) ∧ (p2.drew.setRow w.heap.size (arow a.none a.zones a.lines a.days a.lo a.hi (.slice Aa a.daily.length ca) a.holder)).cell? ⟨u2.heap.size, 7, none⟩ = some (.string (sof b.holder))) := Lib.hid (ARow.cells (Whole.setRow_far (Whole.drew hr2) (g' := w.heap.size) (by omega) (arow a.none a.zones a.lines a.days a.lo a.hi (.slice Aa a.daily.length ca) a.holder)))
  have HY2 : Hid (((p2.drew.setRow w.heap.size (arow a.none a.zones a.lines a.days a.lo a.hi (.slice Aa a.daily.length ca) a.holder)).setRow (w.heap.size + 1) (arow b.none b.zones b.lines b.days b.lo b.hi (.slice Ab b.daily.length cb) b.holder)).cell? ⟨u2.heap.size, 0, none⟩ = some (.bool b.none) ∧ ((p2.drew.setRow w.heap.size (arow a.none a.zones a.lines a.days a.lo a.hi (.slice Aa a.daily.length ca) a.holder)).setRow (w.heap.size + 1) (arow b.none b.zones b.lines b.days b.lo b.hi (.slice Ab b.daily.length cb) b.holder)).cell? ⟨u2.heap.size, 1, none⟩ = some (.int .u64 (b.zones : Int)) ∧ ((p2.drew.setRow w.heap.size (arow a.none a.zones a.lines a.days a.lo a.hi (.slice Aa a.daily.length ca) a.holder)).setRow (w.heap.size + 1) (arow b.none b.zones b.lines b.days b.lo b.hi (.slice Ab b.daily.length cb) b.holder)).cell? ⟨u2.heap.size, 2, none⟩ = some (.int .u64 (b.lines : Int)) ∧ ((p2.drew.setRow w.heap.size (arow a.none a.zones a.lines a.days a.lo a.hi (.slice Aa a.daily.length ca) a.holder)).setRow (w.heap.size + 1) (arow b.none b.zones b.lines b.days b.lo b.hi (.slice Ab b.daily.length cb) b.holder)).cell? ⟨u2.heap.size, 3, none⟩ = some (.int .u64 (b.days : Int)) ∧ ((p2.drew.setRow w.heap.size (arow a.none a.zones a.lines a.days a.lo a.hi (.slice Aa a.daily.length ca) a.holder)).setRow (w.heap.size + 1) (arow b.none b.zones b.lines b.days b.lo b.hi (.slice Ab b.daily.length cb) b.holder)).cell? ⟨u2.heap.size, 4, none⟩ = some (.int .i64 b.lo) ∧ ((p2.drew.setRow w.heap.size (arow a.none a.zones a.lines a.days a.lo a.hi (.slice Aa a.daily.length ca) a.holder)).setRow (w.heap.size + 1) (arow b.none b.zones b.lines b.days b.lo b.hi (.slice Ab b.daily.length cb) b.holder)).cell? ⟨u2.heap.size, 5, none⟩ = some (.int .i64 b.hi) ∧ ((p2.drew.setRow w.heap.size (arow a.none a.zones a.lines a.days a.lo a.hi (.slice Aa a.daily.length ca) a.holder)).setRow (w.heap.size + 1) (arow b.none b.zones b.lines b.days b.lo b.hi (.slice Ab b.daily.length cb) b.holder)).cell? ⟨u2.heap.size, 6, none⟩ = some (.slice Ab b.daily.length cb) ∧ ((p2.drew.setRow w.heap.size (arow a.none a.zones a.lines a.days a.lo a.hi (.slice Aa a.daily.length ca) a.holder)).setRow (w.heap.size + 1) (arow b.none b.zones b.lines b.days b.lo b.hi (.slice Ab b.daily.length cb) b.holder)).cell? ⟨u2.heap.size, 7, none⟩ = some (.string (sof b.holder))) := Lib.hid (ARow.cells (Whole.setRow_far (Whole.setRow_far (Whole.drew hr2) (g' := w.heap.size) (by omega) (arow a.none a.zones a.lines a.days a.lo a.hi (.slice Aa a.daily.length ca) a.holder)) (g' := w.heap.size + 1) (by omega) (arow b.none b.zones b.lines b.days b.lo b.hi (.slice Ab b.daily.length cb) b.holder)))
  obtain ⟨x0, x1, x2, x3, x4, x5, x6, x7⟩ := ARow.cells hr1
  obtain ⟨y0, y1, y2, y3, y4, y5, y6, y7⟩ := ARow.cells hr2
  clear hus2 hof hb hr hs hS hbb hup hg12 hg3 hgz hus1 hs1 hs3 hu1 hr1 hr2 hz hB hE2 HL4 HOK HT2 HT3 HE1 HR1 HA1 HUS1 HZ1 HZ2 HB0 HB1 HD1 HI1
  go_upto_region 4 with fail
  rw [← hp]
  clear hp
  refine wp_region_G (fun W : World => W.cell? ⟨u1.heap.size, 0, none⟩ = some (.bool a.none) ∧ W.cell? ⟨u1.heap.size, 1, none⟩ = some (.int .u64 (a.zones : Int)) ∧ W.cell? ⟨u1.heap.size, 2, none⟩ = some (.int .u64 (a.lines : Int)) ∧ W.cell? ⟨u1.heap.size, 3, none⟩ = some (.int .u64 (a.days : Int)) ∧ W.cell? ⟨u1.heap.size, 4, none⟩ = some (.int .i64 a.lo) ∧ W.cell? ⟨u1.heap.size, 5, none⟩ = some (.int .i64 a.hi) ∧ W.cell? ⟨u1.heap.size, 6, none⟩ = some (.slice Aa a.daily.length ca) ∧ W.cell? ⟨u1.heap.size, 7, none⟩ = some (.string (sof a.holder))) (fun W : World => W.cell? ⟨u2.heap.size, 0, none⟩ = some (.bool b.none) ∧ W.cell? ⟨u2.heap.size, 1, none⟩ = some (.int .u64 (b.zones : Int)) ∧ W.cell? ⟨u2.heap.size, 2, none⟩ = some (.int .u64 (b.lines : Int)) ∧ W.cell? ⟨u2.heap.size, 3, none⟩ = some (.int .u64 (b.days : Int)) ∧ W.cell? ⟨u2.heap.size, 4, none⟩ = some (.int .i64 b.lo) ∧ W.cell? ⟨u2.heap.size, 5, none⟩ = some (.int .i64 b.hi) ∧ W.cell? ⟨u2.heap.size, 6, none⟩ = some (.slice Ab b.daily.length cb) ∧ W.cell? ⟨u2.heap.size, 7, none⟩ = some (.string (sof b.holder))) [3] (by kernel_rfl) ?_
  have hHeld : (fun W : World => W.cell? ⟨u1.heap.size, 0, none⟩ = some (.bool a.none) ∧ W.cell? ⟨u1.heap.size, 1, none⟩ = some (.int .u64 (a.zones : Int)) ∧ W.cell? ⟨u1.heap.size, 2, none⟩ = some (.int .u64 (a.lines : Int)) ∧ W.cell? ⟨u1.heap.size, 3, none⟩ = some (.int .u64 (a.days : Int)) ∧ W.cell? ⟨u1.heap.size, 4, none⟩ = some (.int .i64 a.lo) ∧ W.cell? ⟨u1.heap.size, 5, none⟩ = some (.int .i64 a.hi) ∧ W.cell? ⟨u1.heap.size, 6, none⟩ = some (.slice Aa a.daily.length ca) ∧ W.cell? ⟨u1.heap.size, 7, none⟩ = some (.string (sof a.holder))) (p2.drew) := ⟨x0, x1, x2, x3, x4, x5, x6, x7⟩
  have hBeld : (fun W : World => W.cell? ⟨u2.heap.size, 0, none⟩ = some (.bool b.none) ∧ W.cell? ⟨u2.heap.size, 1, none⟩ = some (.int .u64 (b.zones : Int)) ∧ W.cell? ⟨u2.heap.size, 2, none⟩ = some (.int .u64 (b.lines : Int)) ∧ W.cell? ⟨u2.heap.size, 3, none⟩ = some (.int .u64 (b.days : Int)) ∧ W.cell? ⟨u2.heap.size, 4, none⟩ = some (.int .i64 b.lo) ∧ W.cell? ⟨u2.heap.size, 5, none⟩ = some (.int .i64 b.hi) ∧ W.cell? ⟨u2.heap.size, 6, none⟩ = some (.slice Ab b.daily.length cb) ∧ W.cell? ⟨u2.heap.size, 7, none⟩ = some (.string (sof b.holder))) (p2.drew) := ⟨y0, y1, y2, y3, y4, y5, y6, y7⟩
  apply AnyG_take (i := 0) rfl (by kernel_rfl) (by kernel_rfl) (by kernel_rfl) (by kernel_rfl)
  case hQ => exact fun _ _ _ h => h
  case hB => exact hBeld
  case hC => exact hHeld
  case hy => (refine Or.inl ⟨by rfl, ?_⟩; intro w hSw; (try go_split_ands); go_simp; (try with_reducible rfl))
  (try simp only [List.getElem_toArray, List.getElem_cons_zero, Act.put, List.setIfInBounds_toArray, List.set_cons_zero, List.set_cons_succ])
  apply AnyG_pure (i := 1) rfl (by kernel_rfl) (by kernel_rfl) (by kernel_rfl) (by kernel_rfl)
  case hQ => exact fun _ _ _ h => h
  case hB => exact hBeld
  case hC => exact .inr hHeld
  case hy => (refine Or.inl ⟨by rfl, ?_⟩; intro w hSw; (try go_split_ands); go_simp; (try with_reducible rfl))
  (try simp only [List.getElem_toArray, List.getElem_cons_succ, List.getElem_cons_zero, Act.put, List.setIfInBounds_toArray, List.set_cons_zero, List.set_cons_succ])
  apply AnyG_pure (i := 2) rfl (by kernel_rfl) (by kernel_rfl) (by kernel_rfl) (by kernel_rfl)
  case hQ => exact fun _ _ _ h => h
  case hB => exact hBeld
  case hC => exact .inr hHeld
  case hy => (refine Or.inl ⟨by rfl, ?_⟩; intro w hSw; (try go_split_ands); go_simp; (try with_reducible rfl))
  (try simp only [List.getElem_toArray, List.getElem_cons_succ, List.getElem_cons_zero, Act.put, List.setIfInBounds_toArray, List.set_cons_zero, List.set_cons_succ])
  refine AnyG_one (i := 3) (by kernel_rfl) rfl (fun K hK => ?_)
  (try simp only [List.getElem_toArray, List.getElem_cons_succ, List.getElem_cons_zero])
  rw [if_pos (by kernel_rfl)]
  refine wp_store_row 25 _ _ rfl w.heap.size _ rfl rfl 25 _ (Whole.drew HZ1'.out) (by kernel_rfl) rfl (by with_unfolding_all rfl) ?_
  clear hHeld
  refine hK.out _ _ (.inl (by kernel_rfl)) (by first | exact HY1.out | exact HY2.out) ?_
  clear hK K
  (try simp only [List.getElem_toArray, List.getElem_cons_succ, List.getElem_cons_zero, Act.put, List.setIfInBounds_toArray, List.set_cons_zero, List.set_cons_succ])
  refine AnyG_one (i := 4) (by kernel_rfl) rfl (fun K hK => ?_)
  (try simp only [List.getElem_toArray, List.getElem_cons_succ, List.getElem_cons_zero])
  rw [if_pos (by kernel_rfl)]
  refine wp_store_row 25 _ _ rfl (w.heap.size + 1) _ rfl rfl 25 _ (Whole.setRow_far (Whole.drew HZ2'.out) (by omega) _) (by kernel_rfl) rfl (by with_unfolding_all rfl) ?_
  refine hK.out _ _ (.inl (by kernel_rfl)) (by first | exact HY1.out | exact HY2.out) ?_
  clear hK K
  (try simp only [List.getElem_toArray, List.getElem_cons_succ, List.getElem_cons_zero, Act.put, List.setIfInBounds_toArray, List.set_cons_zero, List.set_cons_succ])
  apply AnyG_pure (i := 5) rfl (by kernel_rfl) (by kernel_rfl) (by kernel_rfl) (by kernel_rfl)
  case hQ => exact fun _ _ _ h => h
  case hB => exact (by first | exact HY1.out | exact HY2.out)
  case hC => exact .inl (by kernel_rfl)
  case hy => (refine Or.inl ⟨by rfl, ?_⟩; intro w hSw; (try go_split_ands); go_simp; (try with_reducible rfl))
  (try simp only [List.getElem_toArray, List.getElem_cons_succ, List.getElem_cons_zero, Act.put, List.setIfInBounds_toArray, List.set_cons_zero, List.set_cons_succ])
  refine AnyG_done (by kernel_rfl) ?_ _
  clear hBeld
  clear x0 x1 x2 x3 x4 x5 x6 x7 y0 y1 y2 y3 y4 y5 y6 y7 HY1 HY2
  have hq1 : w.heap.size ≠ w.heap.size + 1 := by omega
  have hg0 := HG.out.1
  have hf1 : Whole ((p2.drew.setRow w.heap.size (arow a.none a.zones a.lines a.days a.lo a.hi (.slice Aa a.daily.length ca) a.holder)).setRow (w.heap.size + 1) (arow b.none b.zones b.lines b.days b.lo b.hi (.slice Ab b.daily.length cb) b.holder)) w.heap.size 25 (arow a.none a.zones a.lines a.days a.lo a.hi (.slice Aa a.daily.length ca) a.holder) := Whole.setRow_far (Whole.setRow (Whole.drew HZ1'.out) _) hq1 _
  have hf2 : Whole ((p2.drew.setRow w.heap.size (arow a.none a.zones a.lines a.days a.lo a.hi (.slice Aa a.daily.length ca) a.holder)).setRow (w.heap.size + 1) (arow b.none b.zones b.lines b.days b.lo b.hi (.slice Ab b.daily.length cb) b.holder)) (w.heap.size + 1) 25 (arow b.none b.zones b.lines b.days b.lo b.hi (.slice Ab b.daily.length cb) b.holder) := Whole.setRow (Whole.setRow_far (Whole.drew HZ2'.out) (Ne.symm hq1) _) _
  have HF : Hid _ := Lib.hid (And.intro hf1 hf2)
  have keep : ∀ {x : Value} {m : Aut}, Av p2 (fun k => w.heap.size + 2 ≤ k ∧ k ≠ gd) x m → Av ((p2.drew.setRow w.heap.size (arow a.none a.zones a.lines a.days a.lo a.hi (.slice Aa a.daily.length ca) a.holder)).setRow (w.heap.size + 1) (arow b.none b.zones b.lines b.days b.lo b.hi (.slice Ab b.daily.length cb) b.holder)) (fun k => w.heap.size ≤ k ∧ k ≠ gd) x m := fun hx => (Av.keep (w' := ((p2.drew.setRow w.heap.size (arow a.none a.zones a.lines a.days a.lo a.hi (.slice Aa a.daily.length ca) a.holder)).setRow (w.heap.size + 1) (arow b.none b.zones b.lines b.days b.lo b.hi (.slice Ab b.daily.length cb) b.holder))) hx (by simp) fun k _ hk => (setRow_other _ (w.heap.size + 1) k _ (by omega)).trans ((setRow_other p2.drew w.heap.size k _ (by omega)))).mono fun k _ hk => ⟨by omega, hk.2⟩
  have hk1 := keep HAA.out
  have hk2 := keep HBB.out
  have hdk : Deck gd ((p2.drew.setRow w.heap.size (arow a.none a.zones a.lines a.days a.lo a.hi (.slice Aa a.daily.length ca) a.holder)).setRow (w.heap.size + 1) (arow b.none b.zones b.lines b.days b.lo b.hi (.slice Ab b.daily.length cb) b.holder)) := Deck.setRow (Deck.setRow HDK.out.drew HDI.out (by omega) (fun k hk => by omega) _) (DeckIn.setRow HDI.out (by omega) _) (by omega) (fun k hk => by omega) _
  have hbl : Below w.heap.size w ((p2.drew.setRow w.heap.size (arow a.none a.zones a.lines a.days a.lo a.hi (.slice Aa a.daily.length ca) a.holder)).setRow (w.heap.size + 1) (arow b.none b.zones b.lines b.days b.lo b.hi (.slice Ab b.daily.length cb) b.holder)) := below_setRow (below_setRow HB.out.drew (Nat.le_refl _) _) (by omega) _
  have HK : Hid _ := Lib.hid (And.intro hk1 (And.intro hk2 (And.intro hdk hbl)))
  clear hf1 hf2 keep hk1 hk2 hdk hbl
  go_wp2_with fail
  refine bodyPost_ret (results_made Try.results9 _ rfl rfl _ rfl rfl rfl HF.out.1 HF.out.2) rfl ?_
  exact ⟨⟨_, _, a, b, gd, rfl, HK.out.1, HK.out.2.1, HS1.out, HS2.out, HK.out.2.2.1, by omega⟩, HK.out.2.2.2⟩
end Go.Proofs.Ytedjbjplnjnnlaa
namespace Go.Proofs.Ytedjbjplnjnnlaa
open Go Go.RowKit Sh Leaf

theorem rofc_ : RofC := fun l A k Q w h => rof l A k Q w h
end Go.Proofs.Ytedjbjplnjnnlaa
