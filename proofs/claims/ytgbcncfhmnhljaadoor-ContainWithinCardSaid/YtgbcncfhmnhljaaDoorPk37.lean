/-
  The laws' helper made of stage 9: two valid authorities off one deck, the second one often close to the first one.
-/
import Derived.Deep.DeepCutAuto
import Derived.Deep.CutBlock
import Derived.Test.YtgbcncfhmnhljaaDoorPk32
import Derived.Test.YtgbcncfhmnhljaaDoorPk22
import Derived.Test.YtgbcncfhmnhljaaDoorPk35
import Derived.Test.YtgbcncfhmnhljaaDoorKAnyG
import Derived.Test.YtgbcncfhmnhljaaDoorPk36
namespace Go.Proofs.YtgbcncfhmnhljaaDoor
open Go Go.RowKit Sh Leaf

theorem results_made {w : World} {fn : Func} {g1 g2 : Nat} {p q r : Tmp} (h : fn.results = #[.cell p 25, .cell q 25, .tmp r]) (tmps : Array Value) (hp : tmps.getD p undef = .pointer (some ⟨g1, 0, none⟩)) (hq : tmps.getD q undef = .pointer (some ⟨g2, 0, none⟩)) (x : Value) (hr : tmps.getD r undef = x) {c1 c2 : Array Value} (h1 : c1.size = 8) (h2 : c2.size = 8) (hg1 : Whole w g1 25 c1) (hg2 : Whole w g2 25 c2) :
    (results fn tmps).run Tryd.prog w = .ok (.tuple #[.agg c1, .agg c2, x]) w := by
  have hp' : tmps[p]?.getD undef = .pointer (some ⟨g1, 0, none⟩) := by simpa using hp
  have hq' : tmps[q]?.getD undef = .pointer (some ⟨g2, 0, none⟩) := by simpa using hq
  have hr' : tmps[r]?.getD undef = x := by simpa using hr
  simp [results, h, hp', hq', hr', asAddr, run_loadVar_row w g1 25 25 _ (0, 0) _ hg1 Tryd.underlying25 rfl (by rw [autSize, h1]), run_loadVar_row w g2 25 25 _ (0, 0) _ hg2 Tryd.underlying25 rfl (by rw [autSize, h2])]
def MadeP (w : World) (e : Ending) (w' : World) : Prop := ∃ x y a b g, e = .returned (.tuple #[x, y, .pointer (some ⟨g, 0, none⟩)]) ∧ Av w' (fun k => w.heap.size ≤ k ∧ k ≠ g) x a ∧ Av w' (fun k => w.heap.size ≤ k ∧ k ≠ g) y b ∧ aok a ∧ aok b ∧ Deck g w' ∧ w.heap.size ≤ g
theorem mem_two {lk ll : List Prd} {R : Prd → Prop} (h1 : ∀ p ∈ lk, R p) (h2 : ∀ p ∈ ll, R p) : ∀ p ∈ [] ++ lk ++ ll, R p := by
  intro p hp
  simp only [List.nil_append, List.mem_append] at hp
  exact hp.elim (h1 p) (h2 p)
set_option linter.unusedSimpArgs false in
set_option maxRecDepth 100000 in
set_option maxHeartbeats 8000000 in
theorem cmade (A0 : Option Addr) (l0 : List Int) (c0 : Nat) (w : World) (hI0 : Ints w (fun b => b < w.heap.size) A0 c0 l0) :
    Calls Tryd.prog 6 #[.slice A0 l0.length c0] w fun e w' => MadeP w e w' ∧ Below w.heap.size w w' := by
  obtain ⟨n0, hn0⟩ : ∃ n, n = l0.length := ⟨_, rfl⟩
  rw [← hn0]
  obtain ⟨w0, hw0⟩ : ∃ w0, w0 = (w.alloc (.cells #[.bool false, .int .u64 0, .int .u64 0, .int .u64 0, .int .i64 0, .int .i64 0, .slice none 0 0, .string { data := #[] }] 25)).alloc (.cells #[.bool false, .int .u64 0, .int .u64 0, .int .u64 0, .int .i64 0, .int .i64 0, .slice none 0 0, .string { data := #[] }] 25) := ⟨_, rfl⟩
  have hsz : w0.heap.size = w.heap.size + 2 := by rw [hw0]; simp
  have hb0 : Below w.heap.size w w0 := by rw [hw0]; exact ab_below w _ _
  have HZ1 : Hid (Whole w0 w.heap.size 25 #[.bool false, .int .u64 0, .int .u64 0, .int .u64 0, .int .i64 0, .int .i64 0, .slice none 0 0, .string { data := #[] }]) := Lib.hid (by rw [hw0]; exact (Whole.here _ _ _).alloc _)
  have HZ2 : Hid (Whole w0 (w.heap.size + 1) 25 #[.bool false, .int .u64 0, .int .u64 0, .int .u64 0, .int .i64 0, .int .i64 0, .slice none 0 0, .string { data := #[] }]) := Lib.hid (by rw [hw0]; exact Whole.at_ _ _ _ _ (by simp))
  have hI1 : Ints w0 (fun b => b < w0.heap.size) A0 c0 l0 := (hI0.below hb0).mono hb0.size
  have hd := dnew_in A0 n0 c0 l0 w0 hn0 hI1 (fun b => b < w.heap.size) (fun h => by
    obtain ⟨b, o, e, q, _⟩ := hI0.2.2.2.2 (by omega)
    exact ⟨b, o, e, q⟩)
  have HB0 := Lib.hid hb0
  obtain ⟨gd, hgd⟩ : ∃ g, g = w0.heap.size := ⟨_, rfl⟩
  rw [← hgd] at hd
  have HG : Hid (gd = w.heap.size + 2 ∧ gd = w0.heap.size) := Lib.hid ⟨by omega, hgd⟩
  clear hI0 hI1 hn0 hb0 hsz hgd
  go_enter Tryd.func6, Tryd.ntmps6
  go_upto_region 1 with fail
  rw [← hw0]
  clear hw0
  go_wp2_with fail
  refine hd.mono ?_
  rintro e w1 ⟨rfl, hk1, hi1, hb1⟩
  have hps := dpreds 4 (by omega) _ _ hk1
  rw [show ((4 : Nat) : Int) = 4 from rfl] at hps
  have HB1 : Hid (Below gd w0 w1) := Lib.hid hb1
  have HI1 : Hid (DeckIn (fun b => b < w.heap.size) gd w1) := Lib.hid hi1
  have HD1 : Hid (Deck gd w1) := Lib.hid hk1
  clear hd hk1 hb1 hi1
  go_wp2_with fail
  refine hps.mono ?_
  rintro e w2 ⟨v, lk, rfl, hk4, hlk, hown, ht2⟩
  obtain ⟨Ak, ck, rfl, hX⟩ := hown.prds (fun p hp => (hlk p hp).2)
  have hof := rof lk Ak ck _ w2 hX
  have HXK : Hid (Prds w2 (fun g => w1.heap.size ≤ g) Ak ck lk) := Lib.hid hX
  have HOKP : Hid (∀ p ∈ lk, pok p ∧ pbd p) := Lib.hid hlk
  have hlk4 : lk.length ≤ 4 := hk4
  have hg01 : gd < w1.heap.size := HD1.out.lt
  obtain ⟨nk, hnk⟩ : ∃ n, n = lk.length := ⟨_, rfl⟩
  rw [← hnk] at hof ⊢
  have HNK := Lib.hid hnk
  have HT2 := Lib.hid ht2
  have HL4 : Hid (lk.length ≤ 64) := Lib.hid (by omega)
  have HOK : Hid (∀ p ∈ lk, pok p) := Lib.hid fun p hp => (hlk p hp).1
  clear hps hlk hk4 hown ht2 hX hnk
  go_wp2_with fail
  refine hof.mono ?_
  rintro e u1 ⟨⟨x, a, er, rfl, hm, hr⟩, hb⟩
  obtain ⟨hs, rfl⟩ := of_ok hr HL4.out HOK.out
  obtain ⟨Aa, ca, rfl, hS, hab⟩ := hm
  obtain ⟨p1, hp⟩ : ∃ p, p = u1.alloc (.cells (avl a Aa ca) 25) := ⟨_, rfl⟩
  have hup : Below u1.heap.size u1 p1 := by rw [hp]; exact (Below.refl u1.heap.size u1).alloc (Nat.le_refl _) _
  have HE1 : Hid (Below w2.heap.size w2 p1) := Lib.hid (hb.trans (hup.mono hb.size))
  have HR1 : Hid (ARow p1 u1.heap.size a.none a.zones a.lines a.days a.lo a.hi (.slice Aa a.daily.length ca) a.holder) := Lib.hid (by rw [hp]; exact Whole.here _ _ _)
  have hg12 : gd < w2.heap.size := HT2.out.1.lt
  have HUS1 : Hid (w2.heap.size ≤ u1.heap.size) := Lib.hid hb.size
  have HA1 : Hid (Av p1 (fun k => w.heap.size + 2 ≤ k ∧ k ≠ gd) (.agg (avl a Aa ca)) a) := Lib.hid ⟨Aa, ca, rfl, (hS.below hup (Nat.le_refl _)).mono fun k _ hq => by
    have h1 : w2.heap.size ≤ k := hq
    have h2 := HG.out.1
    constructor <;> omega, hab⟩
  have HS1 : Hid (aok a) := Lib.hid hs.1
  have hdk : Deck gd p1 := HT2.out.1.below HE1.out hg12
  have HXK1 : Hid (Prds p1 (fun g => w1.heap.size ≤ g) Ak ck lk) := Lib.hid (HXK.out.keep HE1.out.size fun g hg _ => HE1.out.block g hg)
  have HDI1 : Hid (DeckIn (fun b => b < w.heap.size) gd p1) := Lib.hid ((HI1.out.oth HT2.out.2.2).below HE1.out hg12)
  have HZA : Hid (Whole p1 w.heap.size 25 #[.bool false, .int .u64 0, .int .u64 0, .int .u64 0, .int .i64 0, .int .i64 0, .slice none 0 0, .string { data := #[] }]) := Lib.hid (HZ1.out.below (HB1.out.trans (HT2.out.2.1.trans (HE1.out.mono (Nat.le_of_lt hg12)))) (by have := HG.out.1; omega))
  have HZB : Hid (Whole p1 (w.heap.size + 1) 25 #[.bool false, .int .u64 0, .int .u64 0, .int .u64 0, .int .i64 0, .int .i64 0, .slice none 0 0, .string { data := #[] }]) := Lib.hid (HZ2.out.below (HB1.out.trans (HT2.out.2.1.trans (HE1.out.mono (Nat.le_of_lt hg12)))) (by have := HG.out.1; omega))
  have HBL1 : Hid (Below w.heap.size w p1) := Lib.hid (HB0.out.trans ((HB1.out.trans (HT2.out.2.1.trans (HE1.out.mono (Nat.le_of_lt hg12)))).mono (by have := HG.out.1; omega)))
  have hgg : w.heap.size + 2 ≤ gd := by have := HG.out.1; omega
  have hus1 : w2.heap.size ≤ u1.heap.size := HUS1.out
  have hg2u : gd < u1.heap.size := by omega
  have hup1 : u1.heap.size < p1.heap.size := Whole.lt HR1.out
  have hps := dpreds 2 (by omega) _ _ hdk
  rw [show ((2 : Nat) : Int) = 2 from rfl] at hps
  clear hof hb hr hs hS hab hup hg12 HL4 HOK hdk HXK HI1 HZ1 HZ2 HB1 HB0 HT2 HE1 HUS1 HD1
  go_upto_region 4 with fail
  rw [← hp]
  clear hp
  go_wp2_with fail
  refine hps.mono ?_
  rintro e w3 ⟨v, ll, rfl, hl2, hll, hown, ht3⟩
  obtain ⟨Al, cl, rfl, hX⟩ := hown.prds (fun p hp => (hll p hp).2)
  obtain ⟨nl, hnl⟩ : ∃ n, n = ll.length := ⟨_, rfl⟩
  rw [← hnl]
  have HNL := Lib.hid hnl
  have HLL : Hid (∀ p ∈ ll, pok p ∧ pbd p) := Lib.hid hll
  have HXL : Hid (Prds w3 (fun g => p1.heap.size ≤ g) Al cl ll) := Lib.hid hX
  have HT3 := Lib.hid ht3
  have hd3 := ht3.1
  clear hps hll hown ht3 hX hnl
  go_wp2_with fail
  refine (dnext 2 (by omega) (by omega) _ _ hd3).mono ?_
  rintro e w4 ⟨i, hi2, rfl, ht4⟩
  have HT4 : Hid (Turn gd p1 w4) := Lib.hid (HT3.out.trans ht4)
  have hs34 : w3.heap.size ≤ w4.heap.size := ht4.2.1.size
  have hs14 : p1.heap.size ≤ w4.heap.size := HT4.out.2.1.size
  have HXL4 : Hid (Seq pcl pbd w4 (fun g => g < w4.heap.size) Al cl ll) := Lib.hid ((seq_oth (f := pcl) (ok := pbd) HXL.out ht4.2.2 ht4.2.1.size (fun b _ hb => by have h1 : p1.heap.size ≤ b := hb; omega)).mono fun g hg _ => hg)
  have HXK4 : Hid (Seq pcl pbd w4 (fun g => g < w4.heap.size) Ak ck lk) := Lib.hid ((seq_oth (f := pcl) (ok := pbd) HXK1.out HT4.out.2.2 hs14 (fun b _ hb => by have h1 : w1.heap.size ≤ b := hb; omega)).mono fun g hg _ => hg)
  have HR4 : Hid (ARow w4 u1.heap.size a.none a.zones a.lines a.days a.lo a.hi (.slice Aa a.daily.length ca) a.holder) := Lib.hid (HT4.out.2.2.oth _ _ _ (by omega) HR1.out)
  have HA4 : Hid (Av w4 (fun k => w.heap.size + 2 ≤ k ∧ k ≠ gd) (.agg (avl a Aa ca)) a) := Lib.hid (HA1.out.oth HT4.out.2.2 hs14 (fun k _ hq => hq.2))
  have HZA4 : Hid (Whole w4 w.heap.size 25 #[.bool false, .int .u64 0, .int .u64 0, .int .u64 0, .int .i64 0, .int .i64 0, .slice none 0 0, .string { data := #[] }]) := Lib.hid (HT4.out.2.2.oth _ _ _ (by omega) HZA.out)
  have HZB4 : Hid (Whole w4 (w.heap.size + 1) 25 #[.bool false, .int .u64 0, .int .u64 0, .int .u64 0, .int .i64 0, .int .i64 0, .slice none 0 0, .string { data := #[] }]) := Lib.hid (HT4.out.2.2.oth _ _ _ (by omega) HZB.out)
  have HD4 : Hid (Deck gd w4) := Lib.hid ht4.1
  have HDI4 : Hid (DeckIn (fun b => b < w.heap.size) gd w4) := Lib.hid (HDI1.out.oth HT4.out.2.2)
  have HBL4 : Hid (Below w.heap.size w w4) := Lib.hid (HBL1.out.trans (HT4.out.2.1.mono (by omega)))
  have hu14 : u1.heap.size < w4.heap.size := by omega
  clear ht4 hd3 HT3 HXL HXK1 HR1 HA1 HZA HZB HDI1 HBL1 HT4
  obtain ⟨E, hE⟩ : ∃ E, ((i : Int) == 0) = E := ⟨_, rfl⟩
  go_upto_if 25 with fail
  go_cut [9] (fun s wx => ∃ (AL : Option Addr) (cL nL : Nat) (L : List Prd), s = .slice AL nL cL ∧ nL = L.length ∧ L.length ≤ 64 ∧ (∀ p ∈ L, pok p) ∧ Prds wx (fun g => g < wx.heap.size) AL cL L ∧ Below w4.heap.size w4 wx)
  case first =>
    rcases (by omega : i = 0 ∨ i = 1) with rfl | rfl
    · have hE' : E = true := by rw [← hE]; rfl
      subst hE'
      clear hE
      have HE0 : Hid (OwnP (w4.alloc (.cells #[] 41)) w4.heap.size (.slice (some ⟨w4.heap.size, 0, none⟩) 0 0) []) := Lib.hid (ownp_empty (pblk_new _ _ _ rfl) (Nat.le_refl _))
      have HE1 : Hid (Below w4.heap.size w4 (w4.alloc (.cells #[] 41))) := Lib.hid ((Below.refl w4.heap.size w4).alloc (Nat.le_refl _) _)
      have HSK : Hid (∀ W, Below w4.heap.size w4 W → Seq pcl pbd W (fun g => g < w4.heap.size) Ak ck lk) := Lib.hid fun W hb => HXK4.out.keep hb.size fun g _ hq => hb.block g hq
      have HSL : Hid (∀ W, Below w4.heap.size w4 W → Seq pcl pbd W (fun g => g < w4.heap.size) Al cl ll) := Lib.hid fun W hb => HXL4.out.keep hb.size fun g _ hq => hb.block g hq
      have hkl : lk.length ≤ 4 := hlk4
      have hll2 : ll.length ≤ 2 := hl2
      clear HXK4 HXL4
      go_upto_region 7 with (first
        | (have gg := HB5; at_builtin; go_must (refine wpList_append_seq (f := pcl) (n := 6) rfl _ _ 42 41 _ 56 rfl Tryd.underlying42 prdInfo rfl (by decide) (by decide) pcl_length pcl_one w4.heap.size _ ([] ++ lk) rfl HO5.out (fun g => g < w4.heap.size) _ nl cl ll HNL.out.symm rfl (HSL.out _ HB5.out) (by simp <;> omega) (Below.size HB5.out) ?_; intro v6 w6 ho hb hg; have HB6 : Hid (Below w4.heap.size w4 w6) := Lib.hid (Below.trans HB5.out hb); have HO6 : Hid (OwnP w6 w4.heap.size v6 ([] ++ lk ++ ll)) := Lib.hid ho; clear ho hb hg))
        | (at_builtin; go_must (refine wpList_append_seq (f := pcl) (n := 6) rfl _ _ 42 41 _ 56 rfl Tryd.underlying42 prdInfo rfl (by decide) (by decide) pcl_length pcl_one w4.heap.size _ ([]) rfl HE0.out (fun g => g < w4.heap.size) _ nk ck lk HNK.out.symm rfl (HSK.out _ HE1.out) (by simp <;> omega) (Below.size HE1.out) ?_; intro v5 w5 ho hb hg; have HB5 : Hid (Below w4.heap.size w4 w5) := Lib.hid (Below.trans HE1.out hb); have HO5 : Hid (OwnP w5 w4.heap.size v5 ([] ++ lk)) := Lib.hid ho; clear ho hb hg)))
      go_meet
      obtain ⟨AL, cL, e1, hXL⟩ := OwnP.prds HO6.out (mem_two (fun p hp => (HOKP.out p hp).2) (fun p hp => (HLL.out p hp).2))
      exact ⟨AL, cL, _, _, e1, rfl, by simp only [List.nil_append, List.length_append]; omega, mem_two (fun p hp => (HOKP.out p hp).1) (fun p hp => (HLL.out p hp).1), Prds.mono hXL (fun g hg _ => hg), HB6.out⟩
    · have hE' : E = false := by rw [← hE]; rfl
      subst hE'
      clear hE
      go_wp2_with fail
      go_meet
      exact ⟨Al, cl, nl, ll, rfl, HNL.out, by omega, fun p hp => (HLL.out p hp).1, HXL4.out, Below.refl _ _⟩
  case rest =>
    obtain ⟨AL, cL, nL, L, rfl, hnL, hL64, hLok, hXL, hbc⟩ := hcut
    have hof := rof L AL cL _ wc hXL
    rw [← hnL] at hof
    have HLK := Lib.hid (And.intro hL64 hLok)
    have HBC := Lib.hid hbc
    clear hXL hnL hL64 hLok hbc HXK4 HXL4
    go_wp2_with fail
    refine hof.mono ?_
    rintro e u2 ⟨⟨x, b, er, rfl, hm, hr⟩, hb⟩
    obtain ⟨hs, rfl⟩ := of_ok hr HLK.out.1 HLK.out.2
    obtain ⟨Ab, cb, rfl, hS, hbb⟩ := hm
    obtain ⟨p2, hp⟩ : ∃ p, p = u2.alloc (.cells (avl b Ab cb) 25) := ⟨_, rfl⟩
    have hup : Below u2.heap.size u2 p2 := by rw [hp]; exact (Below.refl u2.heap.size u2).alloc (Nat.le_refl _) _
    have hE2 : Below w4.heap.size w4 p2 := HBC.out.trans ((hb.trans (hup.mono hb.size)).mono HBC.out.size)
    have hcs : w4.heap.size ≤ wc.heap.size := HBC.out.size
    have hcu : wc.heap.size ≤ u2.heap.size := hb.size
    have hr2 : ARow p2 u2.heap.size b.none b.zones b.lines b.days b.lo b.hi (.slice Ab b.daily.length cb) b.holder := by rw [hp]; exact Whole.here _ _ _
    have hg4 : gd < w4.heap.size := HD4.out.lt
    have HRB2 := Lib.hid hr2
    have HRA2 : Hid (ARow p2 u1.heap.size a.none a.zones a.lines a.days a.lo a.hi (.slice Aa a.daily.length ca) a.holder) := Lib.hid (Whole.below HR4.out hE2 hu14)
    have HAA2 : Hid (Av p2 (fun k => w.heap.size + 2 ≤ k ∧ k ≠ gd) (.agg (avl a Aa ca)) a) := Lib.hid (HA4.out.below hE2 (Nat.le_refl _))
    have HBB2 : Hid (Av p2 (fun k => w.heap.size + 2 ≤ k ∧ k ≠ gd) (.agg (avl b Ab cb)) b) := Lib.hid ⟨Ab, cb, rfl, (hS.below hup (Nat.le_refl _)).mono fun k _ hq => by
      have h1 : wc.heap.size ≤ k := hq
      constructor <;> omega, hbb⟩
    have HZA2 : Hid (Whole p2 w.heap.size 25 #[.bool false, .int .u64 0, .int .u64 0, .int .u64 0, .int .i64 0, .int .i64 0, .slice none 0 0, .string { data := #[] }]) := Lib.hid (HZA4.out.below hE2 (Whole.lt HZA4.out))
    have HZB2 : Hid (Whole p2 (w.heap.size + 1) 25 #[.bool false, .int .u64 0, .int .u64 0, .int .u64 0, .int .i64 0, .int .i64 0, .slice none 0 0, .string { data := #[] }]) := Lib.hid (HZB4.out.below hE2 (Whole.lt HZB4.out))
    have hdk : Deck gd p2 := HD4.out.below hE2 hg4
    have HDI2 : Hid (DeckIn (fun b => b < w.heap.size) gd p2) := Lib.hid (HDI4.out.below hE2 hg4)
    have HBL2 : Hid (Below w.heap.size w p2) := Lib.hid (HBL4.out.trans (hE2.mono (by omega)))
    have HSB := Lib.hid hs.1
    have hu2p : u2.heap.size < p2.heap.size := Whole.lt hr2
    clear hof hb hr hs hS hbb hup hE2 hr2 HR4 HA4 HZA4 HZB4 HD4 HDI4 HBL4 HBC HLK
    go_upto_region 8 with fail
    rw [← hp]
    clear hp
    go_wp2_with fail
    refine (dnext 2 (by omega) (by omega) _ _ hdk).mono ?_
    rintro e p3 ⟨j, hj2, rfl, ht5⟩
    have hs5 : p2.heap.size ≤ p3.heap.size := ht5.2.1.size
    have hrA : ARow p3 u1.heap.size a.none a.zones a.lines a.days a.lo a.hi (.slice Aa a.daily.length ca) a.holder := ht5.2.2.oth _ _ _ (by omega) HRA2.out
    have hrB : ARow p3 u2.heap.size b.none b.zones b.lines b.days b.lo b.hi (.slice Ab b.daily.length cb) b.holder := ht5.2.2.oth _ _ _ (by omega) HRB2.out
    have HAA : Hid (Av p3 (fun k => w.heap.size + 2 ≤ k ∧ k ≠ gd) (.agg (avl a Aa ca)) a) := Lib.hid (HAA2.out.oth ht5.2.2 hs5 (fun k _ hq => hq.2))
    have HBB : Hid (Av p3 (fun k => w.heap.size + 2 ≤ k ∧ k ≠ gd) (.agg (avl b Ab cb)) b) := Lib.hid (HBB2.out.oth ht5.2.2 hs5 (fun k _ hq => hq.2))
    have HZ1' : Hid (Whole p3 w.heap.size 25 #[.bool false, .int .u64 0, .int .u64 0, .int .u64 0, .int .i64 0, .int .i64 0, .slice none 0 0, .string { data := #[] }]) := Lib.hid (ht5.2.2.oth _ _ _ (by omega) HZA2.out)
    have HZ2' : Hid (Whole p3 (w.heap.size + 1) 25 #[.bool false, .int .u64 0, .int .u64 0, .int .u64 0, .int .i64 0, .int .i64 0, .slice none 0 0, .string { data := #[] }]) := Lib.hid (ht5.2.2.oth _ _ _ (by omega) HZB2.out)
    have HDK : Hid (Deck gd p3) := Lib.hid ht5.1
    have HDI : Hid (DeckIn (fun b => b < w.heap.size) gd p3) := Lib.hid (HDI2.out.oth ht5.2.2)
    have HB : Hid (Below w.heap.size w p3) := Lib.hid (HBL2.out.trans (ht5.2.1.mono (by omega)))
    have hwp : w.heap.size + 2 < p3.heap.size := by omega
    have HRA := Lib.hid hrA
    have HRB := Lib.hid hrB
    clear ht5 hdk HRA2 HRB2 HAA2 HBB2 HZA2 HZB2 HDI2 HBL2 hrA hrB
    rcases (by omega : j = 0 ∨ j = 1) with rfl | rfl
    · skip
      have HY1 : Hid ((p3.drew.setRow w.heap.size (arow b.none b.zones b.lines b.days b.lo b.hi (.slice Ab b.daily.length cb) b.holder)).cell? ⟨u1.heap.size, 0, none⟩ = some (.bool a.none) ∧ (p3.drew.setRow w.heap.size (arow b.none b.zones b.lines b.days b.lo b.hi (.slice Ab b.daily.length cb) b.holder)).cell? ⟨u1.heap.size, 1, none⟩ = some (.int .u64 (a.zones : Int)) ∧ (p3.drew.setRow w.heap.size (arow b.none b.zones b.lines b.days b.lo b.hi (.slice Ab b.daily.length cb) b.holder)).cell? ⟨u1.heap.size, 2, none⟩ = some (.int .u64 (a.lines : Int)) ∧ (p3.drew.setRow w.heap.size (arow b.none b.zones b.lines b.days b.lo b.hi (.slice Ab b.daily.length cb) b.holder)).cell? ⟨u1.heap.size, 3, none⟩ = some (.int .u64 (a.days : Int)) ∧ (p3.drew.setRow w.heap.size (arow b.none b.zones b.lines b.days b.lo b.hi (.slice Ab b.daily.length cb) b.holder)).cell? ⟨u1.heap.size, 4, none⟩ = some (.int .i64 a.lo) ∧ (p3.drew.setRow w.heap.size (arow b.none b.zones b.lines b.days b.lo b.hi (.slice Ab b.daily.length cb) b.holder)).cell? ⟨u1.heap.size, 5, none⟩ = some (.int .i64 a.hi) ∧ (p3.drew.setRow w.heap.size (arow b.none b.zones b.lines b.days b.lo b.hi (.slice Ab b.daily.length cb) b.holder)).cell? ⟨u1.heap.size, 6, none⟩ = some (.slice Aa a.daily.length ca) ∧ (p3.drew.setRow w.heap.size (arow b.none b.zones b.lines b.days b.lo b.hi (.slice Ab b.daily.length cb) b.holder)).cell? ⟨u1.heap.size, 7, none⟩ = some (.string (sof a.holder))) := Lib.hid (ARow.cells (Whole.setRow_far (Whole.drew HRA.out) (g' := w.heap.size) (by omega) (arow b.none b.zones b.lines b.days b.lo b.hi (.slice Ab b.daily.length cb) b.holder)))
      have HY2 : Hid (((p3.drew.setRow w.heap.size (arow b.none b.zones b.lines b.days b.lo b.hi (.slice Ab b.daily.length cb) b.holder)).setRow (w.heap.size + 1) (arow a.none a.zones a.lines a.days a.lo a.hi (.slice Aa a.daily.length ca) a.holder)).cell? ⟨u1.heap.size, 0, none⟩ = some (.bool a.none) ∧ ((p3.drew.setRow w.heap.size (arow b.none b.zones b.lines b.days b.lo b.hi (.slice Ab b.daily.length cb) b.holder)).setRow (w.heap.size + 1) (arow a.none a.zones a.lines a.days a.lo a.hi (.slice Aa a.daily.length ca) a.holder)).cell? ⟨u1.heap.size, 1, none⟩ = some (.int .u64 (a.zones : Int)) ∧ ((p3.drew.setRow w.heap.size (arow b.none b.zones b.lines b.days b.lo b.hi (.slice Ab b.daily.length cb) b.holder)).setRow (w.heap.size + 1) (arow a.none a.zones a.lines a.days a.lo a.hi (.slice Aa a.daily.length ca) a.holder)).cell? ⟨u1.heap.size, 2, none⟩ = some (.int .u64 (a.lines : Int)) ∧ ((p3.drew.setRow w.heap.size (arow b.none b.zones b.lines b.days b.lo b.hi (.slice Ab b.daily.length cb) b.holder)).setRow (w.heap.size + 1) (arow a.none a.zones a.lines a.days a.lo a.hi (.slice Aa a.daily.length ca) a.holder)).cell? ⟨u1.heap.size, 3, none⟩ = some (.int .u64 (a.days : Int)) ∧ ((p3.drew.setRow w.heap.size (arow b.none b.zones b.lines b.days b.lo b.hi (.slice Ab b.daily.length cb) b.holder)).setRow (w.heap.size + 1) (arow a.none a.zones a.lines a.days a.lo a.hi (.slice Aa a.daily.length ca) a.holder)).cell? ⟨u1.heap.size, 4, none⟩ = some (.int .i64 a.lo) ∧ ((p3.drew.setRow w.heap.size (arow b.none b.zones b.lines b.days b.lo b.hi (.slice Ab b.daily.length cb) b.holder)).setRow (w.heap.size + 1) (arow a.none a.zones a.lines a.days a.lo a.hi (.slice Aa a.daily.length ca) a.holder)).cell? ⟨u1.heap.size, 5, none⟩ = some (.int .i64 a.hi) ∧ ((p3.drew.setRow w.heap.size (arow b.none b.zones b.lines b.days b.lo b.hi (.slice Ab b.daily.length cb) b.holder)).setRow (w.heap.size + 1) (arow a.none a.zones a.lines a.days a.lo a.hi (.slice Aa a.daily.length ca) a.holder)).cell? ⟨u1.heap.size, 6, none⟩ = some (.slice Aa a.daily.length ca) ∧ ((p3.drew.setRow w.heap.size (arow b.none b.zones b.lines b.days b.lo b.hi (.slice Ab b.daily.length cb) b.holder)).setRow (w.heap.size + 1) (arow a.none a.zones a.lines a.days a.lo a.hi (.slice Aa a.daily.length ca) a.holder)).cell? ⟨u1.heap.size, 7, none⟩ = some (.string (sof a.holder))) := Lib.hid (ARow.cells (Whole.setRow_far (Whole.setRow_far (Whole.drew HRA.out) (g' := w.heap.size) (by omega) (arow b.none b.zones b.lines b.days b.lo b.hi (.slice Ab b.daily.length cb) b.holder)) (g' := w.heap.size + 1) (by omega) (arow a.none a.zones a.lines a.days a.lo a.hi (.slice Aa a.daily.length ca) a.holder)))
      obtain ⟨x0, x1, x2, x3, x4, x5, x6, x7⟩ := ARow.cells HRB.out
      obtain ⟨y0, y1, y2, y3, y4, y5, y6, y7⟩ := ARow.cells HRA.out
      go_upto_region 9 with fail
      refine wp_region_G (fun W : World => W.cell? ⟨u2.heap.size, 0, none⟩ = some (.bool b.none) ∧ W.cell? ⟨u2.heap.size, 1, none⟩ = some (.int .u64 (b.zones : Int)) ∧ W.cell? ⟨u2.heap.size, 2, none⟩ = some (.int .u64 (b.lines : Int)) ∧ W.cell? ⟨u2.heap.size, 3, none⟩ = some (.int .u64 (b.days : Int)) ∧ W.cell? ⟨u2.heap.size, 4, none⟩ = some (.int .i64 b.lo) ∧ W.cell? ⟨u2.heap.size, 5, none⟩ = some (.int .i64 b.hi) ∧ W.cell? ⟨u2.heap.size, 6, none⟩ = some (.slice Ab b.daily.length cb) ∧ W.cell? ⟨u2.heap.size, 7, none⟩ = some (.string (sof b.holder))) (fun W : World => W.cell? ⟨u1.heap.size, 0, none⟩ = some (.bool a.none) ∧ W.cell? ⟨u1.heap.size, 1, none⟩ = some (.int .u64 (a.zones : Int)) ∧ W.cell? ⟨u1.heap.size, 2, none⟩ = some (.int .u64 (a.lines : Int)) ∧ W.cell? ⟨u1.heap.size, 3, none⟩ = some (.int .u64 (a.days : Int)) ∧ W.cell? ⟨u1.heap.size, 4, none⟩ = some (.int .i64 a.lo) ∧ W.cell? ⟨u1.heap.size, 5, none⟩ = some (.int .i64 a.hi) ∧ W.cell? ⟨u1.heap.size, 6, none⟩ = some (.slice Aa a.daily.length ca) ∧ W.cell? ⟨u1.heap.size, 7, none⟩ = some (.string (sof a.holder))) [3] (by kernel_rfl) ?_
      have hHeld : (fun W : World => W.cell? ⟨u2.heap.size, 0, none⟩ = some (.bool b.none) ∧ W.cell? ⟨u2.heap.size, 1, none⟩ = some (.int .u64 (b.zones : Int)) ∧ W.cell? ⟨u2.heap.size, 2, none⟩ = some (.int .u64 (b.lines : Int)) ∧ W.cell? ⟨u2.heap.size, 3, none⟩ = some (.int .u64 (b.days : Int)) ∧ W.cell? ⟨u2.heap.size, 4, none⟩ = some (.int .i64 b.lo) ∧ W.cell? ⟨u2.heap.size, 5, none⟩ = some (.int .i64 b.hi) ∧ W.cell? ⟨u2.heap.size, 6, none⟩ = some (.slice Ab b.daily.length cb) ∧ W.cell? ⟨u2.heap.size, 7, none⟩ = some (.string (sof b.holder))) (p3.drew) := ⟨x0, x1, x2, x3, x4, x5, x6, x7⟩
      have hBeld : (fun W : World => W.cell? ⟨u1.heap.size, 0, none⟩ = some (.bool a.none) ∧ W.cell? ⟨u1.heap.size, 1, none⟩ = some (.int .u64 (a.zones : Int)) ∧ W.cell? ⟨u1.heap.size, 2, none⟩ = some (.int .u64 (a.lines : Int)) ∧ W.cell? ⟨u1.heap.size, 3, none⟩ = some (.int .u64 (a.days : Int)) ∧ W.cell? ⟨u1.heap.size, 4, none⟩ = some (.int .i64 a.lo) ∧ W.cell? ⟨u1.heap.size, 5, none⟩ = some (.int .i64 a.hi) ∧ W.cell? ⟨u1.heap.size, 6, none⟩ = some (.slice Aa a.daily.length ca) ∧ W.cell? ⟨u1.heap.size, 7, none⟩ = some (.string (sof a.holder))) (p3.drew) := ⟨y0, y1, y2, y3, y4, y5, y6, y7⟩
      apply AnyG_take (i := 0) rfl (by kernel_rfl) (by kernel_rfl) (by kernel_rfl) (by kernel_rfl)
      case hQ => exact fun _ _ _ h => h
      case hB => exact hBeld
      case hC => exact hHeld
      case hy => (refine Or.inl ⟨by rfl, ?_⟩; intro w hSw; (try go_split_ands); go_simp; (try with_reducible rfl))
      (try simp only [List.getElem_toArray, List.getElem_cons_zero, Act.put, List.setIfInBounds_toArray, List.set_cons_zero, List.set_cons_succ])
      apply AnyG_pure (i := 1) rfl (by kernel_rfl) (by kernel_rfl) (by kernel_rfl) (by kernel_rfl)
      case hQ => exact fun _ _ _ h => h
      case hB => exact hBeld
      case hC => exact .inr hHeld
      case hy => (refine Or.inl ⟨by rfl, ?_⟩; intro w hSw; (try go_split_ands); go_simp; (try with_reducible rfl))
      (try simp only [List.getElem_toArray, List.getElem_cons_succ, List.getElem_cons_zero, Act.put, List.setIfInBounds_toArray, List.set_cons_zero, List.set_cons_succ])
      apply AnyG_pure (i := 2) rfl (by kernel_rfl) (by kernel_rfl) (by kernel_rfl) (by kernel_rfl)
      case hQ => exact fun _ _ _ h => h
      case hB => exact hBeld
      case hC => exact .inr hHeld
      case hy => (refine Or.inl ⟨by rfl, ?_⟩; intro w hSw; (try go_split_ands); go_simp; (try with_reducible rfl))
      (try simp only [List.getElem_toArray, List.getElem_cons_succ, List.getElem_cons_zero, Act.put, List.setIfInBounds_toArray, List.set_cons_zero, List.set_cons_succ])
      refine AnyG_one (i := 3) (by kernel_rfl) rfl (fun K hK => ?_)
      (try simp only [List.getElem_toArray, List.getElem_cons_succ, List.getElem_cons_zero])
      rw [if_pos (by kernel_rfl)]
      refine wp_store_row 25 _ _ rfl w.heap.size _ rfl rfl 25 _ (Whole.drew HZ1'.out) (by kernel_rfl) rfl (by with_unfolding_all rfl) ?_
      clear hHeld
      refine hK.out _ _ (.inl (by kernel_rfl)) (by first | exact HY1.out | exact HY2.out) ?_
      clear hK K
      (try simp only [List.getElem_toArray, List.getElem_cons_succ, List.getElem_cons_zero, Act.put, List.setIfInBounds_toArray, List.set_cons_zero, List.set_cons_succ])
      refine AnyG_one (i := 4) (by kernel_rfl) rfl (fun K hK => ?_)
      (try simp only [List.getElem_toArray, List.getElem_cons_succ, List.getElem_cons_zero])
      rw [if_pos (by kernel_rfl)]
      refine wp_store_row 25 _ _ rfl (w.heap.size + 1) _ rfl rfl 25 _ (Whole.setRow_far (Whole.drew HZ2'.out) (by omega) _) (by kernel_rfl) rfl (by with_unfolding_all rfl) ?_
      refine hK.out _ _ (.inl (by kernel_rfl)) (by first | exact HY1.out | exact HY2.out) ?_
      clear hK K
      (try simp only [List.getElem_toArray, List.getElem_cons_succ, List.getElem_cons_zero, Act.put, List.setIfInBounds_toArray, List.set_cons_zero, List.set_cons_succ])
      apply AnyG_pure (i := 5) rfl (by kernel_rfl) (by kernel_rfl) (by kernel_rfl) (by kernel_rfl)
      case hQ => exact fun _ _ _ h => h
      case hB => exact (by first | exact HY1.out | exact HY2.out)
      case hC => exact .inl (by kernel_rfl)
      case hy => (refine Or.inl ⟨by rfl, ?_⟩; intro w hSw; (try go_split_ands); go_simp; (try with_reducible rfl))
      (try simp only [List.getElem_toArray, List.getElem_cons_succ, List.getElem_cons_zero, Act.put, List.setIfInBounds_toArray, List.set_cons_zero, List.set_cons_succ])
      refine AnyG_done (by kernel_rfl) ?_ _
      clear hBeld
      clear x0 x1 x2 x3 x4 x5 x6 x7 y0 y1 y2 y3 y4 y5 y6 y7 HY1 HY2
      have hq1 : w.heap.size ≠ w.heap.size + 1 := by omega
      have hf1 : Whole ((p3.drew.setRow w.heap.size (arow b.none b.zones b.lines b.days b.lo b.hi (.slice Ab b.daily.length cb) b.holder)).setRow (w.heap.size + 1) (arow a.none a.zones a.lines a.days a.lo a.hi (.slice Aa a.daily.length ca) a.holder)) w.heap.size 25 (arow b.none b.zones b.lines b.days b.lo b.hi (.slice Ab b.daily.length cb) b.holder) := Whole.setRow_far (Whole.setRow (Whole.drew HZ1'.out) _) hq1 _
      have hf2 : Whole ((p3.drew.setRow w.heap.size (arow b.none b.zones b.lines b.days b.lo b.hi (.slice Ab b.daily.length cb) b.holder)).setRow (w.heap.size + 1) (arow a.none a.zones a.lines a.days a.lo a.hi (.slice Aa a.daily.length ca) a.holder)) (w.heap.size + 1) 25 (arow a.none a.zones a.lines a.days a.lo a.hi (.slice Aa a.daily.length ca) a.holder) := Whole.setRow (Whole.setRow_far (Whole.drew HZ2'.out) (Ne.symm hq1) _) _
      have HF : Hid _ := Lib.hid (And.intro hf1 hf2)
      have keep : ∀ {x : Value} {m : Aut}, Av p3 (fun k => w.heap.size + 2 ≤ k ∧ k ≠ gd) x m → Av ((p3.drew.setRow w.heap.size (arow b.none b.zones b.lines b.days b.lo b.hi (.slice Ab b.daily.length cb) b.holder)).setRow (w.heap.size + 1) (arow a.none a.zones a.lines a.days a.lo a.hi (.slice Aa a.daily.length ca) a.holder)) (fun k => w.heap.size ≤ k ∧ k ≠ gd) x m := fun hx => (Av.keep (w' := ((p3.drew.setRow w.heap.size (arow b.none b.zones b.lines b.days b.lo b.hi (.slice Ab b.daily.length cb) b.holder)).setRow (w.heap.size + 1) (arow a.none a.zones a.lines a.days a.lo a.hi (.slice Aa a.daily.length ca) a.holder))) hx (by simp) fun k _ hk => (setRow_other _ (w.heap.size + 1) k _ (by omega)).trans ((setRow_other p3.drew w.heap.size k _ (by omega)))).mono fun k _ hk => ⟨by omega, hk.2⟩
      have hk1 := keep HBB.out
      have hk2 := keep HAA.out
      have hdk : Deck gd ((p3.drew.setRow w.heap.size (arow b.none b.zones b.lines b.days b.lo b.hi (.slice Ab b.daily.length cb) b.holder)).setRow (w.heap.size + 1) (arow a.none a.zones a.lines a.days a.lo a.hi (.slice Aa a.daily.length ca) a.holder)) := Deck.setRow (Deck.setRow HDK.out.drew HDI.out (by omega) (fun k hk => by omega) _) (DeckIn.setRow HDI.out (by omega) _) (by omega) (fun k hk => by omega) _
      have hbl : Below w.heap.size w ((p3.drew.setRow w.heap.size (arow b.none b.zones b.lines b.days b.lo b.hi (.slice Ab b.daily.length cb) b.holder)).setRow (w.heap.size + 1) (arow a.none a.zones a.lines a.days a.lo a.hi (.slice Aa a.daily.length ca) a.holder)) := below_setRow (below_setRow HB.out.drew (Nat.le_refl _) _) (by omega) _
      have HK : Hid _ := Lib.hid (And.intro hk1 (And.intro hk2 (And.intro hdk hbl)))
      clear hf1 hf2 keep hk1 hk2 hdk hbl
      go_wp2_with fail
      refine bodyPost_ret (results_made Tryd.results6 _ rfl rfl _ rfl rfl rfl HF.out.1 HF.out.2) rfl ?_
      exact ⟨⟨_, _, b, a, gd, rfl, HK.out.1, HK.out.2.1, HSB.out, HS1.out, HK.out.2.2.1, by omega⟩, HK.out.2.2.2⟩
    · skip
      have HY1 : Hid ((p3.drew.setRow w.heap.size (arow a.none a.zones a.lines a.days a.lo a.hi (.slice Aa a.daily.length ca) a.holder)).cell? ⟨u2.heap.size, 0, none⟩ = some (.bool b.none) ∧ (p3.drew.setRow w.heap.size (arow a.none a.zones a.lines a.days a.lo a.hi (.slice Aa a.daily.length ca) a.holder)).cell? ⟨u2.heap.size, 1, none⟩ = some (.int .u64 (b.zones : Int)) ∧ (p3.drew.setRow w.heap.size (arow a.none a.zones a.lines a.days a.lo a.hi (.slice Aa a.daily.length ca) a.holder)).cell? ⟨u2.heap.size, 2, none⟩ = some (.int .u64 (b.lines : Int)) ∧ (p3.drew.setRow w.heap.size (arow a.none a.zones a.lines a.days a.lo a.hi (.slice Aa a.daily.length ca) a.holder)).cell? ⟨u2.heap.size, 3, none⟩ = some (.int .u64 (b.days : Int)) ∧ (p3.drew.setRow w.heap.size (arow a.none a.zones a.lines a.days a.lo a.hi (.slice Aa a.daily.length ca) a.holder)).cell? ⟨u2.heap.size, 4, none⟩ = some (.int .i64 b.lo) ∧ (p3.drew.setRow w.heap.size (arow a.none a.zones a.lines a.days a.lo a.hi (.slice Aa a.daily.length ca) a.holder)).cell? ⟨u2.heap.size, 5, none⟩ = some (.int .i64 b.hi) ∧ (p3.drew.setRow w.heap.size (arow a.none a.zones a.lines a.days a.lo a.hi (.slice Aa a.daily.length ca) a.holder)).cell? ⟨u2.heap.size, 6, none⟩ = some (.slice Ab b.daily.length cb) ∧ (p3.drew.setRow w.heap.size (arow a.none a.zones a.lines a.days a.lo a.hi (.slice Aa a.daily.length ca) a.holder)).cell? ⟨u2.heap.size, 7, none⟩ = some (.string (sof b.holder))) := Lib.hid (ARow.cells (Whole.setRow_far (Whole.drew HRB.out) (g' := w.heap.size) (by omega) (arow a.none a.zones a.lines a.days a.lo a.hi (.slice Aa a.daily.length ca) a.holder)))
      have HY2 : Hid (((p3.drew.setRow w.heap.size (arow a.none a.zones a.lines a.days a.lo a.hi (.slice Aa a.daily.length ca) a.holder)).setRow (w.heap.size + 1) (arow b.none b.zones b.lines b.days b.lo b.hi (.slice Ab b.daily.length cb) b.holder)).cell? ⟨u2.heap.size, 0, none⟩ = some (.bool b.none) ∧ ((p3.drew.setRow w.heap.size (arow a.none a.zones a.lines a.days a.lo a.hi (.slice Aa a.daily.length ca) a.holder)).setRow (w.heap.size + 1) (arow b.none b.zones b.lines b.days b.lo b.hi (.slice Ab b.daily.length cb) b.holder)).cell? ⟨u2.heap.size, 1, none⟩ = some (.int .u64 (b.zones : Int)) ∧ ((p3.drew.setRow w.heap.size (arow a.none a.zones a.lines a.days a.lo a.hi (.slice Aa a.daily.length ca) a.holder)).setRow (w.heap.size + 1) (arow b.none b.zones b.lines b.days b.lo b.hi (.slice Ab b.daily.length cb) b.holder)).cell? ⟨u2.heap.size, 2, none⟩ = some (.int .u64 (b.lines : Int)) ∧ ((p3.drew.setRow w.heap.size (arow a.none a.zones a.lines a.days a.lo a.hi (.slice Aa a.daily.length ca) a.holder)).setRow (w.heap.size + 1) (arow b.none b.zones b.lines b.days b.lo b.hi (.slice Ab b.daily.length cb) b.holder)).cell? ⟨u2.heap.size, 3, none⟩ = some (.int .u64 (b.days : Int)) ∧ ((p3.drew.setRow w.heap.size (arow a.none a.zones a.lines a.days a.lo a.hi (.slice Aa a.daily.length ca) a.holder)).setRow (w.heap.size + 1) (arow b.none b.zones b.lines b.days b.lo b.hi (.slice Ab b.daily.length cb) b.holder)).cell? ⟨u2.heap.size, 4, none⟩ = some (.int .i64 b.lo) ∧ ((p3.drew.setRow w.heap.size (arow a.none a.zones a.lines a.days a.lo a.hi (.slice Aa a.daily.length ca) a.holder)).setRow (w.heap.size + 1) (arow b.none b.zones b.lines b.days b.lo b.hi (.slice Ab b.daily.length cb) b.holder)).cell? ⟨u2.heap.size, 5, none⟩ = some (.int .i64 b.hi) ∧ ((p3.drew.setRow w.heap.size (arow a.none a.zones a.lines a.days a.lo a.hi (.slice Aa a.daily.length ca) a.holder)).setRow (w.heap.size + 1) (arow b.none b.zones b.lines b.days b.lo b.hi (.slice Ab b.daily.length cb) b.holder)).cell? ⟨u2.heap.size, 6, none⟩ = some (.slice Ab b.daily.length cb) ∧ ((p3.drew.setRow w.heap.size (arow a.none a.zones a.lines a.days a.lo a.hi (.slice Aa a.daily.length ca) a.holder)).setRow (w.heap.size + 1) (arow b.none b.zones b.lines b.days b.lo b.hi (.slice Ab b.daily.length cb) b.holder)).cell? ⟨u2.heap.size, 7, none⟩ = some (.string (sof b.holder))) := Lib.hid (ARow.cells (Whole.setRow_far (Whole.setRow_far (Whole.drew HRB.out) (g' := w.heap.size) (by omega) (arow a.none a.zones a.lines a.days a.lo a.hi (.slice Aa a.daily.length ca) a.holder)) (g' := w.heap.size + 1) (by omega) (arow b.none b.zones b.lines b.days b.lo b.hi (.slice Ab b.daily.length cb) b.holder)))
      obtain ⟨x0, x1, x2, x3, x4, x5, x6, x7⟩ := ARow.cells HRA.out
      obtain ⟨y0, y1, y2, y3, y4, y5, y6, y7⟩ := ARow.cells HRB.out
      go_upto_region 10 with fail
      refine wp_region_G (fun W : World => W.cell? ⟨u1.heap.size, 0, none⟩ = some (.bool a.none) ∧ W.cell? ⟨u1.heap.size, 1, none⟩ = some (.int .u64 (a.zones : Int)) ∧ W.cell? ⟨u1.heap.size, 2, none⟩ = some (.int .u64 (a.lines : Int)) ∧ W.cell? ⟨u1.heap.size, 3, none⟩ = some (.int .u64 (a.days : Int)) ∧ W.cell? ⟨u1.heap.size, 4, none⟩ = some (.int .i64 a.lo) ∧ W.cell? ⟨u1.heap.size, 5, none⟩ = some (.int .i64 a.hi) ∧ W.cell? ⟨u1.heap.size, 6, none⟩ = some (.slice Aa a.daily.length ca) ∧ W.cell? ⟨u1.heap.size, 7, none⟩ = some (.string (sof a.holder))) (fun W : World => W.cell? ⟨u2.heap.size, 0, none⟩ = some (.bool b.none) ∧ W.cell? ⟨u2.heap.size, 1, none⟩ = some (.int .u64 (b.zones : Int)) ∧ W.cell? ⟨u2.heap.size, 2, none⟩ = some (.int .u64 (b.lines : Int)) ∧ W.cell? ⟨u2.heap.size, 3, none⟩ = some (.int .u64 (b.days : Int)) ∧ W.cell? ⟨u2.heap.size, 4, none⟩ = some (.int .i64 b.lo) ∧ W.cell? ⟨u2.heap.size, 5, none⟩ = some (.int .i64 b.hi) ∧ W.cell? ⟨u2.heap.size, 6, none⟩ = some (.slice Ab b.daily.length cb) ∧ W.cell? ⟨u2.heap.size, 7, none⟩ = some (.string (sof b.holder))) [3] (by kernel_rfl) ?_
      have hHeld : (fun W : World => W.cell? ⟨u1.heap.size, 0, none⟩ = some (.bool a.none) ∧ W.cell? ⟨u1.heap.size, 1, none⟩ = some (.int .u64 (a.zones : Int)) ∧ W.cell? ⟨u1.heap.size, 2, none⟩ = some (.int .u64 (a.lines : Int)) ∧ W.cell? ⟨u1.heap.size, 3, none⟩ = some (.int .u64 (a.days : Int)) ∧ W.cell? ⟨u1.heap.size, 4, none⟩ = some (.int .i64 a.lo) ∧ W.cell? ⟨u1.heap.size, 5, none⟩ = some (.int .i64 a.hi) ∧ W.cell? ⟨u1.heap.size, 6, none⟩ = some (.slice Aa a.daily.length ca) ∧ W.cell? ⟨u1.heap.size, 7, none⟩ = some (.string (sof a.holder))) (p3.drew) := ⟨x0, x1, x2, x3, x4, x5, x6, x7⟩
      have hBeld : (fun W : World => W.cell? ⟨u2.heap.size, 0, none⟩ = some (.bool b.none) ∧ W.cell? ⟨u2.heap.size, 1, none⟩ = some (.int .u64 (b.zones : Int)) ∧ W.cell? ⟨u2.heap.size, 2, none⟩ = some (.int .u64 (b.lines : Int)) ∧ W.cell? ⟨u2.heap.size, 3, none⟩ = some (.int .u64 (b.days : Int)) ∧ W.cell? ⟨u2.heap.size, 4, none⟩ = some (.int .i64 b.lo) ∧ W.cell? ⟨u2.heap.size, 5, none⟩ = some (.int .i64 b.hi) ∧ W.cell? ⟨u2.heap.size, 6, none⟩ = some (.slice Ab b.daily.length cb) ∧ W.cell? ⟨u2.heap.size, 7, none⟩ = some (.string (sof b.holder))) (p3.drew) := ⟨y0, y1, y2, y3, y4, y5, y6, y7⟩
      apply AnyG_take (i := 0) rfl (by kernel_rfl) (by kernel_rfl) (by kernel_rfl) (by kernel_rfl)
      case hQ => exact fun _ _ _ h => h
      case hB => exact hBeld
      case hC => exact hHeld
      case hy => (refine Or.inl ⟨by rfl, ?_⟩; intro w hSw; (try go_split_ands); go_simp; (try with_reducible rfl))
      (try simp only [List.getElem_toArray, List.getElem_cons_zero, Act.put, List.setIfInBounds_toArray, List.set_cons_zero, List.set_cons_succ])
      apply AnyG_pure (i := 1) rfl (by kernel_rfl) (by kernel_rfl) (by kernel_rfl) (by kernel_rfl)
      case hQ => exact fun _ _ _ h => h
      case hB => exact hBeld
      case hC => exact .inr hHeld
      case hy => (refine Or.inl ⟨by rfl, ?_⟩; intro w hSw; (try go_split_ands); go_simp; (try with_reducible rfl))
      (try simp only [List.getElem_toArray, List.getElem_cons_succ, List.getElem_cons_zero, Act.put, List.setIfInBounds_toArray, List.set_cons_zero, List.set_cons_succ])
      apply AnyG_pure (i := 2) rfl (by kernel_rfl) (by kernel_rfl) (by kernel_rfl) (by kernel_rfl)
      case hQ => exact fun _ _ _ h => h
      case hB => exact hBeld
      case hC => exact .inr hHeld
      case hy => (refine Or.inl ⟨by rfl, ?_⟩; intro w hSw; (try go_split_ands); go_simp; (try with_reducible rfl))
      (try simp only [List.getElem_toArray, List.getElem_cons_succ, List.getElem_cons_zero, Act.put, List.setIfInBounds_toArray, List.set_cons_zero, List.set_cons_succ])
      refine AnyG_one (i := 3) (by kernel_rfl) rfl (fun K hK => ?_)
      (try simp only [List.getElem_toArray, List.getElem_cons_succ, List.getElem_cons_zero])
      rw [if_pos (by kernel_rfl)]
      refine wp_store_row 25 _ _ rfl w.heap.size _ rfl rfl 25 _ (Whole.drew HZ1'.out) (by kernel_rfl) rfl (by with_unfolding_all rfl) ?_
      clear hHeld
      refine hK.out _ _ (.inl (by kernel_rfl)) (by first | exact HY1.out | exact HY2.out) ?_
      clear hK K
      (try simp only [List.getElem_toArray, List.getElem_cons_succ, List.getElem_cons_zero, Act.put, List.setIfInBounds_toArray, List.set_cons_zero, List.set_cons_succ])
      refine AnyG_one (i := 4) (by kernel_rfl) rfl (fun K hK => ?_)
      (try simp only [List.getElem_toArray, List.getElem_cons_succ, List.getElem_cons_zero])
      rw [if_pos (by kernel_rfl)]
      refine wp_store_row 25 _ _ rfl (w.heap.size + 1) _ rfl rfl 25 _ (Whole.setRow_far (Whole.drew HZ2'.out) (by omega) _) (by kernel_rfl) rfl (by with_unfolding_all rfl) ?_
      refine hK.out _ _ (.inl (by kernel_rfl)) (by first | exact HY1.out | exact HY2.out) ?_
      clear hK K
      (try simp only [List.getElem_toArray, List.getElem_cons_succ, List.getElem_cons_zero, Act.put, List.setIfInBounds_toArray, List.set_cons_zero, List.set_cons_succ])
      apply AnyG_pure (i := 5) rfl (by kernel_rfl) (by kernel_rfl) (by kernel_rfl) (by kernel_rfl)
      case hQ => exact fun _ _ _ h => h
      case hB => exact (by first | exact HY1.out | exact HY2.out)
      case hC => exact .inl (by kernel_rfl)
      case hy => (refine Or.inl ⟨by rfl, ?_⟩; intro w hSw; (try go_split_ands); go_simp; (try with_reducible rfl))
      (try simp only [List.getElem_toArray, List.getElem_cons_succ, List.getElem_cons_zero, Act.put, List.setIfInBounds_toArray, List.set_cons_zero, List.set_cons_succ])
      refine AnyG_done (by kernel_rfl) ?_ _
      clear hBeld
      clear x0 x1 x2 x3 x4 x5 x6 x7 y0 y1 y2 y3 y4 y5 y6 y7 HY1 HY2
      have hq1 : w.heap.size ≠ w.heap.size + 1 := by omega
      have hf1 : Whole ((p3.drew.setRow w.heap.size (arow a.none a.zones a.lines a.days a.lo a.hi (.slice Aa a.daily.length ca) a.holder)).setRow (w.heap.size + 1) (arow b.none b.zones b.lines b.days b.lo b.hi (.slice Ab b.daily.length cb) b.holder)) w.heap.size 25 (arow a.none a.zones a.lines a.days a.lo a.hi (.slice Aa a.daily.length ca) a.holder) := Whole.setRow_far (Whole.setRow (Whole.drew HZ1'.out) _) hq1 _
      have hf2 : Whole ((p3.drew.setRow w.heap.size (arow a.none a.zones a.lines a.days a.lo a.hi (.slice Aa a.daily.length ca) a.holder)).setRow (w.heap.size + 1) (arow b.none b.zones b.lines b.days b.lo b.hi (.slice Ab b.daily.length cb) b.holder)) (w.heap.size + 1) 25 (arow b.none b.zones b.lines b.days b.lo b.hi (.slice Ab b.daily.length cb) b.holder) := Whole.setRow (Whole.setRow_far (Whole.drew HZ2'.out) (Ne.symm hq1) _) _
      have HF : Hid _ := Lib.hid (And.intro hf1 hf2)
      have keep : ∀ {x : Value} {m : Aut}, Av p3 (fun k => w.heap.size + 2 ≤ k ∧ k ≠ gd) x m → Av ((p3.drew.setRow w.heap.size (arow a.none a.zones a.lines a.days a.lo a.hi (.slice Aa a.daily.length ca) a.holder)).setRow (w.heap.size + 1) (arow b.none b.zones b.lines b.days b.lo b.hi (.slice Ab b.daily.length cb) b.holder)) (fun k => w.heap.size ≤ k ∧ k ≠ gd) x m := fun hx => (Av.keep (w' := ((p3.drew.setRow w.heap.size (arow a.none a.zones a.lines a.days a.lo a.hi (.slice Aa a.daily.length ca) a.holder)).setRow (w.heap.size + 1) (arow b.none b.zones b.lines b.days b.lo b.hi (.slice Ab b.daily.length cb) b.holder))) hx (by simp) fun k _ hk => (setRow_other _ (w.heap.size + 1) k _ (by omega)).trans ((setRow_other p3.drew w.heap.size k _ (by omega)))).mono fun k _ hk => ⟨by omega, hk.2⟩
      have hk1 := keep HAA.out
      have hk2 := keep HBB.out
      have hdk : Deck gd ((p3.drew.setRow w.heap.size (arow a.none a.zones a.lines a.days a.lo a.hi (.slice Aa a.daily.length ca) a.holder)).setRow (w.heap.size + 1) (arow b.none b.zones b.lines b.days b.lo b.hi (.slice Ab b.daily.length cb) b.holder)) := Deck.setRow (Deck.setRow HDK.out.drew HDI.out (by omega) (fun k hk => by omega) _) (DeckIn.setRow HDI.out (by omega) _) (by omega) (fun k hk => by omega) _
      have hbl : Below w.heap.size w ((p3.drew.setRow w.heap.size (arow a.none a.zones a.lines a.days a.lo a.hi (.slice Aa a.daily.length ca) a.holder)).setRow (w.heap.size + 1) (arow b.none b.zones b.lines b.days b.lo b.hi (.slice Ab b.daily.length cb) b.holder)) := below_setRow (below_setRow HB.out.drew (Nat.le_refl _) _) (by omega) _
      have HK : Hid _ := Lib.hid (And.intro hk1 (And.intro hk2 (And.intro hdk hbl)))
      clear hf1 hf2 keep hk1 hk2 hdk hbl
      go_wp2_with fail
      refine bodyPost_ret (results_made Tryd.results6 _ rfl rfl _ rfl rfl rfl HF.out.1 HF.out.2) rfl ?_
      exact ⟨⟨_, _, a, b, gd, rfl, HK.out.1, HK.out.2.1, HS1.out, HSB.out, HK.out.2.2.1, by omega⟩, HK.out.2.2.2⟩
end Go.Proofs.YtgbcncfhmnhljaaDoor
