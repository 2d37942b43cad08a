/-
  The law AuthorityOrder.
-/
import Derived.Deep.RegionHeld3
import Derived.Test.YtdmfbgojafbhcaaPk21
import Derived.Test.YtdmfbgojafbhcaaPk6
namespace Go.Proofs.Ytdmfbgojafbhcaa
open Go Go.RowKit Sh Leaf

theorem all_app (k l : List Prd) (c : Ctx) : holdsAll (k ++ l) c ↔ holdsAll k c ∧ holdsAll l c := by
  unfold holdsAll
  simp only [List.mem_append]
  constructor
  · exact fun h => ⟨fun p hp => h p (.inl hp), fun p hp => h p (.inr hp)⟩
  · rintro ⟨h1, h2⟩ p (hp | hp)
    · exact h1 p hp
    · exact h2 p hp
def OfC (A : Option Addr) (n c : Nat) (l : List Prd) (W : World) : Prop := Calls Try.prog 20 #[.slice A n c] W fun e w' => (∃ x m er, e = .returned (.tuple #[x, .int .i64 er]) ∧ Av w' (fun b => W.heap.size ≤ b) x m ∧ OfR l m er) ∧ Below W.heap.size W w'
theorem order_eq {lk ll : List Prd} {a b : Aut} (ha : IsSet (holdsAll ([] ++ lk ++ ll)) a) (hb : IsSet (holdsAll ([] ++ ll ++ lk ++ ll)) b) : a = b :=
  ha.unique (hb.congr fun c _ => by
    simp only [List.nil_append, all_app]
    exact ⟨fun h => ⟨h.1.2, h.1.1⟩, fun h => ⟨⟨h.2, h.1⟩, h.2⟩⟩)
theorem order_meet {lk ll : List Prd} {a c d m : Aut} (ha : IsSet (holdsAll ([] ++ lk ++ ll)) a) (hc : IsSet (holdsAll lk) c) (hd : IsSet (holdsAll ll) d) (hm : IsSet (both c d) m) : a = m :=
  ha.unique (hm.congr fun x hx => by
    simp only [List.nil_append, all_app]
    exact ⟨fun h => ⟨(hc.2 x hx).1 h.2.2.1, (hd.2 x hx).1 h.2.2.2⟩, fun h => ⟨hc.1, hd.1, (hc.2 x hx).2 h.1, (hd.2 x hx).2 h.2⟩⟩)
theorem mem_xp {lk ll : List Prd} {P : Prd → Prop} (h1 : ∀ p ∈ lk, P p) (h2 : ∀ p ∈ ll, P p) : ∀ p ∈ [] ++ lk ++ ll, P p := by
  intro p hp
  simp only [List.nil_append, List.mem_append] at hp
  exact hp.elim (h1 p) (h2 p)
theorem mem_yp {lk ll : List Prd} {P : Prd → Prop} (h1 : ∀ p ∈ lk, P p) (h2 : ∀ p ∈ ll, P p) : ∀ p ∈ [] ++ ll ++ lk ++ ll, P p := by
  intro p hp
  simp only [List.nil_append, List.mem_append] at hp
  exact hp.elim (fun h => h.elim (h2 p) (h1 p)) (h2 p)
/-- The eight cells of an authority at block g. -/
def C8 (W : World) (g : Nat) (m : Aut) (A : Option Addr) (c : Nat) : Prop := ARow W g m.none m.zones m.lines m.days m.lo m.hi (.slice A m.daily.length c) m.holder
set_option maxRecDepth 100000 in
set_option maxHeartbeats 4000000 in
theorem aorder_law (A0 : Option Addr) (l0 : List Int) (c0 : Nat) (A1 : Option Addr) (l1 : List Int) (c1 : Nat) (w : World) (hI0 : Ints w (fun b => b < w.heap.size) A0 c0 l0) (hI1 : Ints w (fun b => b < w.heap.size) A1 c1 l1) :
    Calls Try.prog 9 #[.slice A0 l0.length c0, .slice A1 l1.length c1] w fun e w' => e = .returned (.bool true) ∧ Below w.heap.size w w' := by
  obtain ⟨n0, hn0⟩ : ∃ n, n = l0.length := ⟨_, rfl⟩
  obtain ⟨n1, hn1⟩ : ∃ n, n = l1.length := ⟨_, rfl⟩
  rw [← hn0, ← hn1]
  have hd := dnew A0 n0 c0 l0 w hn0 hI0
  have HI1 := Lib.hid hI1
  have HN1 := Lib.hid hn1
  clear hI0 hI1 hn0 hn1
  go_enter Try.func9, Try.ntmps9
  go_wp2_with fail
  refine hd.mono ?_
  rintro e w1 ⟨rfl, hk1, hb1⟩
  have hps := dpreds 4 (by omega) _ _ hk1
  rw [show ((4 : Nat) : Int) = 4 from rfl] at hps
  have HB1 := Lib.hid hb1
  clear hd hk1 hb1
  go_wp2_with fail
  refine hps.mono ?_
  rintro e w2 ⟨v, lk, rfl, hk4, hlk, hown, ht2⟩
  obtain ⟨Ak, ck, rfl, hX⟩ := hown.prds (fun p hp => (hlk p hp).2)
  have HX := Lib.hid (hX.mono (Q' := fun g => g < w2.heap.size) fun g hg _ => hg)
  have HB2 := Lib.hid (HB1.out.trans ht2.2.1)
  have hd2 := dnew A1 n1 c1 l1 w2 HN1.out ((HI1.out.below HB2.out).mono HB2.out.size)
  have HLK : Hid (∀ p ∈ lk, pok p ∧ pbd p) := Lib.hid hlk
  obtain ⟨nk, hnk⟩ : ∃ n, n = lk.length := ⟨_, rfl⟩
  rw [← hnk]
  have HNK := Lib.hid hnk
  have HK4 := Lib.hid hk4
  clear hps hlk hk4 hown ht2 hX HB1 HI1 HN1 hnk
  go_wp2_with fail
  refine hd2.mono ?_
  rintro e w3 ⟨rfl, hk3, hb3⟩
  have hps2 := dpreds 4 (by omega) _ _ hk3
  rw [show ((4 : Nat) : Int) = 4 from rfl] at hps2
  have HB3 := Lib.hid hb3
  clear hd2 hk3 hb3
  go_wp2_with fail
  refine hps2.mono ?_
  rintro e w4 ⟨v, ll, rfl, hl4, hll, hown, ht4⟩
  obtain ⟨Al, cl, rfl, hY⟩ := hown.prds (fun p hp => (hll p hp).2)
  have HY := Lib.hid (hY.mono (Q' := fun g => g < w4.heap.size) fun g hg _ => hg)
  have HB24 : Hid (Below w2.heap.size w2 w4) := Lib.hid (HB3.out.trans ht4.2.1)
  have HX4 : Hid (Prds w4 (fun g => g < w4.heap.size) Ak ck lk) := Lib.hid ((HX.out.keep HB24.out.size fun g _ hq => HB24.out.block g hq).mono fun g hg _ => hg)
  have HB4 := Lib.hid (HB2.out.trans (HB24.out.mono HB2.out.size))
  have HLL : Hid (∀ p ∈ ll, pok p ∧ pbd p) := Lib.hid hll
  obtain ⟨nl, hnl⟩ : ∃ n, n = ll.length := ⟨_, rfl⟩
  rw [← hnl]
  have HNL := Lib.hid hnl
  have HL4 := Lib.hid hl4
  clear hps2 hll hl4 hown ht4 hY HB3 hnl HB24 HB2 HX
  have hseq : ∀ W, Below w4.heap.size w4 W → Seq pcl pbd W (fun g => g < w4.heap.size) Ak ck lk := fun W hb => HX4.out.keep hb.size fun g _ hq => hb.block g hq
  have hseql : ∀ W, Below w4.heap.size w4 W → Seq pcl pbd W (fun g => g < w4.heap.size) Al cl ll := fun W hb => HY.out.keep hb.size fun g _ hq => hb.block g hq
  have HSK := Lib.hid hseq
  have HSL := Lib.hid hseql
  have hkl : lk.length ≤ 4 := HK4.out
  have hll4 : ll.length ≤ 4 := HL4.out
  have HE1 : Hid (Below w4.heap.size w4 (w4.alloc (.cells #[] 43))) := Lib.hid ((Below.refl w4.heap.size w4).alloc (Nat.le_refl _) _)
  have HEO : Hid (OwnP (w4.alloc (.cells #[] 43)) w4.heap.size (.slice (some ⟨w4.heap.size, 0, none⟩) 0 0) []) := Lib.hid (ownp_empty (pblk_new _ _ _ rfl) (Nat.le_refl _))
  clear hseq hseql
  go_upto_region 3 with (first
    | (have gg := HB5; at_builtin; go_must (refine wpList_append_seq (f := pcl) (n := 6) rfl _ _ 37 43 _ 56 rfl Try.underlying37 prdInfo rfl (by decide) (by decide) pcl_length pcl_one w4.heap.size _ ([] ++ lk) rfl HO5.out (fun g => g < w4.heap.size) _ nl cl ll HNL.out.symm rfl (HSL.out _ HB5.out) (by simp <;> omega) (Below.size HB5.out) ?_; intro v6 w6 ho hb hg; have HB6 : Hid (Below w4.heap.size w4 w6) := Lib.hid (Below.trans HB5.out hb); have HO6 : Hid (OwnP w6 w4.heap.size v6 ([] ++ lk ++ ll)) := Lib.hid ho; clear ho hb hg))
    | (at_builtin; go_must (refine wpList_append_seq (f := pcl) (n := 6) rfl _ _ 37 43 _ 56 rfl Try.underlying37 prdInfo rfl (by decide) (by decide) pcl_length pcl_one w4.heap.size _ ([]) rfl HEO.out (fun g => g < w4.heap.size) _ nk ck lk HNK.out.symm rfl (HSK.out _ HE1.out) (by simp <;> omega) (Below.size HE1.out) ?_; intro v5 w5 ho hb hg; have HB5 : Hid (Below w4.heap.size w4 w5) := Lib.hid (Below.trans HE1.out hb); have HO5 : Hid (OwnP w5 w4.heap.size v5 ([] ++ lk)) := Lib.hid ho; clear ho hb hg)))
  have HF1 : Hid (Below w6.heap.size w6 (w6.alloc (.cells #[] 43))) := Lib.hid ((Below.refl w6.heap.size w6).alloc (Nat.le_refl _) _)
  have HFO : Hid (OwnP (w6.alloc (.cells #[] 43)) w6.heap.size (.slice (some ⟨w6.heap.size, 0, none⟩) 0 0) []) := Lib.hid (ownp_empty (pblk_new _ _ _ rfl) (Nat.le_refl _))
  have hs6 : w4.heap.size ≤ w6.heap.size := HB6.out.size
  have HS6 : Hid (∀ W, Below w6.heap.size w6 W → Seq pcl pbd W (fun g => g < w4.heap.size) Ak ck lk) := Lib.hid fun W hb => HSK.out W (HB6.out.trans (hb.mono hs6))
  have HT6 : Hid (∀ W, Below w6.heap.size w6 W → Seq pcl pbd W (fun g => g < w4.heap.size) Al cl ll) := Lib.hid fun W hb => HSL.out W (HB6.out.trans (hb.mono hs6))
  clear HE1 HEO HO5 HB5
  go_upto_region 4 with (first
    | (have gg := HB8; at_builtin; go_must (refine wpList_append_seq (f := pcl) (n := 6) rfl _ _ 37 43 _ 56 rfl Try.underlying37 prdInfo rfl (by decide) (by decide) pcl_length pcl_one w6.heap.size _ ([] ++ ll ++ lk) rfl HO8.out (fun g => g < w4.heap.size) _ nl cl ll HNL.out.symm rfl (HT6.out _ HB8.out) (by simp <;> omega) (Below.size HB8.out) ?_; intro v9 w9 ho hb hg; have HB9 : Hid (Below w6.heap.size w6 w9) := Lib.hid (Below.trans HB8.out hb); have HO9 : Hid (OwnP w9 w6.heap.size v9 ([] ++ ll ++ lk ++ ll)) := Lib.hid ho; clear ho hb hg))
    | (have gg := HB7; at_builtin; go_must (refine wpList_append_seq (f := pcl) (n := 6) rfl _ _ 37 43 _ 56 rfl Try.underlying37 prdInfo rfl (by decide) (by decide) pcl_length pcl_one w6.heap.size _ ([] ++ ll) rfl HO7.out (fun g => g < w4.heap.size) _ nk ck lk HNK.out.symm rfl (HS6.out _ HB7.out) (by simp <;> omega) (Below.size HB7.out) ?_; intro v8 w8 ho hb hg; have HB8 : Hid (Below w6.heap.size w6 w8) := Lib.hid (Below.trans HB7.out hb); have HO8 : Hid (OwnP w8 w6.heap.size v8 ([] ++ ll ++ lk)) := Lib.hid ho; clear ho hb hg))
    | (at_builtin; go_must (refine wpList_append_seq (f := pcl) (n := 6) rfl _ _ 37 43 _ 56 rfl Try.underlying37 prdInfo rfl (by decide) (by decide) pcl_length pcl_one w6.heap.size _ ([]) rfl HFO.out (fun g => g < w4.heap.size) _ nl cl ll HNL.out.symm rfl (HT6.out _ HF1.out) (by simp <;> omega) (Below.size HF1.out) ?_; intro v7 w7 ho hb hg; have HB7 : Hid (Below w6.heap.size w6 w7) := Lib.hid (Below.trans HF1.out hb); have HO7 : Hid (OwnP w7 w6.heap.size v7 ([] ++ ll)) := Lib.hid ho; clear ho hb hg)))
  obtain ⟨Ax, cx, rfl, hx⟩ := HO6.out.prds (l := [] ++ lk ++ ll) (mem_xp (fun p hp => (HLK.out p hp).2) (fun p hp => (HLL.out p hp).2))
  obtain ⟨Ay, cy, rfl, hy⟩ := HO9.out.prds (l := [] ++ ll ++ lk ++ ll) (mem_yp (fun p hp => (HLK.out p hp).2) (fun p hp => (HLL.out p hp).2))
  have hb49 : Below w4.heap.size w4 w9 := HB6.out.trans (HB9.out.mono hs6)
  have hPX : Prds w9 (fun g => g < w9.heap.size) Ax cx ([] ++ lk ++ ll) := ((hx.mono (Q' := fun g => g < w6.heap.size) fun g hg _ => hg).keep HB9.out.size fun g _ hq => HB9.out.block g hq).mono fun g hg _ => hg
  have hPY : Prds w9 (fun g => g < w9.heap.size) Ay cy ([] ++ ll ++ lk ++ ll) := hy.mono fun g hg _ => hg
  have hPK : Prds w9 (fun g => g < w9.heap.size) Ak ck lk := Prds.mono (HSK.out w9 hb49) fun g hg _ => hg
  have hPL : Prds w9 (fun g => g < w9.heap.size) Al cl ll := Prds.mono (HSL.out w9 hb49) fun g hg _ => hg
  have HF0 : Hid (Below w.heap.size w w9) := Lib.hid (HB4.out.trans (hb49.mono HB4.out.size))
  have HP0 : Hid (Below w9.heap.size w9 w9) := Lib.hid (Below.refl _ _)
  obtain ⟨nx, hnx⟩ : ∃ n, n = ([] ++ lk ++ ll).length := ⟨_, rfl⟩
  obtain ⟨ny, hny⟩ : ∃ n, n = ([] ++ ll ++ lk ++ ll).length := ⟨_, rfl⟩
  rw [← hnx, ← hny]
  have ofx : Hid (∀ W, Below w9.heap.size w9 W → OfC Ax nx cx ([] ++ lk ++ ll) W) := Lib.hid fun W hb => by rw [hnx]; exact aof _ Ax cx _ W (hPX.keep hb.size fun g _ hq => hb.block g hq)
  have ofy : Hid (∀ W, Below w9.heap.size w9 W → OfC Ay ny cy ([] ++ ll ++ lk ++ ll) W) := Lib.hid fun W hb => by rw [hny]; exact aof _ Ay cy _ W (hPY.keep hb.size fun g _ hq => hb.block g hq)
  have ofk : Hid (∀ W, Below w9.heap.size w9 W → OfC Ak nk ck lk W) := Lib.hid fun W hb => by rw [HNK.out]; exact aof _ Ak ck _ W (hPK.keep hb.size fun g _ hq => hb.block g hq)
  have ofl : Hid (∀ W, Below w9.heap.size w9 W → OfC Al nl cl ll W) := Lib.hid fun W hb => by rw [HNL.out]; exact aof _ Al cl _ W (hPL.keep hb.size fun g _ hq => hb.block g hq)
  have HL1 : Hid (([] ++ lk ++ ll).length ≤ 64) := Lib.hid (by simp only [List.nil_append, List.length_append]; omega)
  have HL2 : Hid (([] ++ ll ++ lk ++ ll).length ≤ 64) := Lib.hid (by simp only [List.nil_append, List.length_append]; omega)
  have HL3 : Hid (lk.length ≤ 64) := Lib.hid (by omega)
  have HL5 : Hid (ll.length ≤ 64) := Lib.hid (by omega)
  have HOK1 : Hid (∀ p ∈ [] ++ lk ++ ll, pok p) := Lib.hid (mem_xp (fun p hp => (HLK.out p hp).1) (fun p hp => (HLL.out p hp).1))
  have HOK2 : Hid (∀ p ∈ [] ++ ll ++ lk ++ ll, pok p) := Lib.hid (mem_yp (fun p hp => (HLK.out p hp).1) (fun p hp => (HLL.out p hp).1))
  have HOK3 : Hid (∀ p ∈ lk, pok p) := Lib.hid fun p hp => (HLK.out p hp).1
  have HOK5 : Hid (∀ p ∈ ll, pok p) := Lib.hid fun p hp => (HLL.out p hp).1
  clear hx hy hb49 hPX hPY hPK hPL hnx hny HSK HSL HNK HNL HK4 HL4 HLK HLL HX4 HY HB4 HB6 HO6 HF1 HFO HS6 HT6 HB7 HO7 HB8 HO8 HB9 HO9 hkl hll4 hs6
  have hof := ofx.out w9 HP0.out
  unfold OfC at hof
  go_wp2_with fail
  refine hof.mono ?_
  rintro e u1 ⟨⟨x, a, er, rfl, hm, hr⟩, hb⟩
  obtain ⟨hs, rfl⟩ := of_ok hr HL1.out HOK1.out
  obtain ⟨Aa, ca, rfl, hS, hab⟩ := hm
  obtain ⟨p1, hp⟩ : ∃ p, p = u1.alloc (.cells (avl a Aa ca) 25) := ⟨_, rfl⟩
  have hup : Below u1.heap.size u1 p1 := by rw [hp]; exact (Below.refl u1.heap.size u1).alloc (Nat.le_refl _) _
  have HR1 : Hid (ARow p1 u1.heap.size a.none a.zones a.lines a.days a.lo a.hi (.slice Aa a.daily.length ca) a.holder) := Lib.hid (by rw [hp]; exact Whole.here _ _ _)
  have HE1 : Hid (Below w9.heap.size w9 p1) := Lib.hid (hb.trans (hup.mono hb.size))
  have HP1 : Hid (Below w9.heap.size w9 p1) := Lib.hid (HP0.out.trans (HE1.out.mono HP0.out.size))
  have HA1 : Hid (Av p1 (fun _ => True) (.agg (avl a Aa ca)) a) := Lib.hid ⟨Aa, ca, rfl, (hS.below hup (Nat.le_refl _)).mono fun _ _ _ => trivial, hab⟩
  have HS1 := Lib.hid hs
  clear hof hb hr hs hS hab hup ofx HL1 HOK1
  go_upto_region 5 with fail
  rw [← hp]
  clear hp
  have hof := ofy.out p1 HP1.out
  unfold OfC at hof
  go_wp2_with fail
  refine hof.mono ?_
  rintro e u2 ⟨⟨x, b, er, rfl, hm, hr⟩, hb⟩
  obtain ⟨hs, rfl⟩ := of_ok hr HL2.out HOK2.out
  obtain ⟨Ab, cb, rfl, hS, hab⟩ := hm
  obtain ⟨p2, hp⟩ : ∃ p, p = u2.alloc (.cells (avl b Ab cb) 25) := ⟨_, rfl⟩
  have hup : Below u2.heap.size u2 p2 := by rw [hp]; exact (Below.refl u2.heap.size u2).alloc (Nat.le_refl _) _
  have HR2 : Hid (ARow p2 u2.heap.size b.none b.zones b.lines b.days b.lo b.hi (.slice Ab b.daily.length cb) b.holder) := Lib.hid (by rw [hp]; exact Whole.here _ _ _)
  have HE2 : Hid (Below p1.heap.size p1 p2) := Lib.hid (hb.trans (hup.mono hb.size))
  have HP2 : Hid (Below w9.heap.size w9 p2) := Lib.hid (HP1.out.trans (HE2.out.mono HP1.out.size))
  have HA2 : Hid (Av p2 (fun _ => True) (.agg (avl b Ab cb)) b) := Lib.hid ⟨Ab, cb, rfl, (hS.below hup (Nat.le_refl _)).mono fun _ _ _ => trivial, hab⟩
  have HS2 := Lib.hid hs
  clear hof hb hr hs hS hab hup ofy HL2 HOK2
  go_upto_region 6 with fail
  rw [← hp]
  clear hp
  have hof := ofk.out p2 HP2.out
  unfold OfC at hof
  go_wp2_with fail
  refine hof.mono ?_
  rintro e u3 ⟨⟨x, c, er, rfl, hm, hr⟩, hb⟩
  obtain ⟨hs, rfl⟩ := of_ok hr HL3.out HOK3.out
  obtain ⟨Ac, cc, rfl, hS, hab⟩ := hm
  obtain ⟨p3, hp⟩ : ∃ p, p = u3.alloc (.cells (avl c Ac cc) 25) := ⟨_, rfl⟩
  have hup : Below u3.heap.size u3 p3 := by rw [hp]; exact (Below.refl u3.heap.size u3).alloc (Nat.le_refl _) _
  have HR3 : Hid (ARow p3 u3.heap.size c.none c.zones c.lines c.days c.lo c.hi (.slice Ac c.daily.length cc) c.holder) := Lib.hid (by rw [hp]; exact Whole.here _ _ _)
  have HE3 : Hid (Below p2.heap.size p2 p3) := Lib.hid (hb.trans (hup.mono hb.size))
  have HP3 : Hid (Below w9.heap.size w9 p3) := Lib.hid (HP2.out.trans (HE3.out.mono HP2.out.size))
  have HA3 : Hid (Av p3 (fun _ => True) (.agg (avl c Ac cc)) c) := Lib.hid ⟨Ac, cc, rfl, (hS.below hup (Nat.le_refl _)).mono fun _ _ _ => trivial, hab⟩
  have HS3 := Lib.hid hs
  clear hof hb hr hs hS hab hup ofk HL3 HOK3
  go_upto_region 7 with fail
  rw [← hp]
  clear hp
  have hof := ofl.out p3 HP3.out
  unfold OfC at hof
  go_wp2_with fail
  refine hof.mono ?_
  rintro e u4 ⟨⟨x, d, er, rfl, hm, hr⟩, hb⟩
  obtain ⟨hs, rfl⟩ := of_ok hr HL5.out HOK5.out
  obtain ⟨Ad, cd, rfl, hS, hab⟩ := hm
  obtain ⟨p4, hp⟩ : ∃ p, p = u4.alloc (.cells (avl d Ad cd) 25) := ⟨_, rfl⟩
  have hup : Below u4.heap.size u4 p4 := by rw [hp]; exact (Below.refl u4.heap.size u4).alloc (Nat.le_refl _) _
  have HR4 : Hid (ARow p4 u4.heap.size d.none d.zones d.lines d.days d.lo d.hi (.slice Ad d.daily.length cd) d.holder) := Lib.hid (by rw [hp]; exact Whole.here _ _ _)
  have HE4 : Hid (Below p3.heap.size p3 p4) := Lib.hid (hb.trans (hup.mono hb.size))
  have HP4 : Hid (Below w9.heap.size w9 p4) := Lib.hid (HP3.out.trans (HE4.out.mono HP3.out.size))
  have HA4 : Hid (Av p4 (fun _ => True) (.agg (avl d Ad cd)) d) := Lib.hid ⟨Ad, cd, rfl, (hS.below hup (Nat.le_refl _)).mono fun _ _ _ => trivial, hab⟩
  have HS4 := Lib.hid hs
  clear hof hb hr hs hS hab hup ofl HL5 HOK5
  go_upto_region 8 with fail
  rw [← hp]
  clear hp
  have h34 : Below p3.heap.size p3 p4 := HE4.out
  have h24 : Below p2.heap.size p2 p4 := HE3.out.trans (h34.mono HE3.out.size)
  have h14 : Below p1.heap.size p1 p4 := HE2.out.trans (h24.mono HE2.out.size)
  have ha4 : Av p4 (fun _ => True) (.agg (arow a.none a.zones a.lines a.days a.lo a.hi (.slice Aa a.daily.length ca) a.holder)) a := HA1.out.below h14 (Nat.le_refl _)
  have hb4 : Av p4 (fun _ => True) (.agg (arow b.none b.zones b.lines b.days b.lo b.hi (.slice Ab b.daily.length cb) b.holder)) b := HA2.out.below h24 (Nat.le_refl _)
  have hc4 : Av p4 (fun _ => True) (.agg (arow c.none c.zones c.lines c.days c.lo c.hi (.slice Ac c.daily.length cc) c.holder)) c := HA3.out.below h34 (Nat.le_refl _)
  have hd4 : Av p4 (fun _ => True) (.agg (arow d.none d.zones d.lines d.days d.lo d.hi (.slice Ad d.daily.length cd) d.holder)) d := HA4.out
  have r1 := Whole.below HR1.out h14 HR1.out.lt
  have r2 := Whole.below HR2.out h24 HR2.out.lt
  have r3 := Whole.below HR3.out h34 HR3.out.lt
  have r4 := HR4.out
  have hcc : ∀ W, Below p4.heap.size p4 W → W.cell? ⟨u1.heap.size, 0, none⟩ = some (.bool a.none) ∧ W.cell? ⟨u1.heap.size, 1, none⟩ = some (.int .u64 (a.zones : Int)) ∧ W.cell? ⟨u1.heap.size, 2, none⟩ = some (.int .u64 (a.lines : Int)) ∧ W.cell? ⟨u1.heap.size, 3, none⟩ = some (.int .u64 (a.days : Int)) ∧ W.cell? ⟨u1.heap.size, 4, none⟩ = some (.int .i64 a.lo) ∧ W.cell? ⟨u1.heap.size, 5, none⟩ = some (.int .i64 a.hi) ∧ W.cell? ⟨u1.heap.size, 6, none⟩ = some (.slice Aa a.daily.length ca) ∧ W.cell? ⟨u1.heap.size, 7, none⟩ = some (.string (sof a.holder)) ∧ W.cell? ⟨u2.heap.size, 0, none⟩ = some (.bool b.none) ∧ W.cell? ⟨u2.heap.size, 1, none⟩ = some (.int .u64 (b.zones : Int)) ∧ W.cell? ⟨u2.heap.size, 2, none⟩ = some (.int .u64 (b.lines : Int)) ∧ W.cell? ⟨u2.heap.size, 3, none⟩ = some (.int .u64 (b.days : Int)) ∧ W.cell? ⟨u2.heap.size, 4, none⟩ = some (.int .i64 b.lo) ∧ W.cell? ⟨u2.heap.size, 5, none⟩ = some (.int .i64 b.hi) ∧ W.cell? ⟨u2.heap.size, 6, none⟩ = some (.slice Ab b.daily.length cb) ∧ W.cell? ⟨u2.heap.size, 7, none⟩ = some (.string (sof b.holder)) ∧ W.cell? ⟨u3.heap.size, 0, none⟩ = some (.bool c.none) ∧ W.cell? ⟨u3.heap.size, 1, none⟩ = some (.int .u64 (c.zones : Int)) ∧ W.cell? ⟨u3.heap.size, 2, none⟩ = some (.int .u64 (c.lines : Int)) ∧ W.cell? ⟨u3.heap.size, 3, none⟩ = some (.int .u64 (c.days : Int)) ∧ W.cell? ⟨u3.heap.size, 4, none⟩ = some (.int .i64 c.lo) ∧ W.cell? ⟨u3.heap.size, 5, none⟩ = some (.int .i64 c.hi) ∧ W.cell? ⟨u3.heap.size, 6, none⟩ = some (.slice Ac c.daily.length cc) ∧ W.cell? ⟨u3.heap.size, 7, none⟩ = some (.string (sof c.holder)) ∧ W.cell? ⟨u4.heap.size, 0, none⟩ = some (.bool d.none) ∧ W.cell? ⟨u4.heap.size, 1, none⟩ = some (.int .u64 (d.zones : Int)) ∧ W.cell? ⟨u4.heap.size, 2, none⟩ = some (.int .u64 (d.lines : Int)) ∧ W.cell? ⟨u4.heap.size, 3, none⟩ = some (.int .u64 (d.days : Int)) ∧ W.cell? ⟨u4.heap.size, 4, none⟩ = some (.int .i64 d.lo) ∧ W.cell? ⟨u4.heap.size, 5, none⟩ = some (.int .i64 d.hi) ∧ W.cell? ⟨u4.heap.size, 6, none⟩ = some (.slice Ad d.daily.length cd) ∧ W.cell? ⟨u4.heap.size, 7, none⟩ = some (.string (sof d.holder)) := fun W hb => by
    obtain ⟨x0, x1, x2, x3, x4, x5, x6, x7⟩ := ARow.cells (Whole.below r1 hb r1.lt)
    obtain ⟨y0, y1, y2, y3, y4, y5, y6, y7⟩ := ARow.cells (Whole.below r2 hb r2.lt)
    obtain ⟨z0, z1, z2, z3, z4, z5, z6, z7⟩ := ARow.cells (Whole.below r3 hb r3.lt)
    obtain ⟨q0, q1, q2, q3, q4, q5, q6, q7⟩ := ARow.cells (Whole.below r4 hb r4.lt)
    exact ⟨x0, x1, x2, x3, x4, x5, x6, x7, y0, y1, y2, y3, y4, y5, y6, y7, z0, z1, z2, z3, z4, z5, z6, z7, q0, q1, q2, q3, q4, q5, q6, q7⟩
  have k1 : ∀ W, Below p4.heap.size p4 W → Calls Try.prog 17 #[.agg (arow a.none a.zones a.lines a.days a.lo a.hi (.slice Aa a.daily.length ca) a.holder), .agg (arow b.none b.zones b.lines b.days b.lo b.hi (.slice Ab b.daily.length cb) b.holder)] W fun e w' => e = .returned (.bool true) ∧ Below p4.heap.size p4 w' := fun W hb =>
    (rsame_aut (ha4.below hb (Nat.le_refl _)) (hb4.below hb (Nat.le_refl _))).mono fun e w' h => ⟨by rw [h.1, decide_eq_true (order_eq HS1.out HS2.out)], hb.trans (h.2.mono hb.size)⟩
  have k2 : ∀ W, Below p4.heap.size p4 W → Calls Try.prog 26 #[.agg (arow c.none c.zones c.lines c.days c.lo c.hi (.slice Ac c.daily.length cc) c.holder), .agg (arow d.none d.zones d.lines d.days d.lo d.hi (.slice Ad d.daily.length cd) d.holder)] W fun e w' => (∃ y, e = .returned y ∧ Av w' (fun _ => True) y a) ∧ Below p4.heap.size p4 w' := fun W hb =>
    (ameet (hc4.below hb (Nat.le_refl _)) (hd4.below hb (Nat.le_refl _))).mono fun e w' h => by
      obtain ⟨⟨z, m, he, hz, hm⟩, h2⟩ := h
      have hmm := order_meet HS1.out HS3.out HS4.out hm
      subst hmm
      exact ⟨⟨z, he, hz.mono fun _ _ _ => trivial⟩, hb.trans (h2.mono hb.size)⟩
  have k3 : ∀ W y, Below p4.heap.size p4 W → Av W (fun _ => True) y a → Calls Try.prog 17 #[.agg (arow a.none a.zones a.lines a.days a.lo a.hi (.slice Aa a.daily.length ca) a.holder), y] W fun e w' => e = .returned (.bool true) ∧ Below p4.heap.size p4 w' := fun W y hb hy =>
    (rsame_aut (ha4.below hb (Nat.le_refl _)) hy).mono fun e w' h => ⟨by rw [h.1, decide_eq_true rfl], hb.trans (h.2.mono hb.size)⟩
  have k4 : ∀ W, Below p4.heap.size p4 W → Calls Try.prog 10 #[] W fun e w' => e = .returned (.bool true) ∧ Below p4.heap.size p4 w' := fun W hb =>
    (aawake W).mono fun e w' h => ⟨h.1, hb.trans (h.2.mono hb.size)⟩
  have HF : Hid (Below w.heap.size w p4) := Lib.hid (HF0.out.trans (HP4.out.mono HF0.out.size))
  clear ha4 hb4 hc4 hd4 r1 r2 r3 r4 h14 h24 h34 HE1 HE2 HE3 HE4 HA1 HA2 HA3 HA4 HR1 HR2 HR3 HR4 HS1 HS2 HS3 HS4 HP0 HP1 HP2 HP3 HP4 HF0
  refine wp_region_held_drew (S := fun W => W.cell? ⟨u1.heap.size, 0, none⟩ = some (.bool a.none) ∧ W.cell? ⟨u1.heap.size, 1, none⟩ = some (.int .u64 (a.zones : Int)) ∧ W.cell? ⟨u1.heap.size, 2, none⟩ = some (.int .u64 (a.lines : Int)) ∧ W.cell? ⟨u1.heap.size, 3, none⟩ = some (.int .u64 (a.days : Int)) ∧ W.cell? ⟨u1.heap.size, 4, none⟩ = some (.int .i64 a.lo) ∧ W.cell? ⟨u1.heap.size, 5, none⟩ = some (.int .i64 a.hi) ∧ W.cell? ⟨u1.heap.size, 6, none⟩ = some (.slice Aa a.daily.length ca) ∧ W.cell? ⟨u1.heap.size, 7, none⟩ = some (.string (sof a.holder)) ∧ W.cell? ⟨u2.heap.size, 0, none⟩ = some (.bool b.none) ∧ W.cell? ⟨u2.heap.size, 1, none⟩ = some (.int .u64 (b.zones : Int)) ∧ W.cell? ⟨u2.heap.size, 2, none⟩ = some (.int .u64 (b.lines : Int)) ∧ W.cell? ⟨u2.heap.size, 3, none⟩ = some (.int .u64 (b.days : Int)) ∧ W.cell? ⟨u2.heap.size, 4, none⟩ = some (.int .i64 b.lo) ∧ W.cell? ⟨u2.heap.size, 5, none⟩ = some (.int .i64 b.hi) ∧ W.cell? ⟨u2.heap.size, 6, none⟩ = some (.slice Ab b.daily.length cb) ∧ W.cell? ⟨u2.heap.size, 7, none⟩ = some (.string (sof b.holder)) ∧ W.cell? ⟨u3.heap.size, 0, none⟩ = some (.bool c.none) ∧ W.cell? ⟨u3.heap.size, 1, none⟩ = some (.int .u64 (c.zones : Int)) ∧ W.cell? ⟨u3.heap.size, 2, none⟩ = some (.int .u64 (c.lines : Int)) ∧ W.cell? ⟨u3.heap.size, 3, none⟩ = some (.int .u64 (c.days : Int)) ∧ W.cell? ⟨u3.heap.size, 4, none⟩ = some (.int .i64 c.lo) ∧ W.cell? ⟨u3.heap.size, 5, none⟩ = some (.int .i64 c.hi) ∧ W.cell? ⟨u3.heap.size, 6, none⟩ = some (.slice Ac c.daily.length cc) ∧ W.cell? ⟨u3.heap.size, 7, none⟩ = some (.string (sof c.holder)) ∧ W.cell? ⟨u4.heap.size, 0, none⟩ = some (.bool d.none) ∧ W.cell? ⟨u4.heap.size, 1, none⟩ = some (.int .u64 (d.zones : Int)) ∧ W.cell? ⟨u4.heap.size, 2, none⟩ = some (.int .u64 (d.lines : Int)) ∧ W.cell? ⟨u4.heap.size, 3, none⟩ = some (.int .u64 (d.days : Int)) ∧ W.cell? ⟨u4.heap.size, 4, none⟩ = some (.int .i64 d.lo) ∧ W.cell? ⟨u4.heap.size, 5, none⟩ = some (.int .i64 d.hi) ∧ W.cell? ⟨u4.heap.size, 6, none⟩ = some (.slice Ad d.daily.length cd) ∧ W.cell? ⟨u4.heap.size, 7, none⟩ = some (.string (sof d.holder))) (by kernel_rfl) (hcc _ (Below.drew (Below.refl _ _))) (fun hHeld => ?_)
  apply wpAnyH_take (i := 0) rfl (by kernel_rfl) (by kernel_rfl) (by kernel_rfl)
  case hQ => exact fun _ _ _ h => h
  case hS => exact hHeld
  case hy => (refine Or.inl ⟨by rfl, ?_⟩; intro w hSw; go_split_ands; go_simp; (try with_reducible rfl))
  (try simp only [List.getElem_toArray, List.getElem_cons_zero, Act.put, List.setIfInBounds_toArray, List.set_cons_zero, List.set_cons_succ])
  apply wpAnyH_take (i := 1) rfl (by kernel_rfl) (by kernel_rfl) (by kernel_rfl)
  case hQ => exact fun _ _ _ h => h
  case hS => exact hHeld
  case hy => (refine Or.inl ⟨by rfl, ?_⟩; intro w hSw; go_split_ands; go_simp; (try with_reducible rfl))
  (try simp only [List.getElem_toArray, List.getElem_cons_succ, List.getElem_cons_zero, Act.put, List.setIfInBounds_toArray, List.set_cons_zero, List.set_cons_succ])
  apply wpAnyH_take (i := 2) rfl (by kernel_rfl) (by kernel_rfl) (by kernel_rfl)
  case hQ => exact fun _ _ _ h => h
  case hS => exact hHeld
  case hy => (refine Or.inl ⟨by rfl, ?_⟩; intro w hSw; go_split_ands; go_simp; (try with_reducible rfl))
  (try simp only [List.getElem_toArray, List.getElem_cons_succ, List.getElem_cons_zero, Act.put, List.setIfInBounds_toArray, List.set_cons_zero, List.set_cons_succ])
  apply wpAnyH_take (i := 3) rfl (by kernel_rfl) (by kernel_rfl) (by kernel_rfl)
  case hQ => exact fun _ _ _ h => h
  case hS => exact hHeld
  case hy => (refine Or.inl ⟨by rfl, ?_⟩; intro w hSw; go_split_ands; go_simp; (try with_reducible rfl))
  (try simp only [List.getElem_toArray, List.getElem_cons_succ, List.getElem_cons_zero, Act.put, List.setIfInBounds_toArray, List.set_cons_zero, List.set_cons_succ])
  apply wpAnyH_take (i := 4) rfl (by kernel_rfl) (by kernel_rfl) (by kernel_rfl)
  case hQ => exact fun _ _ _ h => h
  case hS => exact hHeld
  case hy => (refine Or.inl ⟨by rfl, ?_⟩; intro w hSw; go_split_ands; go_simp; (try with_reducible rfl))
  (try simp only [List.getElem_toArray, List.getElem_cons_succ, List.getElem_cons_zero, Act.put, List.setIfInBounds_toArray, List.set_cons_zero, List.set_cons_succ])
  apply wpAnyH_take (i := 5) rfl (by kernel_rfl) (by kernel_rfl) (by kernel_rfl)
  case hQ => exact fun _ _ _ h => h
  case hS => exact hHeld
  case hy => (refine Or.inl ⟨by rfl, ?_⟩; intro w hSw; go_split_ands; go_simp; (try with_reducible rfl))
  (try simp only [List.getElem_toArray, List.getElem_cons_succ, List.getElem_cons_zero, Act.put, List.setIfInBounds_toArray, List.set_cons_zero, List.set_cons_succ])
  apply wpAnyH_take (i := 6) rfl (by kernel_rfl) (by kernel_rfl) (by kernel_rfl)
  case hQ => exact fun _ _ _ h => h
  case hS => exact hHeld
  case hy => (refine Or.inl ⟨by rfl, ?_⟩; intro w hSw; go_split_ands; go_simp; (try with_reducible rfl))
  (try simp only [List.getElem_toArray, List.getElem_cons_succ, List.getElem_cons_zero, Act.put, List.setIfInBounds_toArray, List.set_cons_zero, List.set_cons_succ])
  apply wpAnyH_take (i := 7) rfl (by kernel_rfl) (by kernel_rfl) (by kernel_rfl)
  case hQ => exact fun _ _ _ h => h
  case hS => exact hHeld
  case hy => (refine Or.inl ⟨by rfl, ?_⟩; intro w hSw; go_split_ands; go_simp; (try with_reducible rfl))
  (try simp only [List.getElem_toArray, List.getElem_cons_succ, List.getElem_cons_zero, Act.put, List.setIfInBounds_toArray, List.set_cons_zero, List.set_cons_succ])
  apply wpAnyH_take (i := 8) rfl (by kernel_rfl) (by kernel_rfl) (by kernel_rfl)
  case hQ => exact fun _ _ _ h => h
  case hS => exact hHeld
  case hy => (refine Or.inl ⟨by rfl, ?_⟩; intro w hSw; go_split_ands; go_simp; (try with_reducible rfl))
  (try simp only [List.getElem_toArray, List.getElem_cons_succ, List.getElem_cons_zero, Act.put, List.setIfInBounds_toArray, List.set_cons_zero, List.set_cons_succ])
  apply wpAnyH_take (i := 9) rfl (by kernel_rfl) (by kernel_rfl) (by kernel_rfl)
  case hQ => exact fun _ _ _ h => h
  case hS => exact hHeld
  case hy => (refine Or.inl ⟨by rfl, ?_⟩; intro w hSw; go_split_ands; go_simp; (try with_reducible rfl))
  (try simp only [List.getElem_toArray, List.getElem_cons_succ, List.getElem_cons_zero, Act.put, List.setIfInBounds_toArray, List.set_cons_zero, List.set_cons_succ])
  apply wpAnyH_take (i := 10) rfl (by kernel_rfl) (by kernel_rfl) (by kernel_rfl)
  case hQ => exact fun _ _ _ h => h
  case hS => exact hHeld
  case hy => (refine Or.inl ⟨by rfl, ?_⟩; intro w hSw; go_split_ands; go_simp; (try with_reducible rfl))
  (try simp only [List.getElem_toArray, List.getElem_cons_succ, List.getElem_cons_zero, Act.put, List.setIfInBounds_toArray, List.set_cons_zero, List.set_cons_succ])
  apply wpAnyH_take (i := 11) rfl (by kernel_rfl) (by kernel_rfl) (by kernel_rfl)
  case hQ => exact fun _ _ _ h => h
  case hS => exact hHeld
  case hy => (refine Or.inl ⟨by rfl, ?_⟩; intro w hSw; go_split_ands; go_simp; (try with_reducible rfl))
  (try simp only [List.getElem_toArray, List.getElem_cons_succ, List.getElem_cons_zero, Act.put, List.setIfInBounds_toArray, List.set_cons_zero, List.set_cons_succ])
  apply wpAnyH_take (i := 12) rfl (by kernel_rfl) (by kernel_rfl) (by kernel_rfl)
  case hQ => exact fun _ _ _ h => h
  case hS => exact hHeld
  case hy => (refine Or.inl ⟨by rfl, ?_⟩; intro w hSw; go_split_ands; go_simp; (try with_reducible rfl))
  (try simp only [List.getElem_toArray, List.getElem_cons_succ, List.getElem_cons_zero, Act.put, List.setIfInBounds_toArray, List.set_cons_zero, List.set_cons_succ])
  apply wpAnyH_take (i := 13) rfl (by kernel_rfl) (by kernel_rfl) (by kernel_rfl)
  case hQ => exact fun _ _ _ h => h
  case hS => exact hHeld
  case hy => (refine Or.inl ⟨by rfl, ?_⟩; intro w hSw; go_split_ands; go_simp; (try with_reducible rfl))
  (try simp only [List.getElem_toArray, List.getElem_cons_succ, List.getElem_cons_zero, Act.put, List.setIfInBounds_toArray, List.set_cons_zero, List.set_cons_succ])
  apply wpAnyH_take (i := 14) rfl (by kernel_rfl) (by kernel_rfl) (by kernel_rfl)
  case hQ => exact fun _ _ _ h => h
  case hS => exact hHeld
  case hy => (refine Or.inl ⟨by rfl, ?_⟩; intro w hSw; go_split_ands; go_simp; (try with_reducible rfl))
  (try simp only [List.getElem_toArray, List.getElem_cons_succ, List.getElem_cons_zero, Act.put, List.setIfInBounds_toArray, List.set_cons_zero, List.set_cons_succ])
  apply wpAnyH_take (i := 15) rfl (by kernel_rfl) (by kernel_rfl) (by kernel_rfl)
  case hQ => exact fun _ _ _ h => h
  case hS => exact hHeld
  case hy => (refine Or.inl ⟨by rfl, ?_⟩; intro w hSw; go_split_ands; go_simp; (try with_reducible rfl))
  (try simp only [List.getElem_toArray, List.getElem_cons_succ, List.getElem_cons_zero, Act.put, List.setIfInBounds_toArray, List.set_cons_zero, List.set_cons_succ])
  apply wpAnyH_take (i := 16) rfl (by kernel_rfl) (by kernel_rfl) (by kernel_rfl)
  case hQ => exact fun _ _ _ h => h
  case hS => exact hHeld
  case hy => (refine Or.inl ⟨by rfl, ?_⟩; intro w hSw; go_split_ands; go_simp; (try with_reducible rfl))
  (try simp only [List.getElem_toArray, List.getElem_cons_succ, List.getElem_cons_zero, Act.put, List.setIfInBounds_toArray, List.set_cons_zero, List.set_cons_succ])
  refine wpAnyH_ready (rs := [17]) (by kernel_rfl) (by simp) ?_
  refine AllReadyH.cons rfl (fun K hK => ?_) AllReadyH.nil
  (try simp only [List.getElem_toArray, List.getElem_cons_succ, List.getElem_cons_zero])
  go_simp
  go_at_call 17
  refine (k1 _ (Below.drew (Below.refl _ _))).mono ?_
  rintro e w10 ⟨rfl, hb10⟩
  refine hK.out _ _ (hcc _ hb10) (fun hHeld => ?_)
  clear hK K
  (try simp only [List.getElem_toArray, List.getElem_cons_succ, List.getElem_cons_zero, Act.put, List.setIfInBounds_toArray, List.set_cons_zero, List.set_cons_succ])
  apply wpAnyH_take (i := 18) rfl (by kernel_rfl) (by kernel_rfl) (by kernel_rfl)
  case hQ => exact fun _ _ _ h => h
  case hS => exact hHeld
  case hy => (refine Or.inl ⟨by rfl, ?_⟩; intro w hSw; go_split_ands; go_simp; (try with_reducible rfl))
  (try simp only [List.getElem_toArray, List.getElem_cons_succ, List.getElem_cons_zero, Act.put, List.setIfInBounds_toArray, List.set_cons_zero, List.set_cons_succ])
  apply wpAnyH_take (i := 19) rfl (by kernel_rfl) (by kernel_rfl) (by kernel_rfl)
  case hQ => exact fun _ _ _ h => h
  case hS => exact hHeld
  case hy => (refine Or.inl ⟨by rfl, ?_⟩; intro w hSw; go_split_ands; go_simp; (try with_reducible rfl))
  (try simp only [List.getElem_toArray, List.getElem_cons_succ, List.getElem_cons_zero, Act.put, List.setIfInBounds_toArray, List.set_cons_zero, List.set_cons_succ])
  apply wpAnyH_take (i := 20) rfl (by kernel_rfl) (by kernel_rfl) (by kernel_rfl)
  case hQ => exact fun _ _ _ h => h
  case hS => exact hHeld
  case hy => (refine Or.inl ⟨by rfl, ?_⟩; intro w hSw; go_split_ands; go_simp; (try with_reducible rfl))
  (try simp only [List.getElem_toArray, List.getElem_cons_succ, List.getElem_cons_zero, Act.put, List.setIfInBounds_toArray, List.set_cons_zero, List.set_cons_succ])
  apply wpAnyH_take (i := 21) rfl (by kernel_rfl) (by kernel_rfl) (by kernel_rfl)
  case hQ => exact fun _ _ _ h => h
  case hS => exact hHeld
  case hy => (refine Or.inl ⟨by rfl, ?_⟩; intro w hSw; go_split_ands; go_simp; (try with_reducible rfl))
  (try simp only [List.getElem_toArray, List.getElem_cons_succ, List.getElem_cons_zero, Act.put, List.setIfInBounds_toArray, List.set_cons_zero, List.set_cons_succ])
  apply wpAnyH_take (i := 22) rfl (by kernel_rfl) (by kernel_rfl) (by kernel_rfl)
  case hQ => exact fun _ _ _ h => h
  case hS => exact hHeld
  case hy => (refine Or.inl ⟨by rfl, ?_⟩; intro w hSw; go_split_ands; go_simp; (try with_reducible rfl))
  (try simp only [List.getElem_toArray, List.getElem_cons_succ, List.getElem_cons_zero, Act.put, List.setIfInBounds_toArray, List.set_cons_zero, List.set_cons_succ])
  refine wpAnyH_ready (rs := [23]) (by kernel_rfl) (by simp) ?_
  refine AllReadyH.cons rfl (fun K hK => ?_) AllReadyH.nil
  (try simp only [List.getElem_toArray, List.getElem_cons_succ, List.getElem_cons_zero])
  go_simp
  go_at_call 26
  refine (k2 _ hb10).mono ?_
  rintro e w11 ⟨⟨y, rfl, hC⟩, hb11⟩
  refine hK.out _ _ (hcc _ hb11) (fun hHeld => ?_)
  clear hK K
  (try simp only [List.getElem_toArray, List.getElem_cons_succ, List.getElem_cons_zero, Act.put, List.setIfInBounds_toArray, List.set_cons_zero, List.set_cons_succ])
  refine wpAnyH_ready (rs := [24]) (by kernel_rfl) (by simp) ?_
  refine AllReadyH.cons rfl (fun K hK => ?_) AllReadyH.nil
  (try simp only [List.getElem_toArray, List.getElem_cons_succ, List.getElem_cons_zero])
  go_simp
  go_at_call 17
  refine (k3 _ _ hb11 hC).mono ?_
  rintro e w12 ⟨rfl, hb12⟩
  refine hK.out _ _ (hcc _ hb12) (fun hHeld => ?_)
  clear hK K
  (try simp only [List.getElem_toArray, List.getElem_cons_succ, List.getElem_cons_zero, Act.put, List.setIfInBounds_toArray, List.set_cons_zero, List.set_cons_succ])
  apply wpAnyH_take (i := 25) rfl (by kernel_rfl) (by kernel_rfl) (by kernel_rfl)
  case hQ => exact fun _ _ _ h => h
  case hS => exact hHeld
  case hy => (refine Or.inl ⟨by rfl, ?_⟩; intro w hSw; go_split_ands; go_simp; (try with_reducible rfl))
  (try simp only [List.getElem_toArray, List.getElem_cons_succ, List.getElem_cons_zero, Act.put, List.setIfInBounds_toArray, List.set_cons_zero, List.set_cons_succ])
  apply wpAnyH_take (i := 26) rfl (by kernel_rfl) (by kernel_rfl) (by kernel_rfl)
  case hQ => exact fun _ _ _ h => h
  case hS => exact hHeld
  case hy => (refine Or.inl ⟨by rfl, ?_⟩; intro w hSw; go_split_ands; go_simp; (try with_reducible rfl))
  (try simp only [List.getElem_toArray, List.getElem_cons_succ, List.getElem_cons_zero, Act.put, List.setIfInBounds_toArray, List.set_cons_zero, List.set_cons_succ])
  refine wpAnyH_ready (rs := [27]) (by kernel_rfl) (by simp) ?_
  refine AllReadyH.cons rfl (fun K hK => ?_) AllReadyH.nil
  (try simp only [List.getElem_toArray, List.getElem_cons_succ, List.getElem_cons_zero])
  go_simp
  go_at_call 10
  refine (k4 _ hb12).mono ?_
  rintro e w13 ⟨rfl, hb13⟩
  refine hK.out _ _ (hcc _ hb13) (fun hHeld => ?_)
  clear hK K
  (try simp only [List.getElem_toArray, List.getElem_cons_succ, List.getElem_cons_zero, Act.put, List.setIfInBounds_toArray, List.set_cons_zero, List.set_cons_succ])
  apply wpAnyH_take (i := 28) rfl (by kernel_rfl) (by kernel_rfl) (by kernel_rfl)
  case hQ => exact fun _ _ _ h => h
  case hS => exact hHeld
  case hy => (refine Or.inl ⟨by rfl, ?_⟩; intro w hSw; go_split_ands; go_simp; (try with_reducible rfl))
  (try simp only [List.getElem_toArray, List.getElem_cons_succ, List.getElem_cons_zero, Act.put, List.setIfInBounds_toArray, List.set_cons_zero, List.set_cons_succ])
  apply wpAnyH_take (i := 29) rfl (by kernel_rfl) (by kernel_rfl) (by kernel_rfl)
  case hQ => exact fun _ _ _ h => h
  case hS => exact hHeld
  case hy => (refine Or.inl ⟨by rfl, ?_⟩; intro w hSw; go_split_ands; go_simp; (try with_reducible rfl))
  (try simp only [List.getElem_toArray, List.getElem_cons_succ, List.getElem_cons_zero, Act.put, List.setIfInBounds_toArray, List.set_cons_zero, List.set_cons_succ])
  refine wpAnyH_done (by kernel_rfl) ?_ _
  have HG := Lib.hid (HF.out.trans (hb13.mono HF.out.size))
  clear hb10 hb11 hb12 hb13 hC hcc k1 k2 k3 k4
  go_wp2
  go_ret
  exact ⟨rfl, HG.out⟩
end Go.Proofs.Ytdmfbgojafbhcaa
