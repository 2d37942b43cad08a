/-
  TkSplt
  TkJoin
-/
import Derived.Recover
import Derived.Defers
import Derived.Deep.CutBlock
import Derived.Deep.DeepCutAuto
import Derived.Test.YteekdhcffiaaaaaDoorPk29
import Derived.Test.YteekdhcffiaaaaaDoorPk27
import Derived.Deep.RegionHeld3
import Derived.Test.YteekdhcffiaaaaaDoorPk3
import Derived.Test.YteekdhcffiaaaaaDoorKSq
namespace Go.Proofs.YteekdhcffiaaaaaDoor
open Go Go.RowKit Sh Leaf

abbrev TMS : TypeId := 24
theorem tvalid (w : World) (lo hi : Int) : Calls Tryd.prog 13 #[.agg #[.int .i64 lo, .int .i64 hi]] w fun e w' => e = .returned (.bool (decide (tmok lo hi))) ∧ Below w.heap.size w w' := by
  obtain ⟨p, hp⟩ : ∃ p, p = w.alloc (.cells #[.int .i64 lo, .int .i64 hi] 24) := ⟨_, rfl⟩
  have hr : Whole p w.heap.size 24 #[.int .i64 lo, .int .i64 hi] := by rw [hp]; exact Whole.here _ _ _
  have hb : Below w.heap.size w p := by rw [hp]; exact (Below.refl _ _).alloc (Nat.le_refl _) _
  obtain ⟨D, hD⟩ : ∃ D, D = decide (tmok lo hi) := ⟨_, rfl⟩
  rw [← hD]
  have h0 := hr.cell 0
  have h1 := hr.cell 1
  have HB := Lib.hid hb
  have HD := Lib.hid hD
  clear hb hD hr
  go_enter Tryd.func13, Tryd.ntmps13
  go_upto_region 1 with fail
  rw [← hp]
  clear hp
  by_cases a1 : 0 ≤ lo
  · by_cases a2 : lo ≤ hi
    · by_cases a3 : hi ≤ 150
      · have hD' : D = true := by rw [HD.out]; exact decide_eq_true ⟨a1, a2, a3⟩
        go_wp2_with fail
        go_ret
        exact ⟨by rw [hD']; rfl, HB.out⟩
      · have hD' : D = false := by rw [HD.out]; exact decide_eq_false fun h => a3 h.2.2
        go_wp2_with fail
        go_ret
        exact ⟨rfl, HB.out⟩
    · have hD' : D = false := by rw [HD.out]; exact decide_eq_false fun h => a2 h.2.1
      go_wp2_with fail
      go_ret
      exact ⟨rfl, HB.out⟩
  · have hD' : D = false := by rw [HD.out]; exact decide_eq_false fun h => a1 h.1
    go_wp2_with fail
    go_ret
    exact ⟨rfl, HB.out⟩
theorem tmsSize : (Tryd.prog.info? 24).map (·.size) = some 2 := by kernel_rfl
theorem wpList_load_tms {w : World} {g : Nat} {ops : Array Oper} {rest : List Oper} {o : Oper} {a : Act} {Q : Exit → Act → World → Prop} (hgd : o.guard = none) (x : Operand) (ho : o.op = .load 24 x) (hx : a.eval x = .pointer (some ⟨g, 0, none⟩)) {x1 x2 : Value} (hg : Whole w g 24 #[x1, x2])
    (h : wpList Tryd.prog ops Q rest (a.put o.dst (.agg #[x1, x2])) w) : wpList Tryd.prog ops Q (o :: rest) a w :=
  wpList_load_row hgd 24 x ho g hx 24 _ (0, 0) _ hg Tryd.underlying24 rfl (by rw [tmsSize]; rfl) h
theorem results_key2 {w : World} {g g2 : Nat} {fn : Func} {p q : Tmp} (h : fn.results = #[.cell p 28, .cell q 24]) (tmps : Array Value) {cs cs2 : Array Value} (hp : tmps.getD p undef = .pointer (some ⟨g, 0, none⟩)) (hq : tmps.getD q undef = .pointer (some ⟨g2, 0, none⟩))
    (h8 : cs.size = 32) (h8' : cs2.size = 2) (hg : Whole w g 28 cs) (hg2 : Whole w g2 24 cs2) : (results fn tmps).run Tryd.prog w = .ok (.tuple #[.agg cs, .agg cs2]) w := by
  have hp' : tmps[p]?.getD undef = .pointer (some ⟨g, 0, none⟩) := by simpa using hp
  have hq' : tmps[q]?.getD undef = .pointer (some ⟨g2, 0, none⟩) := by simpa using hq
  simp [results, h, hp', hq', asAddr, run_loadVar_row w g 28 28 _ (0, 0) _ hg Tryd.underlying28 rfl (by rw [tagSize, h8]), run_loadVar_row w g2 24 24 _ (0, 0) _ hg2 Tryd.underlying24 rfl (by rw [tmsSize, h8'])]
def MSp (w : World) (l : List B8) (e : Ending) (w' : World) : Prop := (match tsplit l with
  | some (K, lo, hi) => e = .returned (.tuple #[tagv K, .agg #[.int .i64 lo, .int .i64 hi]])
  | none => TkPan e) ∧ Below w.heap.size w w'
set_option linter.unusedSimpArgs false in
set_option linter.unusedVariables false in
set_option maxRecDepth 100000 in
set_option maxHeartbeats 4000000 in
theorem must_split {w : World} {Q : Nat → Prop} {A : Option Addr} {c : Nat} {l : List B8} (hb : Bytes w Q (.slice A l.length c) l) :
    Calls Tryd.prog 56 #[.slice A l.length c] w (MSp w l) := by
  obtain ⟨p, hp⟩ : ∃ p, p = (w.alloc (.cells ztr 28)).alloc (.cells #[.int .i64 0, .int .i64 0] 24) := ⟨_, rfl⟩
  have hk : Whole p w.heap.size 28 ztr := by rw [hp]; exact (Whole.here _ _ _).alloc _
  have ht : Whole p (w.heap.size + 1) 24 #[.int .i64 0, .int .i64 0] := by rw [hp]; exact Whole.at_ _ _ _ _ (by simp)
  have hbp : Below w.heap.size w p := by rw [hp]; exact ((Below.refl _ _).alloc (Nat.le_refl _) _).alloc (by simp) _
  have hps : w.heap.size + 1 < p.heap.size := ht.lt
  have HK := Lib.hid hk
  have HT := Lib.hid ht
  have HP := Lib.hid hp
  have HB := Lib.hid hbp
  have HBY := Lib.hid (hb.below hbp (Nat.le_refl _))
  obtain ⟨N, hN⟩ : ∃ N, N = l.length := ⟨_, rfl⟩
  have HN := Lib.hid hN
  rw [← hN]
  clear hk ht hp hbp hb hN
  by_cases h32 : 32 ≤ N
  case neg =>
    have hcm := must_no p
    have hi32 : ¬ (32 : Int) ≤ (N : Int) := by omega
    go_enter Tryd.func56, Tryd.ntmps56
    go_upto_region 1 with fail
    rw [ztr_lit, ← HP.out]
    go_wp2_with fail
    refine hcm.mono ?_
    rintro e w2 ⟨⟨u, pv, rfl⟩, hw⟩
    subst hw
    go_wp2_with fail
    refine ⟨rfl, ?_⟩
    unfold MSp tsplit
    rw [if_pos (by have := HN.out; omega)]
    exact ⟨⟨_, _, rfl⟩, HB.out⟩
  case pos =>
    have hcm := must_ok p
    have hi32 : (32 : Int) ≤ (N : Int) := by omega
    go_enter Tryd.func56, Tryd.ntmps56
    go_upto_region 1 with fail
    rw [ztr_lit, ← HP.out]
    go_wp2_with fail
    refine hcm.mono ?_
    rintro e w2 ⟨rfl, hw⟩
    subst hw
    go_upto_region 2 with fail
    obtain ⟨A0, c0, he0, hlc, hcm, hz, hce⟩ := id HBY.out
    rw [← HN.out] at he0 hlc hce
    injection he0 with q1 _ q3
    subst q1 q3
    obtain ⟨g0, o, rfl, hq0, hcell⟩ := hce (by omega)
    have hfr := fun W => run_seq_from (P := Tryd.prog) (t := 39) (n := 1) Tryd.underlying39 (by kernel_rfl) (some ⟨g0, o, none⟩) N c 32 h32 W
    rw [Nat.mul_one] at hfr
    have hic : (32 : Int) ≤ (c : Int) := by omega
    have hdr := (HBY.out).drop 32 (by have := HN.out; omega)
    have hdl : (l.drop 32).length = l.length - 32 := List.length_drop
    rw [← hdl] at hdr
    obtain ⟨A1, hA1⟩ : ∃ x, x = (if c = 32 then some (⟨g0, o, none⟩ : Addr) else (some (⟨g0, o, none⟩ : Addr)).map (·.add 32)) := ⟨_, rfl⟩
    obtain ⟨c1, hc1⟩ : ∃ x, x = c - 32 := ⟨_, rfl⟩
    obtain ⟨l1, hl1⟩ : ∃ x, x = l.drop 32 := ⟨_, rfl⟩
    rw [← hA1, ← hc1] at hdr hfr
    rw [← hl1] at hdr hdl
    rw [HN.out, ← hdl, ← HN.out] at hfr
    have hfr2 : ∀ W, (Instr.sliceAt 39 (.slice (some ⟨g0, o, none⟩) N c) (some (.int .i64 32)) none none).run Tryd.prog W = .ok (.slice A1 l1.length c1) W := hfr
    have HDR := Lib.hid hdr
    have HL1 := Lib.hid hl1
    clear hfr hdr hdl hA1 hc1 hl1
    have har := fun W => Go.Proofs.YteekdhcffiaaaaaDoor.run_arrayAt (P := Tryd.prog) Tryd.underlying28 (some ⟨g0, o, none⟩) 32 c (Nat.le_refl _) W
    have hT32 : (l.take 32).length = 32 := by rw [List.length_take]; have := HN.out; omega
    obtain ⟨K, hK⟩ : ∃ K, K = l.take 32 := ⟨_, rfl⟩
    have hlK : K.length = 32 := by rw [hK]; exact hT32
    have HKK := Lib.hid hK
    have hrg : w2.rangeAt g0 o (K.map byt) := fun j v hj => by
      rw [hK, List.getElem?_map] at hj
      obtain ⟨x, hx, rfl⟩ := Option.map_eq_some_iff.1 hj
      rw [List.getElem?_take] at hx
      split at hx
      · exact hcell j x hx
      · cases hx
    have HRG := Lib.hid hrg
    clear hcell hce hT32 hK hrg hlc hz
    go_upto_region 3 with (first
      | (with_reducible refine wpList_load_mid rfl 28 _ rfl g0 o rfl _ _ HRG.out Tryd.underlying28 rfl (tag_sz hlK) ?_)
      | (with_reducible refine wpList_store_tag rfl _ _ rfl (g := w2.heap.size) rfl rfl (Whole.here w2 _ _) rfl (tag_size hlK) (tag_one _) ?_))
    rw [ztr_lit]
    obtain ⟨q3, hq⟩ : ∃ q, q = (w2.alloc (.cells ztr 28)).setRow w2.heap.size (K.map byt).toArray := ⟨_, rfl⟩
    rw [← hq]
    have h4 : TGRow q3 w2.heap.size K := by rw [hq]; exact Whole.setRow (Whole.here _ _ _) _
    have hb3 : Below w2.heap.size w2 q3 := by rw [hq]; exact below_setRow ((Below.refl _ _).alloc (Nat.le_refl _) _) (Nat.le_refl _) _
    have hs3 : w2.heap.size < q3.heap.size := h4.lt
    have HK3 := Lib.hid (Whole.below HK.out hb3 (by omega))
    have HT3 := Lib.hid (Whole.below HT.out hb3 (by omega))
    have HB3 := Lib.hid (HB.out.trans (hb3.mono (by omega)))
    have H4 := Lib.hid h4
    have hcl := must_read (HDR.out.below hb3 (Nat.le_refl _))
    simp only [Act.put]
    clear hq h4 hb3 HK HT HB HP HRG har hic hi32
    go_wp2_with fail
    refine hcl.mono ?_
    rintro e w4 ⟨hor, hb4⟩
    clear hcl
    have hs4 : q3.heap.size ≤ w4.heap.size := hb4.size
    obtain ⟨R1, hR1⟩ : ∃ R, R = rd l1 := ⟨_, rfl⟩
    rw [← hR1] at hor
    have HR1 := Lib.hid hR1
    clear hR1
    have HB4 := Lib.hid (HB3.out.trans (hb4.mono (by omega)))
    have HK4 := Lib.hid (Whole.below HK3.out hb4 (by omega))
    have HT4 := Lib.hid (Whole.below HT3.out hb4 (by omega))
    have H44 := Lib.hid (Whole.below H4.out hb4 (by omega))
    have h32' : ¬ l.length < 32 := by have := HN.out; omega
    have H32 := Lib.hid h32'
    clear hb4 HB3 HK3 HT3 H4 h32'
    obtain ⟨n1, k1, z1⟩ := R1
    dsimp only at hor
    rcases hor with ⟨rfl, A2, c2, rfl, hby2⟩ | ⟨hz1, u, pv, rfl⟩
    case inr =>
      go_wp2_with fail
      refine ⟨rfl, ?_⟩
      unfold MSp tsplit
      rw [if_neg H32.out, ← HL1.out, ← HR1.out, if_pos hz1]
      exact ⟨⟨_, _, rfl⟩, HB4.out⟩
    obtain ⟨l2, hl2⟩ : ∃ x, x = l1.drop k1 := ⟨_, rfl⟩
    rw [← hl2] at hby2 ⊢
    have HL2 := Lib.hid hl2
    clear hl2
    have hcl := must_read hby2
    go_wp2_with fail
    refine hcl.mono ?_
    rintro e w5 ⟨hor, hb5⟩
    clear hcl hby2
    have hs5 : w4.heap.size ≤ w5.heap.size := hb5.size
    obtain ⟨R2, hR2⟩ : ∃ R, R = rd l2 := ⟨_, rfl⟩
    rw [← hR2] at hor
    have HR2 := Lib.hid hR2
    clear hR2
    have HB5 := Lib.hid (HB4.out.trans (hb5.mono (by omega)))
    have HK5 := Lib.hid (Whole.below HK4.out hb5 (by omega))
    have HT5 := Lib.hid (Whole.below HT4.out hb5 (by omega))
    have H45 := Lib.hid (Whole.below H44.out hb5 (by omega))
    clear hb5 HB4 HK4 HT4 H44
    obtain ⟨n2, k2, z2⟩ := R2
    dsimp only at hor
    have hts : tsplit l = if z2 ≠ 0 then none else if tmok (n1 : Int) (n2 : Int) ∧ l2.drop k2 = [] then some (K, (n1 : Int), (n2 : Int)) else none := by
      unfold tsplit
      rw [if_neg H32.out, ← HL1.out, ← HR1.out, if_neg (by simp), ← HL2.out, ← HR2.out, HKK.out]
    rcases hor with ⟨rfl, A3, c3, rfl, hby3⟩ | ⟨hz2, u, pv, rfl⟩
    case inr =>
      rw [if_pos hz2] at hts
      have HTS := Lib.hid hts
      clear hts
      go_wp2_with fail
      refine ⟨rfl, ?_⟩
      unfold MSp
      rw [HTS.out]
      exact ⟨⟨_, _, rfl⟩, HB5.out⟩
    rw [if_neg (by simp)] at hts
    obtain ⟨D, hD⟩ : ∃ D, D = decide (tmok (n1 : Int) (n2 : Int)) := ⟨_, rfl⟩
    obtain ⟨m3, hm3⟩ : ∃ m, m = (l2.drop k2).length := ⟨_, rfl⟩
    rw [← hm3]
    have HTS := Lib.hid hts
    have HD := Lib.hid hD
    have HM3 := Lib.hid hm3
    clear hts hD hm3 hby3
    go_upto_region 6 with fail
    obtain ⟨q6, hq⟩ : ∃ q, q = w5.alloc (.cells #[.int .i64 (n1 : Int), .int .i64 (n2 : Int)] 24) := ⟨_, rfl⟩
    rw [← hq]
    have h8 : Whole q6 w5.heap.size 24 #[.int .i64 (n1 : Int), .int .i64 (n2 : Int)] := by rw [hq]; exact Whole.here _ _ _
    have hb6 : Below w5.heap.size w5 q6 := by rw [hq]; exact (Below.refl _ _).alloc (Nat.le_refl _) _
    have hs6 : w5.heap.size < q6.heap.size := h8.lt
    have HB6 := Lib.hid (HB5.out.trans (hb6.mono (by omega)))
    have HK6 := Lib.hid (Whole.below HK5.out hb6 (by omega))
    have HT6 := Lib.hid (Whole.below HT5.out hb6 (by omega))
    have H46 := Lib.hid (Whole.below H45.out hb6 (by omega))
    have H86 := Lib.hid h8
    clear hq h8 hb6 HB5 HK5 HT5 H45
    have hcl := tvalid q6 (n1 : Int) (n2 : Int)
    rw [← HD.out] at hcl
    go_wp2_with (first
      | (with_reducible refine wpList_load_tms rfl _ rfl rfl H86.out ?_))
    refine hcl.mono ?_
    rintro e w7 ⟨rfl, hb7⟩
    clear hcl
    have hs7 : q6.heap.size ≤ w7.heap.size := hb7.size
    have HB7 := Lib.hid (HB6.out.trans (hb7.mono (by omega)))
    have HK7 := Lib.hid (Whole.below HK6.out hb7 (by omega))
    have HT7 := Lib.hid (Whole.below HT6.out hb7 (by omega))
    have H47 := Lib.hid (Whole.below H46.out hb7 (by omega))
    have H87 := Lib.hid (Whole.below H86.out hb7 (by omega))
    clear hb7 HB6 HK6 HT6 H46 H86
    by_cases hgood : D = true ∧ m3 = 0
    case neg =>
      have HG : Hid (tsplit l = none) := Lib.hid (by
        rw [HTS.out, if_neg]
        rintro ⟨h1, h2⟩
        exact hgood ⟨by rw [HD.out]; exact decide_eq_true h1, by rw [HM3.out, h2]; rfl⟩)
      have hcm := must_no w7
      have hfin : ∀ (u : TypeId) (pv : Value), MSp w l (.panicked [{ v := .iface u pv, recovered := false }]) w7 := fun u pv => by
        unfold MSp
        rw [HG.out]
        exact ⟨⟨_, _, rfl⟩, HB7.out⟩
      have HFIN := Lib.hid hfin
      clear hfin
      cases D with
      | false =>
        clear hgood
        go_wp2_with fail
        refine hcm.mono ?_
        rintro e w8 ⟨⟨u, pv, rfl⟩, hw⟩
        subst hw
        go_wp2_with fail
        exact ⟨rfl, HFIN.out _ _⟩
      | true =>
        have hm0 : ((m3 : Int) == 0) = false := by
          have : ¬ m3 = 0 := fun h => hgood ⟨rfl, h⟩
          simp; omega
        clear hgood
        go_wp2_with fail
        refine hcm.mono ?_
        rintro e w8 ⟨⟨u, pv, rfl⟩, hw⟩
        subst hw
        go_wp2_with fail
        exact ⟨rfl, HFIN.out _ _⟩
    obtain ⟨rfl, rfl⟩ := hgood
    have HG : Hid (tsplit l = some (K, (n1 : Int), (n2 : Int))) := Lib.hid (by
      rw [HTS.out, if_pos]
      exact ⟨of_decide_eq_true HD.out.symm, List.eq_nil_of_length_eq_zero HM3.out.symm⟩)
    have hcm := must_ok w7
    go_wp2_with fail
    refine hcm.mono ?_
    rintro e w8 ⟨rfl, hw⟩
    subst hw
    clear hcm
    go_upto_region 7 with fail
    have hk8 : Whole w8.drew w.heap.size 28 ztr := Whole.drew HK7.out
    have ht8 : Whole w8.drew (w.heap.size + 1) 24 #[.int .i64 0, .int .i64 0] := Whole.drew HT7.out
    have h48 : TGRow w8.drew w2.heap.size K := Whole.drew H47.out
    have h88 : Whole w8.drew w5.heap.size 24 #[.int .i64 (n1 : Int), .int .i64 (n2 : Int)] := Whole.drew H87.out
    have hb8 : Below w.heap.size w w8.drew := Below.drew HB7.out
    refine wp_region_held_drew (S := fun W : World => W.rangeAt w2.heap.size 0 (K.map byt) ∧ W.rangeAt w5.heap.size 0 [.int .i64 (n1 : Int), .int .i64 (n2 : Int)]) (by kernel_rfl) (⟨TGRow.range h48, Whole.range h88⟩) (fun hHeld => ?_)
    apply wpAnyH_take (i := 0) rfl (by kernel_rfl) (by kernel_rfl) (by kernel_rfl)
    case hQ => exact fun _ _ _ h => h
    case hS => exact hHeld
    case hy => exact yieldsIf_load_mid (by rfl) 28 _ rfl w2.heap.size (0) rfl ((K.map byt)) _ (fun w hS => hS.1) Tryd.underlying28 rfl (by rw [tagSize, List.length_map, hlK])
    (try simp only [List.getElem_toArray, List.getElem_cons_zero, Act.put, List.setIfInBounds_toArray, List.set_cons_zero, List.set_cons_succ])
    apply wpAnyH_take (i := 1) rfl (by kernel_rfl) (by kernel_rfl) (by kernel_rfl)
    case hQ => exact fun _ _ _ h => h
    case hS => exact hHeld
    case hy => exact yieldsIf_load_mid (by rfl) 24 _ rfl w5.heap.size (0) rfl ([.int .i64 (n1 : Int), .int .i64 (n2 : Int)]) _ (fun w hS => hS.2) Tryd.underlying24 rfl (by rw [tmsSize]; rfl)
    (try simp only [List.getElem_toArray, List.getElem_cons_succ, List.getElem_cons_zero, Act.put, List.setIfInBounds_toArray, List.set_cons_zero, List.set_cons_succ])
    refine wpAnyH_ready (rs := [2]) (by kernel_rfl) (by simp) ?_
    refine AllReadyH.cons rfl (fun KK hKK => ?_) AllReadyH.nil
    obtain ⟨X1, hX1⟩ : ∃ x, x = w8.drew.setRow w.heap.size (K.map byt).toArray := ⟨_, rfl⟩
    have hkX1 : Whole X1 w.heap.size 28 (K.map byt).toArray := by rw [hX1]; exact Whole.setRow hk8 _
    have htX1 : Whole X1 (w.heap.size + 1) 24 #[.int .i64 0, .int .i64 0] := by rw [hX1]; exact Whole.setRow_far ht8 (by omega) _
    have h4X1 : TGRow X1 w2.heap.size K := by rw [hX1]; exact Whole.setRow_far h48 (by omega) _
    have h8X1 : Whole X1 w5.heap.size 24 #[.int .i64 (n1 : Int), .int .i64 (n2 : Int)] := by rw [hX1]; exact Whole.setRow_far h88 (by omega) _
    have hbX1 : Below w.heap.size w X1 := by rw [hX1]; exact below_setRow hb8 (by omega) _
    rw [if_pos (by kernel_rfl)]
    refine wp_store_row 28 _ _ rfl (w.heap.size) _ rfl rfl 28 _ hk8 (by rw [tagSize, tag_size hlK]) (by rw [ztr_size, tag_size hlK]) (tag_one _) ?_
    rw [← hX1]
    clear hX1
    refine hKK.out _ _ (⟨TGRow.range h4X1, Whole.range h8X1⟩) (fun hHeld => ?_)
    clear hKK KK
    (try simp only [List.getElem_toArray, List.getElem_cons_succ, List.getElem_cons_zero, Act.put, List.setIfInBounds_toArray, List.set_cons_zero, List.set_cons_succ])
    refine wpAnyH_ready (rs := [3]) (by kernel_rfl) (by simp) ?_
    refine AllReadyH.cons rfl (fun KK hKK => ?_) AllReadyH.nil
    obtain ⟨X2, hX2⟩ : ∃ x, x = X1.setRow (w.heap.size + 1) #[.int .i64 (n1 : Int), .int .i64 (n2 : Int)] := ⟨_, rfl⟩
    have hkX2 : Whole X2 w.heap.size 28 (K.map byt).toArray := by rw [hX2]; exact Whole.setRow_far hkX1 (by omega) _
    have htX2 : Whole X2 (w.heap.size + 1) 24 #[.int .i64 (n1 : Int), .int .i64 (n2 : Int)] := by rw [hX2]; exact Whole.setRow htX1 _
    have h4X2 : TGRow X2 w2.heap.size K := by rw [hX2]; exact Whole.setRow_far h4X1 (by omega) _
    have h8X2 : Whole X2 w5.heap.size 24 #[.int .i64 (n1 : Int), .int .i64 (n2 : Int)] := by rw [hX2]; exact Whole.setRow_far h8X1 (by omega) _
    have hbX2 : Below w.heap.size w X2 := by rw [hX2]; exact below_setRow hbX1 (by omega) _
    rw [if_pos (by kernel_rfl)]
    refine wp_store_row 24 _ _ rfl ((w.heap.size + 1)) _ rfl rfl 24 _ htX1 (by rw [tmsSize]; rfl) (rfl) (by simp [Value.oneCell']) ?_
    rw [← hX2]
    clear hX2
    refine hKK.out _ _ (⟨TGRow.range h4X2, Whole.range h8X2⟩) (fun hHeld => ?_)
    clear hKK KK
    (try simp only [List.getElem_toArray, List.getElem_cons_succ, List.getElem_cons_zero, Act.put, List.setIfInBounds_toArray, List.set_cons_zero, List.set_cons_succ])
    refine wpAnyH_done (by kernel_rfl) ?_ _
    go_wp2_with fail
    refine bodyPost_ret (results_key2 Tryd.results56 _ rfl rfl (tag_size hlK) rfl hkX2 htX2) rfl ?_
    unfold MSp
    rw [HG.out]
    exact ⟨rfl, hbX2⟩
end Go.Proofs.YteekdhcffiaaaaaDoor
namespace Go.Proofs.YteekdhcffiaaaaaDoor
open Go Go.RowKit Sh Leaf

set_option linter.unusedSimpArgs false in
set_option linter.unusedVariables false in
set_option maxRecDepth 100000 in
set_option maxHeartbeats 4000000 in
theorem tjoined {w : World} {K : List B8} {lo hi : Int} (hK : K.length = 32) (h : tmok lo hi) :
    Calls Tryd.prog 29 #[.agg (K.map byt).toArray, .agg #[.int .i64 lo, .int .i64 hi]] w fun e w' => ∃ v, e = .returned v ∧ Own w' w.heap.size v (tjoin K lo hi) ∧ Below w.heap.size w w' := by
  obtain ⟨p, hp⟩ : ∃ p, p = (w.alloc (.cells (K.map byt).toArray 28)).alloc (.cells #[.int .i64 lo, .int .i64 hi] 24) := ⟨_, rfl⟩
  have hk : TGRow p w.heap.size K := by rw [hp]; exact (Whole.here _ _ _).alloc _
  have ht : Whole p (w.heap.size + 1) 24 #[.int .i64 lo, .int .i64 hi] := by rw [hp]; exact Whole.at_ _ _ _ _ (by simp)
  have hb : Below w.heap.size w p := by rw [hp]; exact ((Below.refl _ _).alloc (Nat.le_refl _) _).alloc (by simp) _
  have hps : w.heap.size + 1 < p.heap.size := ht.lt
  obtain ⟨h1, h2, h3⟩ := h
  obtain ⟨a, rfl⟩ : ∃ a : Nat, lo = a := ⟨lo.toNat, by omega⟩
  obtain ⟨b, rfl⟩ : ∃ b : Nat, hi = b := ⟨hi.toNat, by omega⟩
  have hbd : Below p.heap.size p p.drew := (Below.refl _ _).drew
  have hby := Whole.bytes (Whole.below hk hbd (by omega)) (by omega)
  rw [hK] at hby
  have ha7 := enc_len7 (n := a) (by omega)
  have hc1 := append_ok _ K _ a p.drew hby (by omega) (by omega)
  have hst := fun g W => run_sliceAt_whole (P := Tryd.prog) (t := 28) (e := 5) (n := 32) Tryd.underlying28 (by kernel_rfl) g W
  obtain ⟨E, hE⟩ : ∃ E, E = tjoin K a b := ⟨_, rfl⟩
  have hE2 : (K ++ enc a) ++ enc b = E := by rw [hE]; unfold tjoin; rw [Int.toNat_natCast, Int.toNat_natCast]
  rw [← hE]
  have c0 := (Whole.below ht hbd hps).cell 0
  have HT := Lib.hid (Whole.below ht hbd hps)
  have HB := Lib.hid (hb.trans (hbd.mono (by omega)))
  have hsd : p.heap.size ≤ p.drew.heap.size := hbd.size
  have HE := Lib.hid hE2
  clear hE hE2 hk ht hby hb hbd
  go_enter Tryd.func29, Tryd.ntmps29
  go_upto_region 1 with fail
  rw [← hp]
  clear hp
  refine wp_region_held_drew (S := fun _ : World => True) (by kernel_rfl) (trivial) (fun hHeld => ?_)
  generalize p.drew = W0 at *
  apply wpT (i := 0) rfl (by kernel_rfl)
  case hQ => exact fun _ _ _ h => h
  case hS => exact hHeld
  case hy => (refine Or.inl ⟨by rfl, ?_⟩; intro w hSw; (try go_split_ands); go_simp; (try with_reducible rfl))
  (try simp only [sq])
  apply wpT (i := 1) rfl (by kernel_rfl)
  case hQ => exact fun _ _ _ h => h
  case hS => exact hHeld
  case hy => (refine Or.inl ⟨by rfl, ?_⟩; intro w hSw; (try go_split_ands); go_simp; (try with_reducible rfl))
  (try simp only [sq])
  refine wpAnyH_ready (rs := [2]) (by kernel_rfl) (by simp) ?_
  refine AllReadyH.cons rfl (fun KK hKK => ?_) AllReadyH.nil
  (try simp only [sq])
  go_simp
  refine hKK.out _ _ (trivial) (fun hHeld => ?_)
  clear hKK KK
  (try simp only [sq])
  refine wpAnyH_ready (rs := [3]) (by kernel_rfl) (by simp) ?_
  refine AllReadyH.cons rfl (fun KK hKK => ?_) AllReadyH.nil
  (try simp only [sq])
  go_simp
  go_at_call 50
  refine hc1.mono ?_
  rintro e w1 ⟨v1, rfl, ho1, hb1⟩
  refine hKK.out _ _ (trivial) (fun hHeld => ?_)
  clear hKK KK
  (try simp only [sq])
  refine wpAnyH_ready (rs := [4]) (by kernel_rfl) (by simp) ?_
  refine AllReadyH.cons rfl (fun KK hKK => ?_) AllReadyH.nil
  (try simp only [sq])
  go_simp
  refine hKK.out _ _ (trivial) (fun hHeld => ?_)
  clear hKK KK
  (try simp only [sq])
  apply wpT (i := 5) rfl (by kernel_rfl)
  case hQ => exact fun _ _ _ h => h
  case hS => exact hHeld
  case hy => (refine Or.inl ⟨by rfl, ?_⟩; intro w hSw; (try go_split_ands); go_simp; (try with_reducible rfl))
  (try simp only [sq])
  apply wpT (i := 6) rfl (by kernel_rfl)
  case hQ => exact fun _ _ _ h => h
  case hS => exact hHeld
  case hy => (refine Or.inl ⟨by rfl, ?_⟩; intro w hSw; (try go_split_ands); go_simp; (try with_reducible rfl))
  (try simp only [sq])
  refine wpAnyH_ready (rs := [7]) (by kernel_rfl) (by simp) ?_
  refine AllReadyH.cons rfl (fun KK hKK => ?_) AllReadyH.nil
  (try simp only [sq])
  go_simp
  refine hKK.out _ _ (trivial) (fun hHeld => ?_)
  clear hKK KK
  (try simp only [sq])
  refine wpAnyH_ready (rs := [8]) (by kernel_rfl) (by simp) ?_
  refine AllReadyH.cons rfl (fun KK hKK => ?_) AllReadyH.nil
  (try simp only [sq])
  go_simp
  refine hKK.out _ _ (trivial) (fun hHeld => ?_)
  clear hKK KK
  (try simp only [sq])
  refine wpAnyH_done (by kernel_rfl) ?_ _
  have hs1 := hb1.size
  have c1 := (Whole.below HT.out hb1 (by omega)).cell 1
  have hc2 := append_ok v1 (K ++ enc a) _ b w1 (Bytes.of_own ho1) (by rw [List.length_append]; omega) (by omega)
  rw [HE.out] at hc2
  have HB1 := Lib.hid (HB.out.trans (hb1.mono (by omega)))
  clear hc1 hb1 ho1 c0 hst HT HB HE
  go_wp2_with fail
  refine hc2.mono ?_
  rintro e w2 ⟨v2, rfl, ho2, hb2⟩
  have HO := Lib.hid (own_mono ho2 (by omega : w.heap.size ≤ w1.heap.size))
  have HB2 := Lib.hid (HB1.out.trans (hb2.mono (by omega)))
  clear hc2 hb2 ho2 c1 HB1
  go_wp2_with fail
  go_ret
  exact ⟨v2, rfl, HO.out, HB2.out⟩
end Go.Proofs.YteekdhcffiaaaaaDoor
