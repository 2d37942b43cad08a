/-
  RefOpT
-/
import Derived.Deep.RegionHeld3
import Derived.Deep.CutBlock
import Derived.Deep.DeepCutAuto
import Derived.Test.YteekdhcffiaaaaaDoorPk49
import Derived.Test.YteekdhcffiaaaaaDoorPk32
import Derived.Test.YteekdhcffiaaaaaDoorPk50
import Derived.Test.YteekdhcffiaaaaaDoorKSq
import Derived.Test.YteekdhcffiaaaaaDoorPk27
namespace Go.Proofs.YteekdhcffiaaaaaDoor
open Go Go.RowKit Sh Leaf

def rsp (X : List B8) : Nat × Nat × Nat × Nat :=
  let u := if 32 ≤ X.length then 32 else 0
  let e := if 32 ≤ X.length then 0 else 3
  let q1 := qnum X u e
  let q2 := qnum X (u + q1.2.1) q1.2.2
  (q1.1, q2.1, u + q1.2.1 + q2.2.1, q2.2.2)
theorem rsp_split (X : List B8) : tsplit X = if (rsp X).2.2.2 = 0 ∧ (rsp X).2.2.1 = X.length ∧ tmok ((rsp X).1 : Int) ((rsp X).2.1 : Int) then some (X.take 32, ((rsp X).1 : Int), ((rsp X).2.1 : Int)) else none := by
  by_cases h : 32 ≤ X.length
  · rcases hq : rd (X.drop 32) with ⟨n1, k1, e1⟩
    have hk1 := rd_le (X.drop 32)
    rw [hq] at hk1
    have q1 : qnum X 32 0 = (n1, k1, e1) := by unfold qnum; rw [if_pos rfl, hq]
    rcases hq2 : qnum X (32 + k1) e1 with ⟨n2, k2, e2⟩
    have hr : rsp X = (n1, n2, 32 + k1 + k2, e2) := by
      unfold rsp
      dsimp only
      rw [if_pos h, if_pos h, q1]
      dsimp only
      rw [hq2]
    rw [hr]
    unfold tsplit
    simp only [hq]
    rw [if_neg (by omega)]
    by_cases he : e1 = 0
    · subst he
      have hq3 : rd ((X.drop 32).drop k1) = (n2, k2, e2) := by
        unfold qnum at hq2
        rw [if_pos rfl] at hq2
        rw [List.drop_drop, hq2]
      have hk2 := rd_le ((X.drop 32).drop k1)
      rw [hq3] at hk2
      simp only [hq3]
      rw [if_neg (by simp)]
      by_cases he2 : e2 = 0
      · subst he2
        rw [if_neg (by simp)]
        have hiff : ((X.drop 32).drop k1).drop k2 = [] ↔ 32 + k1 + k2 = X.length := by
          rw [List.drop_eq_nil_iff]
          simp only [List.length_drop] at hk1 hk2 ⊢
          omega
        by_cases ht : tmok (n1 : Int) (n2 : Int)
        · by_cases hr : 32 + k1 + k2 = X.length
          · rw [if_pos ⟨ht, hiff.2 hr⟩, if_pos ⟨rfl, hr, ht⟩]
          · rw [if_neg fun h => hr (hiff.1 h.2), if_neg fun h => hr h.2.1]
        · rw [if_neg fun h => ht h.1, if_neg fun h => ht h.2.2]
      · rw [if_pos he2, if_neg fun h => he2 h.1]
    · have q2 : e2 = e1 := by
        unfold qnum at hq2
        rw [if_neg he] at hq2
        injection hq2 with _ h2; injection h2 with _ h2
        exact h2.symm
      rw [if_pos he, if_neg fun h => he (q2.symm.trans h.1)]
  · have hr : rsp X = (0, 0, 0, 3) := by
      unfold rsp
      dsimp only
      rw [if_neg h, if_neg h]
      rfl
    rw [hr]
    unfold tsplit
    rw [if_pos (by omega), if_neg fun h => by cases h.1]
set_option linter.unusedSimpArgs false in
set_option linter.unusedVariables false in
set_option maxRecDepth 100000 in
set_option maxHeartbeats 4000000 in
theorem ropent {w : World} {Q Q2 : Nat → Prop} {x vp : Value} {B : Option Addr} {d : Nat} {a : Alg} {K m : List B8} {z : Int} (hx : AlV w Q x a) (hlen : a.boxes.length < 1000) (hK : K.length = 32) (hm : Bytes w Q2 (.slice B m.length d) m) (hml : m.length ≤ 100000) :
    Calls Tryd.prog 20 #[x, .agg (cnl z K vp).toArray, .slice B m.length d] w (ToR w (pOpenT a K m)) := by
  have hx0 := hx
  obtain ⟨Am, cm, Ab, cb, rfl, hM, hBx, hA⟩ := hx
  obtain ⟨p, hp⟩ : ∃ p, p = (((w.alloc (.cells (alc a.free a.seed a.fresh (.slice Am a.macs.length cm) (.slice Ab a.boxes.length cb)) 32)).alloc (.cells (cnl z K vp).toArray 36)).alloc (.cells ztr 28)).alloc (.cells #[.int .i64 0, .int .i64 0] 24) := ⟨_, rfl⟩
  have hr : ALRow p w.heap.size a.free a.seed a.fresh (.slice Am a.macs.length cm) (.slice Ab a.boxes.length cb) := by rw [hp]; exact (((Whole.here _ _ _).alloc _).alloc _).alloc _
  have hn : Whole p (w.heap.size + 1) 36 (cnl z K vp).toArray := by rw [hp]; exact ((Whole.at_ _ _ _ _ (by simp)).alloc _).alloc _
  have hk : Whole p (w.heap.size + 1 + 1) 28 ztr := by rw [hp]; exact (Whole.at_ _ _ _ _ (by simp)).alloc _
  have ht : Whole p (w.heap.size + 1 + 1 + 1) 24 #[.int .i64 0, .int .i64 0] := by rw [hp]; exact Whole.at_ _ _ _ _ (by simp)
  have hb : Below w.heap.size w p := by rw [hp]; exact ((((Below.refl _ _).alloc (Nat.le_refl _) _).alloc (by simp) _).alloc (by simp; omega) _).alloc (by simp; omega) _
  have hps : w.heap.size + 1 + 1 + 1 < p.heap.size := ht.lt
  have hcl := ropen (hx0.below hb (Nat.le_refl _)) hlen hK (hm.below hb (Nat.le_refl _)) hml
  obtain ⟨R, hR⟩ : ∃ R, R = aOpen a K m := ⟨_, rfl⟩
  rw [← hR] at hcl
  have HR := Lib.hid hR
  have HAR := Lib.hid hr
  have HKY := Lib.hid (cnl_key hK hn)
  have HK := Lib.hid hk
  have HTM := Lib.hid ht
  have HP := Lib.hid hp
  have HB := Lib.hid hb
  obtain ⟨X, er⟩ := R
  unfold OpR at hcl
  dsimp only at hcl
  obtain ⟨N, hN⟩ : ∃ N, N = m.length := ⟨_, rfl⟩
  rw [← hN] at hcl ⊢
  clear hx0 hr hn hk ht hp hb hM hBx hA hm hR hN hml
  go_enter Tryd.func20, Tryd.ntmps20
  go_upto_region 1 with fail
  rw [ztr_lit, ← HP.out]
  clear HP
  go_wp2_with (first
    | (with_reducible refine wpList_load_alg rfl _ rfl rfl HAR.out (alc_size _ _ _ _ _) ?_)
    | (with_reducible refine wpList_load_mid rfl 28 _ rfl (w.heap.size + 1) 1 rfl _ _ HKY.out Tryd.underlying28 rfl (tag_sz hK) ?_))
  refine hcl.mono ?_
  rintro e w1 ⟨⟨v, rfl, hv⟩, hb1⟩
  clear hcl HAR HKY
  have hs1 : p.heap.size ≤ w1.heap.size := hb1.size
  have HK1 := Lib.hid (Whole.below HK.out hb1 (by omega))
  have HT1 := Lib.hid (Whole.below HTM.out hb1 (by omega))
  have HB1 := Lib.hid (HB.out.trans (hb1.mono (by omega)))
  obtain ⟨Av, cv, rfl, -⟩ := id hv
  have HV := Lib.hid hv
  clear hb1 HB HK HTM hv
  by_cases her : er = 0
  case neg =>
    have hb0 : (er != 0) = true := by simpa using her
    have HER := Lib.hid her
    clear her
    go_wp2_with (first
      | (with_reducible refine wpList_build_tag0 rfl rfl ?_)
      | (with_reducible refine wpList_build_tms0 rfl rfl ?_)
      | (with_reducible refine wpList_store_tag rfl _ _ rfl (g := w.heap.size + 1 + 1) rfl rfl HK1.out ztr_size (tag_size (by simp)) (tag_one _) ?_)
      | (with_reducible refine wpList_store_tms rfl _ _ rfl (g := w.heap.size + 1 + 1 + 1) rfl rfl (Whole.setRow_far HT1.out (by omega) _) rfl ?_))
    have h1 := Whole.setRow_far (Whole.setRow HK1.out (ztag.map byt).toArray) (g' := w.heap.size + 1 + 1 + 1) (by omega) #[.int .i64 0, .int .i64 0]
    have h2 := Whole.setRow (Whole.setRow_far HT1.out (g' := w.heap.size + 1 + 1) (by omega) (ztag.map byt).toArray) #[.int .i64 0, .int .i64 0]
    refine bodyPost_ret (results_open3 Tryd.results20 _ rfl rfl _ rfl (tag_size (by simp)) rfl h1 h2) rfl ?_
    unfold ToR pOpenT
    rw [← HR.out, if_pos HER.out]
    exact ⟨rfl, below_setRow (below_setRow HB1.out (by omega) _) (by omega) _⟩
  subst her
  have HRR : Hid (pOpenT a K m = match tsplit X with | some (K, lo, hi) => (K, (lo, hi), 0) | none => (ztag, (0, 0), 5)) := Lib.hid (by unfold pOpenT; rw [← HR.out, if_neg (by simp)]; rfl)
  obtain ⟨nx, hnx⟩ : ∃ n, n = X.length := ⟨_, rfl⟩
  have hv0 := HV.out
  rw [← hnx]
  have HNX := Lib.hid hnx
  obtain ⟨w2, hw2⟩ : ∃ q, q = w1.alloc (.cells #[.slice Av nx cv, .int .i64 0, .int .i64 0] 84) := ⟨_, rfl⟩
  have hrd : Whole w2 w1.heap.size 84 #[.slice Av nx cv, .int .i64 0, .int .i64 0] := by rw [hw2]; exact Whole.here _ _ _
  have hb2 : Below w1.heap.size w1 w2 := by rw [hw2]; exact (Below.refl _ _).alloc (Nat.le_refl _) _
  have hs2 : w1.heap.size < w2.heap.size := hrd.lt
  have hq2 : Qrd w1.heap.size w2 X 0 0 := ⟨Av, cv, (hv0.mono fun g hg _ => hg).below hb2 (Nat.le_refl _), by rw [← hnx]; exact hrd, Nat.zero_le _⟩
  have HK2 := Lib.hid (Whole.below HK1.out hb2 (by omega))
  have HT2 := Lib.hid (Whole.below HT1.out hb2 (by omega))
  have HB2 := Lib.hid (HB1.out.trans (hb2.mono (by omega)))
  clear hnx hrd hb2 hv0 HK1 HT1 HB1 HV
  go_upto_region 5 with fail
  rw [← hw2]
  clear hw2
  have hcl := qtag w1.heap.size X w2 hq2
  clear hq2
  go_wp2_with fail
  refine hcl.mono ?_
  rintro e w3 ⟨T, rfl, hTl, hTb, hqs⟩
  clear hcl
  obtain ⟨u0, hu0⟩ : ∃ u, u = if 32 ≤ X.length then 32 else 0 := ⟨_, rfl⟩
  obtain ⟨e0, he0⟩ : ∃ u, u = if 32 ≤ X.length then 0 else 3 := ⟨_, rfl⟩
  rw [← hu0, ← he0] at hqs
  have HU := Lib.hid (And.intro hu0 he0)
  have HTB := Lib.hid hTb
  have hs3 : w2.heap.size ≤ w3.heap.size := hqs.2.1.size
  have HK3 := Lib.hid (hqs.2.2.oth _ _ _ (by omega) HK2.out)
  have HT3 := Lib.hid (hqs.2.2.oth _ _ _ (by omega) HT2.out)
  have HB3 := Lib.hid (HB2.out.trans (hqs.2.1.mono (by omega)))
  have HQ3 := Lib.hid hqs.1
  clear hqs HK2 HT2 HB2 hu0 he0 hTb
  have ks0 : ∀ z0 : Array Value, Whole (w3.alloc (.cells z0 28)) w3.heap.size 28 z0 := fun _ => Whole.here _ _ _
  go_upto_region 7 with (with_reducible refine wpList_store_tag rfl _ _ rfl (g := w3.heap.size) rfl rfl (ks0 _) rfl (tag_size hTl) (tag_one _) ?_)
  clear ks0
  rw [ztr_lit]
  obtain ⟨w4, hw4⟩ : ∃ q, q = ((w3.alloc (.cells ztr 28)).setRow w3.heap.size (T.map byt).toArray).alloc (.cells #[.int .i64 0, .int .i64 0] 24) := ⟨_, rfl⟩
  have hb4 : Below w3.heap.size w3 w4 := by rw [hw4]; exact (below_setRow ((Below.refl _ _).alloc (Nat.le_refl _) _) (Nat.le_refl _) _).alloc (by simp) _
  have hr4 : TGRow w4 w3.heap.size T := by rw [hw4]; exact (Whole.setRow (Whole.here _ _ _) _).alloc _
  have ht4 : Whole w4 (w3.heap.size + 1) 24 #[.int .i64 0, .int .i64 0] := by rw [hw4]; exact Whole.at_ _ _ _ _ (by simp)
  have hs4 : w3.heap.size + 1 < w4.heap.size := ht4.lt
  rw [← hw4]
  have HK4 := Lib.hid (Whole.below HK3.out hb4 (Whole.lt HK3.out))
  have HT4 := Lib.hid (Whole.below HT3.out hb4 (Whole.lt HT3.out))
  have HB4 := Lib.hid (HB3.out.trans (hb4.mono (by omega)))
  have HQ4 := Lib.hid (HQ3.out.below hb4 (by omega))
  have HR4 := Lib.hid hr4
  have HM4 := Lib.hid ht4
  clear hw4 hb4 hr4 ht4 HK3 HT3 HB3 HQ3
  obtain ⟨n1, k1, e1, hq1⟩ : ∃ n k e, qnum X u0 e0 = (n, k, e) := ⟨_, _, _, rfl⟩
  have HN1 := Lib.hid hq1
  have hcl := qnumber w1.heap.size X u0 e0 w4 HQ4.out n1 k1 e1 hq1
  clear hq1
  go_wp2_with fail
  refine hcl.mono ?_
  rintro e w4a ⟨rfl, hqs⟩
  clear hcl
  have hsw4a : w4.heap.size ≤ w4a.heap.size := hqs.2.1.size
  have hk := hqs.2.2.oth _ _ _ (by omega) HK4.out
  have ht := hqs.2.2.oth _ _ _ (by omega) HT4.out
  have hr := hqs.2.2.oth _ _ _ (by omega) HR4.out
  have hm : Whole w4a (w3.heap.size + 1) 24 #[.int .i64 0, .int .i64 0] := hqs.2.2.oth _ _ _ (by omega) HM4.out
  have hc0 := hm.cell 0
  have hf0 := hm.frozen 0
  obtain ⟨w5, hw⟩ : ∃ q, q = w4a.setCell ⟨w3.heap.size + 1, 0, none⟩ (.int .i64 (n1 : Int)) := ⟨_, rfl⟩
  have hsz : w5.heap.size = w4a.heap.size := by rw [hw]; simp
  have HK5 : Hid (Whole w5 (w.heap.size + 1 + 1) 28 ztr) := Lib.hid (by rw [hw]; exact Whole.far hk (a := ⟨w3.heap.size + 1, 0, none⟩) (by show w.heap.size + 1 + 1 ≠ w3.heap.size + 1; omega) _)
  have HT5 : Hid (Whole w5 (w.heap.size + 1 + 1 + 1) 24 #[.int .i64 0, .int .i64 0]) := Lib.hid (by rw [hw]; exact Whole.far ht (a := ⟨w3.heap.size + 1, 0, none⟩) (by show w.heap.size + 1 + 1 + 1 ≠ w3.heap.size + 1; omega) _)
  have HR5 : Hid (TGRow w5 w3.heap.size T) := Lib.hid (by rw [hw]; exact Whole.far hr (a := ⟨w3.heap.size + 1, 0, none⟩) (by show w3.heap.size ≠ w3.heap.size + 1; omega) _)
  have HM5 : Hid (Whole w5 (w3.heap.size + 1) 24 #[.int .i64 (n1 : Int), .int .i64 0]) := Lib.hid (by rw [hw]; exact Whole.set hm 0 _)
  have HB5 : Hid (Below w.heap.size w w5) := Lib.hid (by rw [hw]; exact Below.setCell (p := ⟨w3.heap.size + 1, 0, none⟩) (HB4.out.trans (hqs.2.1.mono (by omega))) (by show w.heap.size ≤ w3.heap.size + 1; omega) _)
  have HQ5 : Hid (Qrd w1.heap.size w5 X (u0 + k1) e1) := Lib.hid (by rw [hw]; exact hqs.1.below ((Below.refl (w3.heap.size + 1) w4a).setCell (p := ⟨w3.heap.size + 1, 0, none⟩) (Nat.le_refl _) _) (by omega))
  have hsw5 : w3.heap.size + 1 < w5.heap.size := by rw [hsz]; exact hm.lt
  clear hqs hk ht hr hm HK4 HT4 HR4 HM4 HB4 HQ4 hsz
  go_upto_region 8 with fail
  rw [← hw]
  clear hw hc0 hf0
  obtain ⟨n2, k2, e2, hq2⟩ : ∃ n k e, qnum X (u0 + k1) e1 = (n, k, e) := ⟨_, _, _, rfl⟩
  have HN2 := Lib.hid hq2
  have hcl := qnumber w1.heap.size X (u0 + k1) e1 w5 HQ5.out n2 k2 e2 hq2
  clear hq2
  go_wp2_with fail
  refine hcl.mono ?_
  rintro e w5a ⟨rfl, hqs⟩
  clear hcl
  have hsw5a : w5.heap.size ≤ w5a.heap.size := hqs.2.1.size
  have hk := hqs.2.2.oth _ _ _ (by omega) HK5.out
  have ht := hqs.2.2.oth _ _ _ (by omega) HT5.out
  have hr := hqs.2.2.oth _ _ _ (by omega) HR5.out
  have hm : Whole w5a (w3.heap.size + 1) 24 #[.int .i64 (n1 : Int), .int .i64 0] := hqs.2.2.oth _ _ _ (by omega) HM5.out
  have hc0 := hm.cell 1
  have hf0 := hm.frozen 1
  obtain ⟨w6, hw⟩ : ∃ q, q = w5a.setCell ⟨w3.heap.size + 1, 1, none⟩ (.int .i64 (n2 : Int)) := ⟨_, rfl⟩
  have hsz : w6.heap.size = w5a.heap.size := by rw [hw]; simp
  have HK6 : Hid (Whole w6 (w.heap.size + 1 + 1) 28 ztr) := Lib.hid (by rw [hw]; exact Whole.far hk (a := ⟨w3.heap.size + 1, 1, none⟩) (by show w.heap.size + 1 + 1 ≠ w3.heap.size + 1; omega) _)
  have HT6 : Hid (Whole w6 (w.heap.size + 1 + 1 + 1) 24 #[.int .i64 0, .int .i64 0]) := Lib.hid (by rw [hw]; exact Whole.far ht (a := ⟨w3.heap.size + 1, 1, none⟩) (by show w.heap.size + 1 + 1 + 1 ≠ w3.heap.size + 1; omega) _)
  have HR6 : Hid (TGRow w6 w3.heap.size T) := Lib.hid (by rw [hw]; exact Whole.far hr (a := ⟨w3.heap.size + 1, 1, none⟩) (by show w3.heap.size ≠ w3.heap.size + 1; omega) _)
  have HM6 : Hid (Whole w6 (w3.heap.size + 1) 24 #[.int .i64 (n1 : Int), .int .i64 (n2 : Int)]) := Lib.hid (by rw [hw]; exact Whole.set hm 1 _)
  have HB6 : Hid (Below w.heap.size w w6) := Lib.hid (by rw [hw]; exact Below.setCell (p := ⟨w3.heap.size + 1, 1, none⟩) (HB5.out.trans (hqs.2.1.mono (by omega))) (by show w.heap.size ≤ w3.heap.size + 1; omega) _)
  have HQ6 : Hid (Qrd w1.heap.size w6 X ((u0 + k1) + k2) e2) := Lib.hid (by rw [hw]; exact hqs.1.below ((Below.refl (w3.heap.size + 1) w5a).setCell (p := ⟨w3.heap.size + 1, 1, none⟩) (Nat.le_refl _) _) (by omega))
  have hsw6 : w3.heap.size + 1 < w6.heap.size := by rw [hsz]; exact hm.lt
  clear hqs hk ht hr hm HK5 HT5 HR5 HM5 HB5 HQ5 hsz
  go_upto_region 9 with fail
  rw [← hw]
  clear hw hc0 hf0
  have hsp : rsp X = (n1, n2, u0 + k1 + k2, e2) := by
    unfold rsp
    dsimp only
    rw [← HU.out.1, ← HU.out.2, HN1.out]
    dsimp only
    rw [HN2.out]
  have hts := rsp_split X
  rw [hsp] at hts
  dsimp only at hts
  have HTS := Lib.hid hts
  have hqq := HQ6.out
  obtain ⟨A6, c6, hby6, hrd6, hu6⟩ := hqq
  have rc1 := hrd6.cell 1
  have rc2 := hrd6.cell 2
  have hl32 : e2 = 0 → 32 ≤ X.length := fun h => by
    by_cases h32 : 32 ≤ X.length
    · exact h32
    · exfalso
      have hu := HU.out
      rw [if_neg h32, if_neg h32] at hu
      have h1 := HN1.out
      rw [hu.1, hu.2] at h1
      unfold qnum at h1
      rw [if_neg (by simp)] at h1
      injection h1 with _ h1; injection h1 with _ h1
      have h2 := HN2.out
      unfold qnum at h2
      rw [← h1, if_neg (by simp)] at h2
      injection h2 with _ h2; injection h2 with _ h2
      rw [← h2] at h
      cases h
  have HL32 := Lib.hid hl32
  have hcl := rvalid_ w6 (n1 : Int) (n2 : Int)
  obtain ⟨D, hD⟩ : ∃ D, D = decide (tmok (n1 : Int) (n2 : Int)) := ⟨_, rfl⟩
  rw [← hD] at hcl
  have HD := Lib.hid hD
  obtain ⟨us, hus⟩ : ∃ u, u = u0 + k1 + k2 := ⟨_, rfl⟩
  rw [← hus] at hts rc1 hu6
  rw [← hus] at HTS
  have hu7 := hu6
  rw [← HNX.out] at hu7
  clear hts hsp hD hby6 hrd6 HN1 HN2 HU hus HQ6 hl32 hu6
  by_cases hz : e2 = 0
  case neg =>
    have hz1 : ((e2 : Int) != 0) = true := by simpa using hz
    have HZ : Hid (pOpenT a K m = (ztag, (0, 0), 5)) := Lib.hid (by rw [HRR.out, HTS.out, if_neg fun h => hz h.1])
    clear hz hcl
    go_wp2_with (first
      | (with_reducible refine wpList_build_tag0 rfl rfl ?_)
      | (with_reducible refine wpList_build_tms0 rfl rfl ?_)
      | (with_reducible refine wpList_store_tag rfl _ _ rfl (g := w.heap.size + 1 + 1) rfl rfl HK6.out ztr_size (tag_size (by simp)) (tag_one _) ?_)
      | (with_reducible refine wpList_store_tms rfl _ _ rfl (g := w.heap.size + 1 + 1 + 1) rfl rfl (Whole.setRow_far HT6.out (by omega) _) rfl ?_))
    have h1 := Whole.setRow_far (Whole.setRow HK6.out (ztag.map byt).toArray) (g' := w.heap.size + 1 + 1 + 1) (by omega) #[.int .i64 0, .int .i64 0]
    have h2 := Whole.setRow (Whole.setRow_far HT6.out (g' := w.heap.size + 1 + 1) (by omega) (ztag.map byt).toArray) #[.int .i64 0, .int .i64 0]
    refine bodyPost_ret (results_open3 Tryd.results20 _ rfl rfl _ rfl (tag_size (by simp)) rfl h1 h2) rfl ?_
    unfold ToR
    rw [HZ.out]
    exact ⟨rfl, below_setRow (below_setRow HB6.out (by omega) _) (by omega) _⟩
  subst hz
  by_cases hlen2 : us = nx
  case neg =>
    have hz1 : ((us : Int) != (nx : Int)) = true := by
      have h9 : (us : Int) ≠ (nx : Int) := by omega
      simpa using h9
    have HZ : Hid (pOpenT a K m = (ztag, (0, 0), 5)) := Lib.hid (by rw [HRR.out, HTS.out, if_neg fun h => hlen2 (h.2.1.trans HNX.out.symm)])
    clear hlen2 hcl
    go_wp2_with (first
      | (with_reducible refine wpList_build_tag0 rfl rfl ?_)
      | (with_reducible refine wpList_build_tms0 rfl rfl ?_)
      | (with_reducible refine wpList_store_tag rfl _ _ rfl (g := w.heap.size + 1 + 1) rfl rfl HK6.out ztr_size (tag_size (by simp)) (tag_one _) ?_)
      | (with_reducible refine wpList_store_tms rfl _ _ rfl (g := w.heap.size + 1 + 1 + 1) rfl rfl (Whole.setRow_far HT6.out (by omega) _) rfl ?_))
    have h1 := Whole.setRow_far (Whole.setRow HK6.out (ztag.map byt).toArray) (g' := w.heap.size + 1 + 1 + 1) (by omega) #[.int .i64 0, .int .i64 0]
    have h2 := Whole.setRow (Whole.setRow_far HT6.out (g' := w.heap.size + 1 + 1) (by omega) (ztag.map byt).toArray) #[.int .i64 0, .int .i64 0]
    refine bodyPost_ret (results_open3 Tryd.results20 _ rfl rfl _ rfl (tag_size (by simp)) rfl h1 h2) rfl ?_
    unfold ToR
    rw [HZ.out]
    exact ⟨rfl, below_setRow (below_setRow HB6.out (by omega) _) (by omega) _⟩
  subst hlen2
  have HX1 : Hid (T = X.take 32) := Lib.hid (HTB.out (HL32.out rfl))
  have HX2 : Hid (tsplit X = if tmok (n1 : Int) (n2 : Int) then some (X.take 32, (n1 : Int), (n2 : Int)) else none) := Lib.hid (by
    by_cases ht : tmok (n1 : Int) (n2 : Int)
    · rw [HTS.out, if_pos ⟨rfl, HNX.out, ht⟩, if_pos ht]
    · rw [HTS.out, if_neg fun h => ht h.2.2, if_neg ht])
  clear HTB HL32 HTS
  have tc0 := HM6.out.cell 0
  have tc1 := HM6.out.cell 1
  go_wp2_with fail
  refine hcl.mono ?_
  rintro e w7 ⟨rfl, hb7⟩
  clear hcl rc1 rc2 tc0 tc1
  have hs7 : w6.heap.size ≤ w7.heap.size := hb7.size
  have HK7 := Lib.hid (Whole.below HK6.out hb7 (by omega))
  have HT7 := Lib.hid (Whole.below HT6.out hb7 (by omega))
  have HR7 := Lib.hid (Whole.below HR6.out hb7 (by omega))
  have HM7 := Lib.hid (Whole.below HM6.out hb7 (by omega))
  have HB7 := Lib.hid (HB6.out.trans (hb7.mono (by omega)))
  clear hb7 HK6 HT6 HR6 HM6 HB6
  cases D
  case false =>
    have hno := of_decide_eq_false HD.out.symm
    have HZ : Hid (pOpenT a K m = (ztag, (0, 0), 5)) := Lib.hid (by rw [HRR.out, HX2.out, if_neg hno])
    clear hno
    go_wp2_with (first
      | (with_reducible refine wpList_build_tag0 rfl rfl ?_)
      | (with_reducible refine wpList_build_tms0 rfl rfl ?_)
      | (with_reducible refine wpList_store_tag rfl _ _ rfl (g := w.heap.size + 1 + 1) rfl rfl HK7.out ztr_size (tag_size (by simp)) (tag_one _) ?_)
      | (with_reducible refine wpList_store_tms rfl _ _ rfl (g := w.heap.size + 1 + 1 + 1) rfl rfl (Whole.setRow_far HT7.out (by omega) _) rfl ?_))
    have h1 := Whole.setRow_far (Whole.setRow HK7.out (ztag.map byt).toArray) (g' := w.heap.size + 1 + 1 + 1) (by omega) #[.int .i64 0, .int .i64 0]
    have h2 := Whole.setRow (Whole.setRow_far HT7.out (g' := w.heap.size + 1 + 1) (by omega) (ztag.map byt).toArray) #[.int .i64 0, .int .i64 0]
    refine bodyPost_ret (results_open3 Tryd.results20 _ rfl rfl _ rfl (tag_size (by simp)) rfl h1 h2) rfl ?_
    unfold ToR
    rw [HZ.out]
    exact ⟨rfl, below_setRow (below_setRow HB7.out (by omega) _) (by omega) _⟩
  have hyes := of_decide_eq_true HD.out.symm
  have HZ : Hid (pOpenT a K m = (T, ((n1 : Int), (n2 : Int)), 0)) := Lib.hid (by rw [HRR.out, HX2.out, if_pos hyes, ← HX1.out])
  clear hyes HX1 HX2 HRR HD
  have hdd : Below w7.heap.size w7 w7.drew := (Below.refl _ _).drew
  have hkd : Whole w7.drew (w.heap.size + 1 + 1) 28 ztr := Whole.below HK7.out hdd (Whole.lt HK7.out)
  have htd : Whole w7.drew (w.heap.size + 1 + 1 + 1) 24 #[.int .i64 0, .int .i64 0] := Whole.below HT7.out hdd (Whole.lt HT7.out)
  have hrd : TGRow w7.drew w3.heap.size T := Whole.below HR7.out hdd (Whole.lt HR7.out)
  have hmd : Whole w7.drew (w3.heap.size + 1) 24 #[.int .i64 (n1 : Int), .int .i64 (n2 : Int)] := Whole.below HM7.out hdd (Whole.lt HM7.out)
  have hbd : Below w.heap.size w w7.drew := HB7.out.drew
  have hst : (Tryd.prog.info? 28).map (·.size) = some (T.map byt).length := by rw [List.length_map, hTl]; exact tagSize
  have hsm : (Tryd.prog.info? 24).map (·.size) = some ([.int .i64 (n1 : Int), .int .i64 (n2 : Int)] : List Value).length := by rw [tmsSize]; rfl
  clear HK7 HT7 HR7 HM7 HB7 hdd
  go_upto_region 11 with fail
  refine wp_region_held_drew (S := fun W : World => W.rangeAt w3.heap.size 0 (T.map byt) ∧ W.rangeAt (w3.heap.size + 1) 0 [.int .i64 (n1 : Int), .int .i64 (n2 : Int)]) (by kernel_rfl) (⟨TGRow.range hrd, Whole.range hmd⟩) (fun hHeld => ?_)
  generalize w7.drew = W0 at *
  apply wpT (i := 0) rfl (by kernel_rfl)
  case hQ => exact fun _ _ _ h => h
  case hS => exact hHeld
  case hy => exact yieldsIf_load_mid (by rfl) 28 _ rfl w3.heap.size 0 rfl (T.map byt) _ (fun w hS => hS.1) Tryd.underlying28 rfl hst
  (try simp only [sq])
  apply wpT (i := 1) rfl (by kernel_rfl)
  case hQ => exact fun _ _ _ h => h
  case hS => exact hHeld
  case hy => exact yieldsIf_load_mid (by rfl) 24 _ rfl (w3.heap.size + 1) 0 rfl [.int .i64 (n1 : Int), .int .i64 (n2 : Int)] _ (fun w hS => hS.2) Tryd.underlying24 rfl hsm
  (try simp only [sq])
  refine wpAnyH_ready (rs := [2]) (by kernel_rfl) (by simp) ?_
  refine AllReadyH.cons rfl (fun KK hKK => ?_) AllReadyH.nil
  obtain ⟨V1, hV1⟩ : ∃ x, x = W0.setRow (w.heap.size + 1 + 1) (T.map byt).toArray := ⟨_, rfl⟩
  have e1 : Whole V1 (w.heap.size + 1 + 1) 28 (T.map byt).toArray := by rw [hV1]; exact Whole.setRow hkd _
  have t1 : Whole V1 (w.heap.size + 1 + 1 + 1) 24 #[.int .i64 0, .int .i64 0] := by rw [hV1]; exact Whole.setRow_far htd (by omega) _
  have r1 : TGRow V1 w3.heap.size T := by rw [hV1]; exact Whole.setRow_far hrd (by omega) _
  have m1 : Whole V1 (w3.heap.size + 1) 24 #[.int .i64 (n1 : Int), .int .i64 (n2 : Int)] := by rw [hV1]; exact Whole.setRow_far hmd (by omega) _
  have b1 : Below w.heap.size w V1 := by rw [hV1]; exact below_setRow hbd (by omega) _
  rw [if_pos (by kernel_rfl)]
  refine wp_store_row 28 _ _ rfl (w.heap.size + 1 + 1) _ rfl rfl 28 _ hkd (by rw [tagSize, tag_size hTl]) (by rw [ztr_size, tag_size hTl]) (tag_one _) ?_
  rw [← hV1]
  clear hV1
  refine hKK.out _ _ (⟨TGRow.range r1, Whole.range m1⟩) (fun hHeld => ?_)
  clear hKK KK
  (try simp only [sq])
  refine wpAnyH_ready (rs := [3]) (by kernel_rfl) (by simp) ?_
  refine AllReadyH.cons rfl (fun KK hKK => ?_) AllReadyH.nil
  obtain ⟨V2, hV2⟩ : ∃ x, x = V1.setRow (w.heap.size + 1 + 1 + 1) #[.int .i64 (n1 : Int), .int .i64 (n2 : Int)] := ⟨_, rfl⟩
  have e2 : Whole V2 (w.heap.size + 1 + 1) 28 (T.map byt).toArray := by rw [hV2]; exact Whole.setRow_far e1 (by omega) _
  have t2 : Whole V2 (w.heap.size + 1 + 1 + 1) 24 #[.int .i64 (n1 : Int), .int .i64 (n2 : Int)] := by rw [hV2]; exact Whole.setRow t1 _
  have r2 : TGRow V2 w3.heap.size T := by rw [hV2]; exact Whole.setRow_far r1 (by omega) _
  have m2 : Whole V2 (w3.heap.size + 1) 24 #[.int .i64 (n1 : Int), .int .i64 (n2 : Int)] := by rw [hV2]; exact Whole.setRow_far m1 (by omega) _
  have b2 : Below w.heap.size w V2 := by rw [hV2]; exact below_setRow b1 (by omega) _
  rw [if_pos (by kernel_rfl)]
  refine wp_store_row 24 _ _ rfl (w.heap.size + 1 + 1 + 1) _ rfl rfl 24 _ t1 (by rw [tmsSize]; rfl) rfl (all_oneCell_toArray (cs := [.int .i64 (n1 : Int), .int .i64 (n2 : Int)]) (by intro v hv; simp only [List.mem_cons, List.not_mem_nil, or_false] at hv; rcases hv with rfl | rfl <;> rfl)) ?_
  rw [← hV2]
  clear hV2
  refine hKK.out _ _ (⟨TGRow.range r2, Whole.range m2⟩) (fun hHeld => ?_)
  clear hKK KK
  (try simp only [sq])
  apply wpT (i := 4) rfl (by kernel_rfl)
  case hQ => exact fun _ _ _ h => h
  case hS => exact hHeld
  case hy => (refine Or.inl ⟨by rfl, ?_⟩; intro w hSw; (try go_split_ands); go_simp; (try with_reducible rfl))
  (try simp only [sq])
  refine wpAnyH_done (by kernel_rfl) ?_ _
  go_wp2_with fail
  refine bodyPost_ret (results_open3 Tryd.results20 _ rfl rfl _ rfl (tag_size hTl) rfl e2 t2) rfl ?_
  unfold ToR
  rw [HZ.out]
  exact ⟨rfl, b2⟩
end Go.Proofs.YteekdhcffiaaaaaDoor
