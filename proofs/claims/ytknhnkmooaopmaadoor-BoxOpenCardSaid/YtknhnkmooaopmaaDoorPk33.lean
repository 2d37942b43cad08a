/-
  The deck's Algebra.
  Rows of entries in blocks of a law's own.
  The list of byte slices of the laws: what their first list is.
-/
import Derived.Test.YtknhnkmooaopmaaDoorPk15
import Derived.Test.YtknhnkmooaopmaaDoorKAnyG
import Derived.Test.YtknhnkmooaopmaaDoorPk19
import Derived.Test.YtknhnkmooaopmaaDoorPk22
import Derived.Test.YtknhnkmooaopmaaDoorPk30
import Derived.Test.YtknhnkmooaopmaaDoorPk23
import Derived.Test.YtknhnkmooaopmaaDoorPk32
import Derived.Test.YtknhnkmooaopmaaDoorPk18
import Derived.Test.YtknhnkmooaopmaaDoorPk3
import Derived.Test.YtknhnkmooaopmaaDoorPk20
namespace Go.Proofs.YtknhnkmooaopmaaDoor
open Go Go.RowKit Sh Leaf
/-- What the loop keeps: the algebra in block G, k rounds to go. -/
def DalgI (g h G : Nat) (w : World) (k : Nat) (wr : World) : Prop := ∃ (a : Alg) (Am : Option Addr) (cm : Nat) (Ab : Option Addr) (cb : Nat), (a.macs.length + k ≤ 4 ∧ a.boxes.length + k ≤ 4 ∧ a.fresh + (k : Int) ≤ 4 ∧ GoodA a) ∧
  AlV wr (fun b => b ≠ g ∧ b ≠ G ∧ b ≠ h) (.agg (alc a.free a.seed a.fresh (.slice Am a.macs.length cm) (.slice Ab a.boxes.length cb))) a ∧ ALRow wr G a.free a.seed a.fresh (.slice Am a.macs.length cm) (.slice Ab a.boxes.length cb) ∧ Whole wr h 32 zar ∧ Turn g w wr
theorem DalgI.store {g h G k : Nat} {w w7 : World} {a : Alg} {Am Ab : Option Addr} {cm cb : Nat} {cs : Array Value} (hbd : a.macs.length + k ≤ 4 ∧ a.boxes.length + k ≤ 4 ∧ a.fresh + (k : Int) ≤ 4 ∧ GoodA a)
    (hav : AlV w7 (fun b => b ≠ g ∧ b ≠ G ∧ b ≠ h) (.agg (alc a.free a.seed a.fresh (.slice Am a.macs.length cm) (.slice Ab a.boxes.length cb))) a) (hr : Whole w7 G 32 cs) (hz : Whole w7 h 32 zar) (ht : Turn g w w7) (hg : g < w.heap.size) (hG : w.heap.size ≤ G) (hh : h ≠ G) :
    DalgI g h G w k (w7.setRow G (alc a.free a.seed a.fresh (.slice Am a.macs.length cm) (.slice Ab a.boxes.length cb))) :=
  ⟨a, Am, cm, Ab, cb, hbd, hav.keep (below_setRow (B := 0) (Below.refl 0 _) (Nat.zero_le _) _).size fun b _ hq => setRow_other _ _ b _ hq.2.1, Whole.setRow hr _, Whole.setRow_far hz hh _,
    ht.below (below_setRow (B := w.heap.size) (Below.refl _ _) hG _) hg (Nat.le_refl _)⟩
theorem aMac_next0 {a : Alg} {k : Nat} {K m : List B8} (hm : m.length ≤ 4096) (h : a.macs.length + (k + 1) ≤ 4 ∧ a.boxes.length + (k + 1) ≤ 4 ∧ a.fresh + ((k + 1 : Nat) : Int) ≤ 4) : (aMac a K m).1.macs.length + k ≤ 4 ∧ (aMac a K m).1.boxes.length + k ≤ 4 ∧ (aMac a K m).1.fresh + (k : Int) ≤ 4 := by
  unfold aMac
  rw [if_neg (by omega)]
  cases fnd a.macs K m with
  | some t => exact ⟨by show a.macs.length + k ≤ 4; omega, by show a.boxes.length + k ≤ 4; omega, by show a.fresh + (k : Int) ≤ 4; omega⟩
  | none =>
    simp only
    rw [if_neg (by omega)]
    exact ⟨by show (a.macs ++ [_]).length + k ≤ 4; rw [List.length_append]; simp only [List.length_singleton]; omega, by show a.boxes.length + k ≤ 4; omega, by show a.fresh + (k : Int) ≤ 4; omega⟩
theorem aMac_next {a : Alg} {k : Nat} {K m : List B8} (hm : m.length ≤ 4096) (h : a.macs.length + (k + 1) ≤ 4 ∧ a.boxes.length + (k + 1) ≤ 4 ∧ a.fresh + ((k + 1 : Nat) : Int) ≤ 4 ∧ GoodA a) : (aMac a K m).1.macs.length + k ≤ 4 ∧ (aMac a K m).1.boxes.length + k ≤ 4 ∧ (aMac a K m).1.fresh + (k : Int) ≤ 4 ∧ GoodA (aMac a K m).1 := by
  obtain ⟨h1, h2, h3⟩ := aMac_next0 hm ⟨h.1, h.2.1, h.2.2.1⟩
  exact ⟨h1, h2, h3, good_mac h.2.2.2⟩
theorem aSeal_next0 {a : Alg} {k : Nat} {K m : List B8} {z : Int} (hm : m.length ≤ 256) (hz : 0 ≤ z ∧ z ≤ 100) (h : a.macs.length + (k + 1) ≤ 4 ∧ a.boxes.length + (k + 1) ≤ 4 ∧ a.fresh + ((k + 1 : Nat) : Int) ≤ 4) : (aSeal a K z m).1.macs.length + k ≤ 4 ∧ (aSeal a K z m).1.boxes.length + k ≤ 4 ∧ (aSeal a K z m).1.fresh + (k : Int) ≤ 4 := by
  unfold aSeal
  rw [if_neg (by omega), if_neg (by omega)]
  cases fndb a.boxes K z m with
  | some t => exact ⟨by show a.macs.length + k ≤ 4; omega, by show a.boxes.length + k ≤ 4; omega, by show a.fresh + (k : Int) ≤ 4; omega⟩
  | none =>
    simp only
    rw [if_neg (by omega)]
    exact ⟨by show a.macs.length + k ≤ 4; omega, by show (a.boxes ++ [_]).length + k ≤ 4; rw [List.length_append]; simp only [List.length_singleton]; omega, by show a.fresh + (k : Int) ≤ 4; omega⟩
theorem aSeal_next {a : Alg} {k : Nat} {K m : List B8} {z : Int} (hm : m.length ≤ 256) (hz : 0 ≤ z ∧ z ≤ 100) (h : a.macs.length + (k + 1) ≤ 4 ∧ a.boxes.length + (k + 1) ≤ 4 ∧ a.fresh + ((k + 1 : Nat) : Int) ≤ 4 ∧ GoodA a) : (aSeal a K z m).1.macs.length + k ≤ 4 ∧ (aSeal a K z m).1.boxes.length + k ≤ 4 ∧ (aSeal a K z m).1.fresh + (k : Int) ≤ 4 ∧ GoodA (aSeal a K z m).1 := by
  obtain ⟨h1, h2, h3⟩ := aSeal_next0 hm hz ⟨h.1, h.2.1, h.2.2.1⟩
  exact ⟨h1, h2, h3, good_seal h.2.2.2⟩
theorem aKey_next0 {a : Alg} {k : Nat} (h : a.macs.length + (k + 1) ≤ 4 ∧ a.boxes.length + (k + 1) ≤ 4 ∧ a.fresh + ((k + 1 : Nat) : Int) ≤ 4) : (aKey a).1.macs.length + k ≤ 4 ∧ (aKey a).1.boxes.length + k ≤ 4 ∧ (aKey a).1.fresh + (k : Int) ≤ 4 := by
  unfold aKey
  rw [if_neg (by omega)]
  exact ⟨by show a.macs.length + k ≤ 4; omega, by show a.boxes.length + k ≤ 4; omega, by show a.fresh + 1 + (k : Int) ≤ 4; omega⟩
theorem aKey_next {a : Alg} {k : Nat} (h : a.macs.length + (k + 1) ≤ 4 ∧ a.boxes.length + (k + 1) ≤ 4 ∧ a.fresh + ((k + 1 : Nat) : Int) ≤ 4 ∧ GoodA a) : (aKey a).1.macs.length + k ≤ 4 ∧ (aKey a).1.boxes.length + k ≤ 4 ∧ (aKey a).1.fresh + (k : Int) ≤ 4 ∧ GoodA (aKey a).1 := by
  obtain ⟨h1, h2, h3⟩ := aKey_next0  ⟨h.1, h.2.1, h.2.2.1⟩
  exact ⟨h1, h2, h3, good_key h.2.2.2⟩
set_option linter.unusedSimpArgs false in
set_option linter.unusedVariables false in
set_option maxRecDepth 100000 in
set_option maxHeartbeats 8000000 in
theorem dalg (g : Nat) (w : World) (h : Deck g w) :
    Calls Tryd.prog 8 #[.pointer (some ⟨g, 0, none⟩)] w fun e w' => (∃ x a, e = .returned x ∧ AlV w' (fun b => b ≠ g) x a ∧ a.macs.length ≤ 4 ∧ a.boxes.length ≤ 4 ∧ a.fresh ≤ 4 ∧ GoodA a) ∧ Turn g w w' := by
  have hgw := h.lt
  obtain ⟨p, hp⟩ : ∃ p, p = w.alloc (.cells zar 32) := ⟨_, rfl⟩
  have hb : Below w.heap.size w p := by rw [hp]; exact (Below.refl _ _).alloc (Nat.le_refl _) _
  have hz : Whole p w.heap.size 32 zar := by rw [hp]; exact Whole.here _ _ _
  have HTP := Lib.hid (h.here hb)
  have HZ := Lib.hid hz
  have hps : w.heap.size < p.heap.size := hz.lt
  have hnx := dnext 2 (by omega) (by omega) g p (h.below hb hgw)
  clear h hb hz
  go_enter Tryd.func8, Tryd.ntmps8
  go_upto_region 1 with fail
  rw [zar_lit, ← hp]
  clear hp
  go_wp2_with fail
  refine hnx.mono ?_
  rintro e w1 ⟨i, hi, rfl, ht1⟩
  have HT1 := Lib.hid (HTP.out.trans ht1)
  have HZ1 : Hid (Whole w1 w.heap.size 32 zar) := Lib.hid (ht1.2.2.oth _ _ _ (by omega) HZ.out)
  have hdt := dtag g w1 ht1.1
  clear hnx ht1
  go_wp2_with fail
  refine hdt.mono ?_
  rintro e w2 ⟨⟨K, hK, rfl⟩, ht2⟩
  have HT2 := Lib.hid (HT1.out.trans ht2)
  have HZ2 : Hid (Whole w2 w.heap.size 32 zar) := Lib.hid (ht2.2.2.oth _ _ _ (by omega) HZ1.out)
  have hs2 : w.heap.size < w2.heap.size := HZ2.out.lt
  have hnw := rnew ((i : Int) == 0) hK w2 (fun _ => False)
  clear hdt ht2
  go_wp2_with fail
  refine hnw.mono ?_
  rintro e w3 ⟨⟨v, rfl, hv⟩, hb3⟩
  obtain ⟨a, ha⟩ : ∃ a : Alg, a = ⟨((i : Int) == 0), K, 0, [], []⟩ := ⟨_, rfl⟩
  rw [← ha] at hv
  have HAA := Lib.hid ha
  clear ha
  obtain ⟨Am, cm, Ab, cb, rfl, hM, hBx, hA⟩ := hv
  have hs3 : w2.heap.size ≤ w3.heap.size := hb3.size
  clear hnw
  go_upto_region 2 with (with_reducible refine wpList_store_alg rfl _ _ rfl (g := w3.heap.size) rfl rfl (Whole.here w3 _ _) rfl (alc_size _ _ _ _ _) (alc_one _ _ _ _ _ _ _ _ _) ?_)
  rw [zar_lit]
  obtain ⟨w4, hw4⟩ : ∃ x, x = (w3.alloc (.cells zar 32)).setRow w3.heap.size (alc a.free a.seed a.fresh (.slice Am a.macs.length cm) (.slice Ab a.boxes.length cb)) := ⟨_, rfl⟩
  have hb4 : Below w3.heap.size w3 w4 := by rw [hw4]; exact below_setRow ((Below.refl _ _).alloc (Nat.le_refl _) _) (Nat.le_refl _) _
  have hr4 : ALRow w4 w3.heap.size a.free a.seed a.fresh (.slice Am a.macs.length cm) (.slice Ab a.boxes.length cb) := by rw [hw4]; exact Whole.setRow (Whole.here _ _ _) _
  rw [← hw4]
  clear hw4
  simp only [Act.put]
  obtain ⟨G, hG⟩ : ∃ G, G = w3.heap.size := ⟨_, rfl⟩
  rw [← hG] at hr4 ⊢
  have hgG : g < w.heap.size ∧ w.heap.size < G ∧ G < w4.heap.size := by have := hr4.lt; omega
  have HAV : Hid (AlV w4 (fun b => b ≠ g ∧ b ≠ G ∧ b ≠ w.heap.size) (.agg (alc a.free a.seed a.fresh (.slice Am a.macs.length cm) (.slice Ab a.boxes.length cb))) a) := Lib.hid (AlV.mono (AlV.below ⟨Am, cm, Ab, cb, rfl, hM, hBx, hA⟩ hb4 (Nat.le_refl _)) fun _ _ h => h.elim)
  have HT4 : Hid (Turn g w w4) := Lib.hid ((HT2.out.below hb3 (by omega) (by omega)).below hb4 (by omega) (by omega))
  have HR4 := Lib.hid hr4
  have HZ4 : Hid (Whole w4 w.heap.size 32 zar) := Lib.hid (Whole.below (Whole.below HZ2.out hb3 hs2) hb4 (by omega))
  have hn5 := dnext 5 (by omega) (by omega) g w4 HT4.out.1
  have HAS : Hid (a.macs.length = 0 ∧ a.boxes.length = 0 ∧ a.fresh = 0 ∧ GoodA a) := Lib.hid (by rw [HAA.out]; exact ⟨rfl, rfl, rfl, good_new _ _⟩)
  clear hM hBx hA hb3 hb4 hr4 hG
  go_wp2_with fail
  refine hn5.mono ?_
  rintro e w5 ⟨k0, hk0, rfl, ht5⟩
  clear hn5
  have HT5 := Lib.hid (HT4.out.trans ht5)
  have HAV5 := Lib.hid (HAV.out.oth ht5.2.2 ht5.2.1.size fun _ h => h.1)
  have HR5 : Hid (ALRow w5 G a.free a.seed a.fresh (.slice Am a.macs.length cm) (.slice Ab a.boxes.length cb)) := Lib.hid (ht5.2.2.oth _ _ _ (by omega) HR4.out)
  have HZ5 : Hid (Whole w5 w.heap.size 32 zar) := Lib.hid (ht5.2.2.oth _ _ _ (by omega) HZ4.out)
  clear ht5
  have HI5 : Hid (DalgI g w.heap.size G w k0 w5) := Lib.hid ⟨a, Am, cm, Ab, cb, ⟨by have := HAS.out; omega, by have := HAS.out; omega, by have := HAS.out; omega, HAS.out.2.2.2⟩, HAV5.out, HR5.out, HZ5.out, HT5.out⟩
  have hgG2 : g < w.heap.size ∧ w.heap.size < G := ⟨hgG.1, hgG.2.1⟩
  clear HAV5 HR5 HZ5 HT5 HAV HR4 HZ4 HT4 HAS HAA hgG HT2 HZ2 HT1 HZ1
  go_wp2_with fail
  go_loopw [4] (fun v wr => ∃ k : Nat, v = .int .i64 k ∧ k ≤ 4 ∧ DalgI g w.heap.size G w k wr) (fun v _ => (intOf v).toNat)
  case atStart => exact ⟨k0, rfl, by omega, HI5.out⟩
  case round =>
    clear HI5
    obtain ⟨k, rfl, hk, a, Am, cm, Ab, cb, hbd, hav, hr, hz, ht⟩ := hrel
    have HAV := Lib.hid hav
    have HR := Lib.hid hr
    have HZ := Lib.hid hz
    have HT := Lib.hid ht
    have HBD := Lib.hid hbd
    clear hav hr hz ht hbd
    by_cases hk0 : k = 0
    case pos =>
      subst hk0
      have h3 := Whole.setRow HZ.out (alc a.free a.seed a.fresh (.slice Am a.macs.length cm) (.slice Ab a.boxes.length cb))
      have HB3 := Lib.hid (below_setRow (B := w.heap.size) (Below.refl w.heap.size wr) (Nat.le_refl _) (alc a.free a.seed a.fresh (.slice Am a.macs.length cm) (.slice Ab a.boxes.length cb)))
      have HAV3 : Hid (AlV (wr.setRow w.heap.size (alc a.free a.seed a.fresh (.slice Am a.macs.length cm) (.slice Ab a.boxes.length cb))) (fun b => b ≠ g) (.agg (alc a.free a.seed a.fresh (.slice Am a.macs.length cm) (.slice Ab a.boxes.length cb))) a) := Lib.hid ((HAV.out.keep (below_setRow (B := 0) (Below.refl 0 _) (Nat.zero_le _) _).size fun b _ hq => setRow_other _ _ b _ hq.2.2).mono fun b _ hq => hq.1)
      go_wp2_with (first
        | (with_reducible refine wpList_load_alg rfl _ rfl rfl HR.out (alc_size _ _ _ _ _) ?_)
        | (with_reducible refine wpList_store_alg rfl _ _ rfl (g := w.heap.size) rfl rfl HZ.out zar_size (alc_size _ _ _ _ _) (alc_one _ _ _ _ _ _ _ _ _) ?_))
      refine bodyPost_ret (results_cell_row Tryd.results8 _ _ w.heap.size _ _ _ _ rfl h3 Tryd.underlying32 rfl (by rw [algSize, alc_size])) rfl ?_
      exact ⟨⟨_, a, rfl, HAV3.out, by have := HBD.out; omega, by have := HBD.out; omega, by have := HBD.out; omega, HBD.out.2.2.2⟩, HT.out.below HB3.out hgG2.1 (Nat.le_refl _)⟩
    obtain ⟨k1, rfl⟩ : ∃ k1, k = k1 + 1 := ⟨k - 1, by omega⟩
    have hn3 := dnext 3 (by omega) (by omega) g wr HT.out.1
    have hkp : (0 : Int) < (k1 : Int) + 1 := by omega
    go_wp2_with fail
    refine hn3.mono ?_
    rintro e w6 ⟨i3, hi3, rfl, ht6⟩
    clear hn3
    have HT6 := Lib.hid (HT.out.trans ht6)
    have HAV6 := Lib.hid (HAV.out.oth ht6.2.2 ht6.2.1.size fun _ h => h.1)
    have HR6 : Hid (ALRow w6 G a.free a.seed a.fresh (.slice Am a.macs.length cm) (.slice Ab a.boxes.length cb)) := Lib.hid (ht6.2.2.oth _ _ _ (by omega) HR.out)
    have HZ6 : Hid (Whole w6 w.heap.size 32 zar) := Lib.hid (ht6.2.2.oth _ _ _ (by omega) HZ.out)
    have hGs : G < w6.heap.size := HR6.out.lt
    clear ht6 HT HAV HR HZ
    rcases (by omega : i3 = 0 ∨ i3 = 1 ∨ i3 = 2) with rfl | rfl | rfl
    · have hky := rkey HAV6.out
      go_wp2_with (with_reducible refine wpList_load_alg rfl _ rfl rfl HR6.out (alc_size _ _ _ _ _) ?_)
      refine hky.mono ?_
      rintro e w7 ⟨⟨x, rfl, hx⟩, hb7⟩
      clear hky
      obtain ⟨a', ha'⟩ : ∃ a', a' = (aKey a).1 := ⟨_, rfl⟩
      have hbd := aKey_next HBD.out
      rw [← ha'] at hx hbd
      obtain ⟨Am', cm', Ab', cb', rfl, hM, hBx, hA⟩ := hx
      have HE := Lib.hid (DalgI.store hbd ⟨Am', cm', Ab', cb', rfl, hM, hBx, hA⟩ (Whole.below HR6.out hb7 hGs) (Whole.below HZ6.out hb7 (by omega)) (HT6.out.below hb7 (by omega) HT6.out.2.1.size) hgG2.1 (by omega) (by omega))
      have hr7 := Whole.below HR6.out hb7 hGs
      clear hM hBx hA ha' hb7
      go_wp2_with (with_reducible refine wpList_store_alg rfl _ _ rfl (g := G) rfl rfl hr7 (alc_size _ _ _ _ _) (alc_size _ _ _ _ _) (alc_one _ _ _ _ _ _ _ _ _) ?_)
      go_roundw
      case rel => exact ⟨k1, by go_num, by omega, HE.out⟩
      case measure => simp [intOf]
    · skip
      go_upto_region 9 with fail
      have hdk := HT6.out.1.drew
      have HT0 : Hid (Turn g w w6.drew) := Lib.hid (HT6.out.trans ⟨hdk, (Below.refl _ _).drew, (Oth.refl g w6).drew⟩)
      have HAV0 := Lib.hid (HAV6.out.keep (w' := w6.drew) (Nat.le_refl _) fun _ _ _ => rfl)
      have HR0 : Hid (ALRow w6.drew G a.free a.seed a.fresh (.slice Am a.macs.length cm) (.slice Ab a.boxes.length cb)) := Lib.hid (Whole.drew HR6.out)
      have HZ0 : Hid (Whole w6.drew w.heap.size 32 zar) := Lib.hid (Whole.drew HZ6.out)
      clear hdk
      refine wp_region_G (fun W : World => W.rangeAt G 0 (alcl a.free a.seed a.fresh (.slice Am a.macs.length cm) (.slice Ab a.boxes.length cb))) (fun _ => True) [11] (by kernel_rfl) ?_
      generalize w6.drew = U0 at HT0 HAV0 HR0 HZ0 ⊢
      have hHeld : (fun W : World => W.rangeAt G 0 (alcl a.free a.seed a.fresh (.slice Am a.macs.length cm) (.slice Ab a.boxes.length cb))) U0 := Whole.range HR0.out
      apply AnyG_take (i := 0) rfl (by kernel_rfl) (by kernel_rfl) (by kernel_rfl) (by kernel_rfl)
      case hQ => exact fun _ _ _ h => h
      case hB => exact trivial
      case hC => exact hHeld
      case hy => exact yieldsIf_load_mid (by rfl) 32 _ rfl G (0) rfl (alcl a.free a.seed a.fresh (.slice Am a.macs.length cm) (.slice Ab a.boxes.length cb)) _ (fun w hS => hS) Tryd.underlying32 rfl (by rw [algSize, alcl_length])
      (try simp only [List.getElem_toArray, List.getElem_cons_zero, Act.put, List.setIfInBounds_toArray, List.set_cons_zero, List.set_cons_succ])
      apply AnyG_pure (i := 1) rfl (by kernel_rfl) (by kernel_rfl) (by kernel_rfl) (by kernel_rfl)
      case hQ => exact fun _ _ _ h => h
      case hB => exact trivial
      case hC => exact .inr hHeld
      case hy => (refine Or.inl ⟨by rfl, ?_⟩; intro w hSw; (try go_split_ands); go_simp; (try with_reducible rfl))
      (try simp only [List.getElem_toArray, List.getElem_cons_succ, List.getElem_cons_zero, Act.put, List.setIfInBounds_toArray, List.set_cons_zero, List.set_cons_succ])
      apply AnyG_take (i := 2) rfl (by kernel_rfl) (by kernel_rfl) (by kernel_rfl) (by kernel_rfl)
      case hQ => exact fun _ _ _ h => h
      case hB => exact trivial
      case hC => exact hHeld
      case hy => exact yieldsIf_load_mid (by rfl) 32 _ rfl G (0) rfl (alcl a.free a.seed a.fresh (.slice Am a.macs.length cm) (.slice Ab a.boxes.length cb)) _ (fun w hS => hS) Tryd.underlying32 rfl (by rw [algSize, alcl_length])
      (try simp only [List.getElem_toArray, List.getElem_cons_succ, List.getElem_cons_zero, Act.put, List.setIfInBounds_toArray, List.set_cons_zero, List.set_cons_succ])
      apply AnyG_pure (i := 4) rfl (by kernel_rfl) (by kernel_rfl) (by kernel_rfl) (by kernel_rfl)
      case hQ => exact fun _ _ _ h => h
      case hB => exact trivial
      case hC => exact .inr hHeld
      case hy => (refine Or.inl ⟨by rfl, ?_⟩; intro w hSw; (try go_split_ands); go_simp; (try with_reducible rfl))
      (try simp only [List.getElem_toArray, List.getElem_cons_succ, List.getElem_cons_zero, Act.put, List.setIfInBounds_toArray, List.set_cons_zero, List.set_cons_succ])
      refine AnyG_one (i := 3) (by kernel_rfl) rfl (fun KK hKK => ?_)
      (try simp only [List.getElem_toArray, List.getElem_cons_succ, List.getElem_cons_zero])
      go_simp
      go_at_call 9
      refine (dknown g U0 HT0.out.1 HAV0.out (fun _ h => h.1)).mono ?_
      rintro e U1 ⟨⟨K1, hK1, rfl⟩, ht1⟩
      have HT1 := Lib.hid (HT0.out.trans ht1)
      have HAV1 := Lib.hid (HAV0.out.oth ht1.2.2 ht1.2.1.size fun _ h => h.1)
      have HR1 : Hid (ALRow U1 G a.free a.seed a.fresh (.slice Am a.macs.length cm) (.slice Ab a.boxes.length cb)) := Lib.hid (ht1.2.2.oth _ _ _ (by omega) HR0.out)
      have HZ1 : Hid (Whole U1 w.heap.size 32 zar) := Lib.hid (ht1.2.2.oth _ _ _ (by omega) HZ0.out)
      clear ht1
      clear hHeld
      have hHeld : (fun W : World => W.rangeAt G 0 (alcl a.free a.seed a.fresh (.slice Am a.macs.length cm) (.slice Ab a.boxes.length cb))) U1 := Whole.range HR1.out
      refine hKK.out _ _ (.inr hHeld) trivial ?_
      clear hKK KK
      (try simp only [List.getElem_toArray, List.getElem_cons_succ, List.getElem_cons_zero, Act.put, List.setIfInBounds_toArray, List.set_cons_zero, List.set_cons_succ])
      refine AnyG_one (i := 5) (by kernel_rfl) rfl (fun KK hKK => ?_)
      (try simp only [List.getElem_toArray, List.getElem_cons_succ, List.getElem_cons_zero])
      go_simp
      go_at_call 26
      refine (dbytes 6 (by omega) g U1 HT1.out.1).mono ?_
      rintro e U2 ⟨⟨B1, cc1, l1, hl1, rfl, hy1⟩, ht2⟩
      have HT2 := Lib.hid (HT1.out.trans ht2)
      have HAV2 := Lib.hid (HAV1.out.oth ht2.2.2 ht2.2.1.size fun _ h => h.1)
      have HR2 : Hid (ALRow U2 G a.free a.seed a.fresh (.slice Am a.macs.length cm) (.slice Ab a.boxes.length cb)) := Lib.hid (ht2.2.2.oth _ _ _ (by omega) HR1.out)
      have HZ2 : Hid (Whole U2 w.heap.size 32 zar) := Lib.hid (ht2.2.2.oth _ _ _ (by omega) HZ1.out)
      clear ht2
      clear hHeld
      have hHeld : (fun W : World => W.rangeAt G 0 (alcl a.free a.seed a.fresh (.slice Am a.macs.length cm) (.slice Ab a.boxes.length cb))) U2 := Whole.range HR2.out
      refine hKK.out _ _ (.inr hHeld) trivial ?_
      clear hKK KK
      (try simp only [List.getElem_toArray, List.getElem_cons_succ, List.getElem_cons_zero, Act.put, List.setIfInBounds_toArray, List.set_cons_zero, List.set_cons_succ])
      refine AnyG_one (i := 6) (by kernel_rfl) rfl (fun KK hKK => ?_)
      (try simp only [List.getElem_toArray, List.getElem_cons_succ, List.getElem_cons_zero])
      go_simp
      have hgs : G < U2.heap.size := HR2.out.lt
      go_at_call 12
      refine (rmac HAV2.out (by have := HBD.out; omega) hK1 hy1 (by omega)).mono ?_
      rintro e U9 ⟨⟨x, rfl, hx⟩, hb9⟩
      have hx := hx.mono (Q' := fun b => b ≠ g ∧ b ≠ G ∧ b ≠ w.heap.size) fun b _ hq => hq.elim id fun hq => ⟨by omega, by omega, by omega⟩
      have hbd := aMac_next (K := K1) (m := l1) (by omega) HBD.out
      obtain ⟨a', ha'⟩ : ∃ a', a' = (aMac a K1 l1).1 := ⟨_, rfl⟩
      rw [← ha'] at hx hbd
      clear ha'
      obtain ⟨Am', cm', Ab', cb', rfl, hM, hBx, hA⟩ := hx
      have hr9 := Whole.below HR2.out hb9 hgs
      have HE := Lib.hid (DalgI.store hbd ⟨Am', cm', Ab', cb', rfl, hM, hBx, hA⟩ hr9 (Whole.below HZ2.out hb9 (by omega)) (HT2.out.below hb9 (by omega) HT2.out.2.1.size) hgG2.1 (by omega) (by omega))
      have hrr := Whole.range hr9
      clear hM hBx hA hb9 hbd
      clear hHeld
      have hHeld : (fun W : World => W.rangeAt G 0 (alcl a.free a.seed a.fresh (.slice Am a.macs.length cm) (.slice Ab a.boxes.length cb))) U9 := hrr
      refine hKK.out _ _ (.inr hHeld) trivial ?_
      clear hKK KK
      (try simp only [List.getElem_toArray, List.getElem_cons_succ, List.getElem_cons_zero, Act.put, List.setIfInBounds_toArray, List.set_cons_zero, List.set_cons_succ])
      apply AnyG_pure (i := 7) rfl (by kernel_rfl) (by kernel_rfl) (by kernel_rfl) (by kernel_rfl)
      case hQ => exact fun _ _ _ h => h
      case hB => exact trivial
      case hC => exact .inr hHeld
      case hy => (refine Or.inl ⟨by rfl, ?_⟩; intro w hSw; (try go_split_ands); go_simp; (try with_reducible rfl))
      (try simp only [List.getElem_toArray, List.getElem_cons_succ, List.getElem_cons_zero, Act.put, List.setIfInBounds_toArray, List.set_cons_zero, List.set_cons_succ])
      apply AnyG_pure (i := 8) rfl (by kernel_rfl) (by kernel_rfl) (by kernel_rfl) (by kernel_rfl)
      case hQ => exact fun _ _ _ h => h
      case hB => exact trivial
      case hC => exact .inr hHeld
      case hy => (refine Or.inl ⟨by rfl, ?_⟩; intro w hSw; (try go_split_ands); go_simp; (try with_reducible rfl))
      (try simp only [List.getElem_toArray, List.getElem_cons_succ, List.getElem_cons_zero, Act.put, List.setIfInBounds_toArray, List.set_cons_zero, List.set_cons_succ])
      apply AnyG_pure (i := 9) rfl (by kernel_rfl) (by kernel_rfl) (by kernel_rfl) (by kernel_rfl)
      case hQ => exact fun _ _ _ h => h
      case hB => exact trivial
      case hC => exact .inr hHeld
      case hy => (refine Or.inl ⟨by rfl, ?_⟩; intro w hSw; (try go_split_ands); go_simp; (try with_reducible rfl))
      (try simp only [List.getElem_toArray, List.getElem_cons_succ, List.getElem_cons_zero, Act.put, List.setIfInBounds_toArray, List.set_cons_zero, List.set_cons_succ])
      apply AnyG_pure (i := 10) rfl (by kernel_rfl) (by kernel_rfl) (by kernel_rfl) (by kernel_rfl)
      case hQ => exact fun _ _ _ h => h
      case hB => exact trivial
      case hC => exact .inr hHeld
      case hy => (refine Or.inl ⟨by rfl, ?_⟩; intro w hSw; (try go_split_ands); go_simp; (try with_reducible rfl))
      (try simp only [List.getElem_toArray, List.getElem_cons_succ, List.getElem_cons_zero, Act.put, List.setIfInBounds_toArray, List.set_cons_zero, List.set_cons_succ])
      refine AnyG_one (i := 11) (by kernel_rfl) rfl (fun KK hKK => ?_)
      (try simp only [List.getElem_toArray, List.getElem_cons_succ, List.getElem_cons_zero])
      obtain ⟨W5, hW5⟩ : ∃ x, x = U9.setRow G (alc a'.free a'.seed a'.fresh (.slice Am' a'.macs.length cm') (.slice Ab' a'.boxes.length cb')) := ⟨_, rfl⟩
      rw [← hW5] at HE
      rw [if_pos (by kernel_rfl)]
      refine wp_store_row 32 _ _ rfl G _ rfl rfl 32 _ hr9 (by rw [algSize, alc_size]) (by rw [alc_size, alc_size]) (alc_one _ _ _ _ _ _ _ _ _) ?_
      rw [← hW5]
      clear hW5
      refine hKK.out _ _ (.inl (by kernel_rfl)) trivial ?_
      clear hKK KK
      (try simp only [List.getElem_toArray, List.getElem_cons_succ, List.getElem_cons_zero, Act.put, List.setIfInBounds_toArray, List.set_cons_zero, List.set_cons_succ])
      refine AnyG_done (by kernel_rfl) ?_ _
      clear hHeld hrr hr9
      go_wp2_with fail
      go_roundw
      case rel => exact ⟨k1, by go_num, by omega, HE.out⟩
      case measure => simp [intOf]
    · skip
      go_upto_region 11 with fail
      have hdk := HT6.out.1.drew
      have HT0 : Hid (Turn g w w6.drew) := Lib.hid (HT6.out.trans ⟨hdk, (Below.refl _ _).drew, (Oth.refl g w6).drew⟩)
      have HAV0 := Lib.hid (HAV6.out.keep (w' := w6.drew) (Nat.le_refl _) fun _ _ _ => rfl)
      have HR0 : Hid (ALRow w6.drew G a.free a.seed a.fresh (.slice Am a.macs.length cm) (.slice Ab a.boxes.length cb)) := Lib.hid (Whole.drew HR6.out)
      have HZ0 : Hid (Whole w6.drew w.heap.size 32 zar) := Lib.hid (Whole.drew HZ6.out)
      clear hdk
      refine wp_region_G (fun W : World => W.rangeAt G 0 (alcl a.free a.seed a.fresh (.slice Am a.macs.length cm) (.slice Ab a.boxes.length cb))) (fun _ => True) [13] (by kernel_rfl) ?_
      generalize w6.drew = U0 at HT0 HAV0 HR0 HZ0 ⊢
      have hHeld : (fun W : World => W.rangeAt G 0 (alcl a.free a.seed a.fresh (.slice Am a.macs.length cm) (.slice Ab a.boxes.length cb))) U0 := Whole.range HR0.out
      apply AnyG_take (i := 0) rfl (by kernel_rfl) (by kernel_rfl) (by kernel_rfl) (by kernel_rfl)
      case hQ => exact fun _ _ _ h => h
      case hB => exact trivial
      case hC => exact hHeld
      case hy => exact yieldsIf_load_mid (by rfl) 32 _ rfl G (0) rfl (alcl a.free a.seed a.fresh (.slice Am a.macs.length cm) (.slice Ab a.boxes.length cb)) _ (fun w hS => hS) Tryd.underlying32 rfl (by rw [algSize, alcl_length])
      (try simp only [List.getElem_toArray, List.getElem_cons_zero, Act.put, List.setIfInBounds_toArray, List.set_cons_zero, List.set_cons_succ])
      apply AnyG_pure (i := 1) rfl (by kernel_rfl) (by kernel_rfl) (by kernel_rfl) (by kernel_rfl)
      case hQ => exact fun _ _ _ h => h
      case hB => exact trivial
      case hC => exact .inr hHeld
      case hy => (refine Or.inl ⟨by rfl, ?_⟩; intro w hSw; (try go_split_ands); go_simp; (try with_reducible rfl))
      (try simp only [List.getElem_toArray, List.getElem_cons_succ, List.getElem_cons_zero, Act.put, List.setIfInBounds_toArray, List.set_cons_zero, List.set_cons_succ])
      apply AnyG_take (i := 2) rfl (by kernel_rfl) (by kernel_rfl) (by kernel_rfl) (by kernel_rfl)
      case hQ => exact fun _ _ _ h => h
      case hB => exact trivial
      case hC => exact hHeld
      case hy => exact yieldsIf_load_mid (by rfl) 32 _ rfl G (0) rfl (alcl a.free a.seed a.fresh (.slice Am a.macs.length cm) (.slice Ab a.boxes.length cb)) _ (fun w hS => hS) Tryd.underlying32 rfl (by rw [algSize, alcl_length])
      (try simp only [List.getElem_toArray, List.getElem_cons_succ, List.getElem_cons_zero, Act.put, List.setIfInBounds_toArray, List.set_cons_zero, List.set_cons_succ])
      apply AnyG_pure (i := 4) rfl (by kernel_rfl) (by kernel_rfl) (by kernel_rfl) (by kernel_rfl)
      case hQ => exact fun _ _ _ h => h
      case hB => exact trivial
      case hC => exact .inr hHeld
      case hy => (refine Or.inl ⟨by rfl, ?_⟩; intro w hSw; (try go_split_ands); go_simp; (try with_reducible rfl))
      (try simp only [List.getElem_toArray, List.getElem_cons_succ, List.getElem_cons_zero, Act.put, List.setIfInBounds_toArray, List.set_cons_zero, List.set_cons_succ])
      apply AnyG_pure (i := 6) rfl (by kernel_rfl) (by kernel_rfl) (by kernel_rfl) (by kernel_rfl)
      case hQ => exact fun _ _ _ h => h
      case hB => exact trivial
      case hC => exact .inr hHeld
      case hy => (refine Or.inl ⟨by rfl, ?_⟩; intro w hSw; (try go_split_ands); go_simp; (try with_reducible rfl))
      (try simp only [List.getElem_toArray, List.getElem_cons_succ, List.getElem_cons_zero, Act.put, List.setIfInBounds_toArray, List.set_cons_zero, List.set_cons_succ])
      refine AnyG_one (i := 3) (by kernel_rfl) rfl (fun KK hKK => ?_)
      (try simp only [List.getElem_toArray, List.getElem_cons_succ, List.getElem_cons_zero])
      go_simp
      go_at_call 9
      refine (dknown g U0 HT0.out.1 HAV0.out (fun _ h => h.1)).mono ?_
      rintro e U1 ⟨⟨K1, hK1, rfl⟩, ht1⟩
      have HT1 := Lib.hid (HT0.out.trans ht1)
      have HAV1 := Lib.hid (HAV0.out.oth ht1.2.2 ht1.2.1.size fun _ h => h.1)
      have HR1 : Hid (ALRow U1 G a.free a.seed a.fresh (.slice Am a.macs.length cm) (.slice Ab a.boxes.length cb)) := Lib.hid (ht1.2.2.oth _ _ _ (by omega) HR0.out)
      have HZ1 : Hid (Whole U1 w.heap.size 32 zar) := Lib.hid (ht1.2.2.oth _ _ _ (by omega) HZ0.out)
      clear ht1
      clear hHeld
      have hHeld : (fun W : World => W.rangeAt G 0 (alcl a.free a.seed a.fresh (.slice Am a.macs.length cm) (.slice Ab a.boxes.length cb))) U1 := Whole.range HR1.out
      refine hKK.out _ _ (.inr hHeld) trivial ?_
      clear hKK KK
      (try simp only [List.getElem_toArray, List.getElem_cons_succ, List.getElem_cons_zero, Act.put, List.setIfInBounds_toArray, List.set_cons_zero, List.set_cons_succ])
      refine AnyG_one (i := 5) (by kernel_rfl) rfl (fun KK hKK => ?_)
      (try simp only [List.getElem_toArray, List.getElem_cons_succ, List.getElem_cons_zero])
      go_simp
      go_at_call 20
      refine (dnext 4 (by omega) (by omega) g U1 HT1.out.1).mono ?_
      rintro e U2 ⟨z2, hz2, rfl, ht2⟩
      have HT2 := Lib.hid (HT1.out.trans ht2)
      have HAV2 := Lib.hid (HAV1.out.oth ht2.2.2 ht2.2.1.size fun _ h => h.1)
      have HR2 : Hid (ALRow U2 G a.free a.seed a.fresh (.slice Am a.macs.length cm) (.slice Ab a.boxes.length cb)) := Lib.hid (ht2.2.2.oth _ _ _ (by omega) HR1.out)
      have HZ2 : Hid (Whole U2 w.heap.size 32 zar) := Lib.hid (ht2.2.2.oth _ _ _ (by omega) HZ1.out)
      clear ht2
      clear hHeld
      have hHeld : (fun W : World => W.rangeAt G 0 (alcl a.free a.seed a.fresh (.slice Am a.macs.length cm) (.slice Ab a.boxes.length cb))) U2 := Whole.range HR2.out
      refine hKK.out _ _ (.inr hHeld) trivial ?_
      clear hKK KK
      (try simp only [List.getElem_toArray, List.getElem_cons_succ, List.getElem_cons_zero, Act.put, List.setIfInBounds_toArray, List.set_cons_zero, List.set_cons_succ])
      refine AnyG_one (i := 7) (by kernel_rfl) rfl (fun KK hKK => ?_)
      (try simp only [List.getElem_toArray, List.getElem_cons_succ, List.getElem_cons_zero])
      go_simp
      go_at_call 26
      refine (dbytes 40 (by omega) g U2 HT2.out.1).mono ?_
      rintro e U3 ⟨⟨B1, cc1, l1, hl1, rfl, hy1⟩, ht3⟩
      have HT3 := Lib.hid (HT2.out.trans ht3)
      have HAV3 := Lib.hid (HAV2.out.oth ht3.2.2 ht3.2.1.size fun _ h => h.1)
      have HR3 : Hid (ALRow U3 G a.free a.seed a.fresh (.slice Am a.macs.length cm) (.slice Ab a.boxes.length cb)) := Lib.hid (ht3.2.2.oth _ _ _ (by omega) HR2.out)
      have HZ3 : Hid (Whole U3 w.heap.size 32 zar) := Lib.hid (ht3.2.2.oth _ _ _ (by omega) HZ2.out)
      clear ht3
      clear hHeld
      have hHeld : (fun W : World => W.rangeAt G 0 (alcl a.free a.seed a.fresh (.slice Am a.macs.length cm) (.slice Ab a.boxes.length cb))) U3 := Whole.range HR3.out
      refine hKK.out _ _ (.inr hHeld) trivial ?_
      clear hKK KK
      (try simp only [List.getElem_toArray, List.getElem_cons_succ, List.getElem_cons_zero, Act.put, List.setIfInBounds_toArray, List.set_cons_zero, List.set_cons_succ])
      refine AnyG_one (i := 8) (by kernel_rfl) rfl (fun KK hKK => ?_)
      (try simp only [List.getElem_toArray, List.getElem_cons_succ, List.getElem_cons_zero])
      go_simp
      have hgs : G < U3.heap.size := HR3.out.lt
      go_at_call 17
      refine (rseal (z := (z2 : Int)) HAV3.out (by have := HBD.out; omega) hK1 (show i64q (z2 : Int) from ⟨by omega, by omega⟩) hy1 (by omega)).mono ?_
      rintro e U9 ⟨⟨x, vb, rfl, hx, -⟩, hb9⟩
      have hx := hx.mono (Q' := fun b => b ≠ g ∧ b ≠ G ∧ b ≠ w.heap.size) fun b _ hq => hq.elim id fun hq => ⟨by omega, by omega, by omega⟩
      have hbd := aSeal_next (K := K1) (m := l1) (z := (z2 : Int)) (by omega) ⟨by omega, by omega⟩ HBD.out
      obtain ⟨a', ha'⟩ : ∃ a', a' = (aSeal a K1 (z2 : Int) l1).1 := ⟨_, rfl⟩
      rw [← ha'] at hx hbd
      clear ha'
      obtain ⟨Am', cm', Ab', cb', rfl, hM, hBx, hA⟩ := hx
      have hr9 := Whole.below HR3.out hb9 hgs
      have HE := Lib.hid (DalgI.store hbd ⟨Am', cm', Ab', cb', rfl, hM, hBx, hA⟩ hr9 (Whole.below HZ3.out hb9 (by omega)) (HT3.out.below hb9 (by omega) HT3.out.2.1.size) hgG2.1 (by omega) (by omega))
      have hrr := Whole.range hr9
      clear hM hBx hA hb9 hbd
      clear hHeld
      have hHeld : (fun W : World => W.rangeAt G 0 (alcl a.free a.seed a.fresh (.slice Am a.macs.length cm) (.slice Ab a.boxes.length cb))) U9 := hrr
      refine hKK.out _ _ (.inr hHeld) trivial ?_
      clear hKK KK
      (try simp only [List.getElem_toArray, List.getElem_cons_succ, List.getElem_cons_zero, Act.put, List.setIfInBounds_toArray, List.set_cons_zero, List.set_cons_succ])
      apply AnyG_pure (i := 9) rfl (by kernel_rfl) (by kernel_rfl) (by kernel_rfl) (by kernel_rfl)
      case hQ => exact fun _ _ _ h => h
      case hB => exact trivial
      case hC => exact .inr hHeld
      case hy => (refine Or.inl ⟨by rfl, ?_⟩; intro w hSw; (try go_split_ands); go_simp; (try with_reducible rfl))
      (try simp only [List.getElem_toArray, List.getElem_cons_succ, List.getElem_cons_zero, Act.put, List.setIfInBounds_toArray, List.set_cons_zero, List.set_cons_succ])
      apply AnyG_pure (i := 10) rfl (by kernel_rfl) (by kernel_rfl) (by kernel_rfl) (by kernel_rfl)
      case hQ => exact fun _ _ _ h => h
      case hB => exact trivial
      case hC => exact .inr hHeld
      case hy => (refine Or.inl ⟨by rfl, ?_⟩; intro w hSw; (try go_split_ands); go_simp; (try with_reducible rfl))
      (try simp only [List.getElem_toArray, List.getElem_cons_succ, List.getElem_cons_zero, Act.put, List.setIfInBounds_toArray, List.set_cons_zero, List.set_cons_succ])
      apply AnyG_pure (i := 11) rfl (by kernel_rfl) (by kernel_rfl) (by kernel_rfl) (by kernel_rfl)
      case hQ => exact fun _ _ _ h => h
      case hB => exact trivial
      case hC => exact .inr hHeld
      case hy => (refine Or.inl ⟨by rfl, ?_⟩; intro w hSw; (try go_split_ands); go_simp; (try with_reducible rfl))
      (try simp only [List.getElem_toArray, List.getElem_cons_succ, List.getElem_cons_zero, Act.put, List.setIfInBounds_toArray, List.set_cons_zero, List.set_cons_succ])
      apply AnyG_pure (i := 12) rfl (by kernel_rfl) (by kernel_rfl) (by kernel_rfl) (by kernel_rfl)
      case hQ => exact fun _ _ _ h => h
      case hB => exact trivial
      case hC => exact .inr hHeld
      case hy => (refine Or.inl ⟨by rfl, ?_⟩; intro w hSw; (try go_split_ands); go_simp; (try with_reducible rfl))
      (try simp only [List.getElem_toArray, List.getElem_cons_succ, List.getElem_cons_zero, Act.put, List.setIfInBounds_toArray, List.set_cons_zero, List.set_cons_succ])
      refine AnyG_one (i := 13) (by kernel_rfl) rfl (fun KK hKK => ?_)
      (try simp only [List.getElem_toArray, List.getElem_cons_succ, List.getElem_cons_zero])
      obtain ⟨W5, hW5⟩ : ∃ x, x = U9.setRow G (alc a'.free a'.seed a'.fresh (.slice Am' a'.macs.length cm') (.slice Ab' a'.boxes.length cb')) := ⟨_, rfl⟩
      rw [← hW5] at HE
      rw [if_pos (by kernel_rfl)]
      refine wp_store_row 32 _ _ rfl G _ rfl rfl 32 _ hr9 (by rw [algSize, alc_size]) (by rw [alc_size, alc_size]) (alc_one _ _ _ _ _ _ _ _ _) ?_
      rw [← hW5]
      clear hW5
      refine hKK.out _ _ (.inl (by kernel_rfl)) trivial ?_
      clear hKK KK
      (try simp only [List.getElem_toArray, List.getElem_cons_succ, List.getElem_cons_zero, Act.put, List.setIfInBounds_toArray, List.set_cons_zero, List.set_cons_succ])
      refine AnyG_done (by kernel_rfl) ?_ _
      clear hHeld hrr hr9
      go_wp2_with fail
      go_roundw
      case rel => exact ⟨k1, by go_num, by omega, HE.out⟩
      case measure => simp [intOf]
end Go.Proofs.YtknhnkmooaopmaaDoor
namespace Go.Proofs.YtknhnkmooaopmaaDoor
open Go Go.RowKit Sh Leaf

theorem zmr_lit : Tryd.zeroCells62 = zmr := by kernel_rfl
theorem mclm_size (X : MeM) : (mcl X).toArray.size = 65 := by rw [List.size_toArray, mcl_len]
theorem mcl_one1 (X : MeM) : (mcl X).toArray.all (·.oneCell') = true := all_oneCell_toArray (mcl_one X)
theorem mcl_sz (X : MeM) : (Tryd.prog.info? 62).map (·.size) = some (mcl X).length := by rw [macSize, mcl_len]
theorem wpList_store_mac {w : World} {g : Nat} {ops : Array Oper} {rest : List Oper} {o : Oper} {a : Act} {Q : Exit → Act → World → Prop} (hgd : o.guard = none) (x y : Operand) (ho : o.op = .store 62 x y)
    (hx : a.eval x = .pointer (some ⟨g, 0, none⟩)) {cs cs' : Array Value} (hy : a.eval y = .agg cs') (hg : Whole w g 62 cs) (h8 : cs.size = 65) (h8' : cs'.size = 65) (hone : cs'.all (·.oneCell') = true)
    (h : wpList Tryd.prog ops Q rest (a.put o.dst undef) (w.setRow g cs')) : wpList Tryd.prog ops Q (o :: rest) a w :=
  wpList_store_row hgd 62 x y ho g _ hx hy 62 _ hg (by rw [macSize, h8']) (by rw [h8, h8']) hone h
theorem MCRow.key {w : World} {g : Nat} {x : MeM} (h : Whole w g 62 (mcl x).toArray) (hk : x.e.key.length = 32) : w.rangeAt g 0 (x.e.key.map byt) := fun j v hj => by
  rw [Nat.zero_add, Whole.cell h]
  unfold mcl
  have hl := (List.getElem?_eq_some_iff.1 hj).1
  rw [List.length_map, hk] at hl
  rw [List.getElem?_toArray, List.getElem?_append_left (by rw [p32_cells]; exact hl), p32_eq hk]
  exact hj
theorem MCRow.msg {w : World} {g : Nat} {x : MeM} (h : Whole w g 62 (mcl x).toArray) : w.cell? ⟨g, 32, none⟩ = some (.slice x.A x.e.msg.length x.c) := by
  rw [Whole.cell h]
  unfold mcl
  rw [List.getElem?_toArray, List.getElem?_append_right (by rw [p32_cells]; omega), p32_cells]
  rfl
theorem MCRow.tag {w : World} {g : Nat} {x : MeM} (h : Whole w g 62 (mcl x).toArray) (ht : x.e.tag.length = 32) : w.rangeAt g 33 (x.e.tag.map byt) := fun j v hj => by
  rw [Whole.cell h]
  unfold mcl
  have hl := (List.getElem?_eq_some_iff.1 hj).1
  rw [List.length_map, ht] at hl
  rw [List.getElem?_toArray, List.getElem?_append_right (by rw [p32_cells]; omega), p32_cells, show 33 + j - 32 = j + 1 by omega, List.getElem?_cons_succ, p32_eq ht]
  exact hj
theorem alc_at (fr : Bool) (sd : List B8) (n : Int) (vm vb : Value) (j : Nat) : (alc fr sd n vm vb)[33 + j]? = ([.int .i64 n, vm, vb] : List Value)[j]? := by
  unfold alc alcl
  rw [List.getElem?_toArray, show 33 + j = (32 + j) + 1 by omega, List.getElem?_cons_succ, List.getElem?_append_right (by rw [p32_cells]; omega), p32_cells, show 32 + j - 32 = j by omega]
theorem alc_inj {fr fr' : Bool} {sd sd' : List B8} {n n' : Int} {vm vb vm' vb' : Value} (h : alc fr sd n vm vb = alc fr' sd' n' vm' vb') : vm = vm' ∧ vb = vb' := by
  have h1 := congrArg (fun c : Array Value => c[33 + 1]?) h
  have h2 := congrArg (fun c : Array Value => c[33 + 2]?) h
  simp only [alc_at] at h1 h2
  exact ⟨Option.some.inj h1, Option.some.inj h2⟩
theorem AlV.parts {w : World} {Q : Nat → Prop} {a : Alg} {Am Ab : Option Addr} {cm cb : Nat} (h : AlV w Q (.agg (alc a.free a.seed a.fresh (.slice Am a.macs.length cm) (.slice Ab a.boxes.length cb))) a) : Macs w Q Am cm a.macs ∧ Bxs w Q Ab cb a.boxes := by
  obtain ⟨Am', cm', Ab', cb', he, h1, h2, -⟩ := h
  injection he with he
  obtain ⟨e1, e2⟩ := alc_inj he
  injection e1 with e1 _ e3
  injection e2 with e4 _ e6
  subst e1 e3 e4 e6
  exact ⟨h1, h2⟩
theorem wpList_load_alg_w {w : World} {g : Nat} {fr : Bool} {sd : List B8} {n : Int} {vm vb : Value} {ops : Array Oper} {rest : List Oper} {o : Oper} {a : Act} {Q : Exit → Act → World → Prop} (hgd : Region.wanted o (yielded ops a.tmps) = true) (x : Operand) (ho : o.op = .load 32 x)
    (hx : a.eval x = .pointer (some ⟨g, 0, none⟩)) (hg : ALRow w g fr sd n vm vb) (h : wpList Tryd.prog ops Q rest (a.put o.dst (.agg (alc fr sd n vm vb))) w) : wpList Tryd.prog ops Q (o :: rest) a w :=
  wpList_load_wanted_at hgd 32 x ho g 0 hx (alcl fr sd n vm vb) _ (Whole.range hg) Tryd.underlying32 rfl (alg_sz _ _ _ _ _) h
namespace Sh
theorem good_look {a : Alg} {K m T : List B8} (h : GoodA a) (hf : fnd a.macs K m = some T) (hm : m.length ≤ 4096) : aLook a K m = (T, true) := by
  unfold aLook
  split
  · rw [hf]
  · rename_i hfr
    rw [if_neg (by omega)]
    obtain ⟨e, he, rfl, rfl, rfl⟩ := fnd_mem hf
    rw [h.cm (by simpa using hfr) e he]
theorem mac_fnd {a : Alg} {K m : List B8} (hm : m.length ≤ 4096) (ha : a.macs.length < 1000) : fnd (aMac a K m).1.macs K m = some (aMac a K m).2.1 := by
  unfold aMac
  rw [if_neg (by omega)]
  cases hf : fnd a.macs K m with
  | some t => simp only [hf]
  | none =>
    simp only
    rw [if_neg (by omega)]
    show fnd (a.macs ++ [_]) K m = _
    rw [fnd_snoc, hf]
    simp
theorem mac_again {a : Alg} {K m T : List B8} (hm : m.length ≤ 4096) (hf : fnd a.macs K m = some T) : aMac a K m = (a, T, 0) := by
  unfold aMac
  rw [if_neg (by omega)]
  simp only [hf]
theorem mac_mem {a : Alg} {K m : List B8} (hm : m.length ≤ 4096) (ha : a.macs.length < 1000) : ∀ e ∈ a.macs, e ∈ (aMac a K m).1.macs := by
  intro e he
  unfold aMac
  rw [if_neg (by omega)]
  split
  · exact he
  rw [if_neg (by omega)]
  exact List.mem_append_left _ he
theorem found_all {a b c : Alg} {K m T U V : List B8} {e f : Int} {ok : Bool} (hg : GoodA a) (ha : a.macs.length ≤ 4) (hm : m.length ≤ 200) (h1 : (b, T, e) = aMac a K m) (h2 : (U, ok) = aLook b K m) (h3 : (c, V, f) = aMac b K m) :
    e = 0 ∧ f = 0 ∧ ok = true ∧ U = T ∧ V = T ∧ c = b ∧ ∀ x ∈ a.macs, aLook b x.key x.msg = (x.tag, true) := by
  have hb : GoodA b := by have := good_mac (K := K) (m := m) hg; rw [← h1] at this; exact this
  have h4 := mac_fnd (K := K) (m := m) (by omega) (by omega : a.macs.length < 1000)
  rw [← h1] at h4
  have h4 : fnd b.macs K m = some T := h4
  rw [good_look hb h4 (by omega)] at h2
  rw [mac_again (by omega) h4] at h3
  have h5 := mac_ok (K := K) (m := m) (by omega) (by omega : a.macs.length < 1000)
  rw [← h1] at h5
  have h6 := mac_mem (K := K) (m := m) (by omega) (by omega : a.macs.length < 1000)
  rw [← h1] at h6
  injection h2 with e1 e2
  injection h3 with e3 e4
  injection e4 with e4 e5
  exact ⟨h5, e5, e2, e1, e4, e3, fun x hx => good_look hb (hb.fm x (h6 x hx)) (hg.lm x hx)⟩
end Sh
end Go.Proofs.YtknhnkmooaopmaaDoor
namespace Go.Proofs.YtknhnkmooaopmaaDoor
open Go Go.RowKit Sh Leaf

/-- Behind the list's making: W0 is the world ahead of its own row. -/
def LstP (g : Nat) (P : World) (l0 : List (List B8)) (s : Value) (wx : World) : Prop := ∃ (W0 : World) (us : List Value) (bs : List B8), Turn g P W0 ∧ Below W0.heap.size W0 wx ∧ wx.ownsRow W0.heap.size 23 1 s us.length us ∧ Each wx W0.heap.size us (l0 ++ [bs]) ∧ bs.length ≤ 6
theorem LstP.of {g : Nat} {P W0 : World} {l0 : List (List B8)} {us : List Value} {bs : List B8} {n : Nat} (ht : Turn g P W0) (he : Each W0 W0.heap.size us (l0 ++ [bs])) (hn : us.length = n) (hl : n ≤ 1000) (hb : bs.length ≤ 6) :
    LstP g P l0 (.slice (some ⟨W0.heap.size, 0, none⟩) n n) (W0.alloc (.cells us.toArray 23)) := by
  subst hn
  have hb0 : Below W0.heap.size W0 (W0.alloc (.cells us.toArray 23)) := (Below.refl _ _).alloc (Nat.le_refl _) _
  refine ⟨W0, us, bs, ht, hb0, ⟨by simp, .inr ⟨W0.heap.size, us.length, us.toArray, rfl, Nat.le_refl _, heap_alloc_new W0 _, Nat.le_refl _, by unfold maxLen; omega, by simp, by simp⟩⟩, he.keep hb0 (Kb.alloc _ _), hb⟩
theorem each4 {w : World} {B : Nat} {u0 u1 u2 u3 : Value} {x0 x1 x2 x3 : List B8} (h0 : Elem w B u0 x0) (h1 : Elem w B u1 x1) (h2 : Elem w B u2 x2) (h3 : Elem w B u3 x3) : Each w B [u0, u1, u2, u3] ([x0, x1, x2] ++ [x3]) :=
  (((((Each.nil w B).snoc h0).snoc h1).snoc h2).snoc h3)
/-- Bytes that lie already are an element. -/
theorem Bytes.elem {w : World} {Q : Nat → Prop} {v : Value} {l : List B8} (h : Bytes w Q v l) : Elem w w.heap.size v l := h.mono fun _ hb _ => .inl hb
/-- Behind a region that keeps a tag and whether: the tag in a block of its own. -/
def LkP (P : World) (r : List B8 × Bool) (s13 s14 : Value) (wx : World) : Prop := ∃ G, s13 = .pointer (some ⟨G, 0, none⟩) ∧ s14 = .bool r.2 ∧ TGRow wx G r.1 ∧ Below P.heap.size P wx
/-- .. an algebra, a tag and a number. -/
def McP (P : World) (r : Alg × List B8 × Int) (s13 s14 s15 : Value) (wx : World) : Prop := ∃ (G1 G2 : Nat) (Am : Option Addr) (cm : Nat) (Ab : Option Addr) (cb : Nat), s13 = .pointer (some ⟨G1, 0, none⟩) ∧ s14 = .pointer (some ⟨G2, 0, none⟩) ∧ s15 = .int .i64 r.2.2 ∧
  ALRow wx G1 r.1.free r.1.seed r.1.fresh (.slice Am r.1.macs.length cm) (.slice Ab r.1.boxes.length cb) ∧ TGRow wx G2 r.2.1 ∧ AlV wx (fun _ => True) (.agg (alc r.1.free r.1.seed r.1.fresh (.slice Am r.1.macs.length cm) (.slice Ab r.1.boxes.length cb))) r.1 ∧ Below P.heap.size P wx
end Go.Proofs.YtknhnkmooaopmaaDoor
