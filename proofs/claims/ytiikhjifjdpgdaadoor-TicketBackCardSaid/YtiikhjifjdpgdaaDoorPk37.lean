/-
  KDalg
  KLb
  TkSpec
  ChnSpec
  KMde
  KPss
  KPsl
  KBk
-/
import Derived.Test.YtiikhjifjdpgdaaDoorKSq
import Derived.Test.YtiikhjifjdpgdaaDoorPk20
import Derived.Test.YtiikhjifjdpgdaaDoorKAnyG
import Derived.Test.YtiikhjifjdpgdaaDoorPk24
import Derived.Test.YtiikhjifjdpgdaaDoorPk26
import Derived.Test.YtiikhjifjdpgdaaDoorPk35
import Derived.Test.YtiikhjifjdpgdaaDoorPk28
import Derived.Test.YtiikhjifjdpgdaaDoorPk36
import Derived.Test.YtiikhjifjdpgdaaDoorPk0
import Derived.Test.YtiikhjifjdpgdaaDoorPk43
import Derived.Test.YtiikhjifjdpgdaaDoorPk23
namespace Go.Proofs.YtiikhjifjdpgdaaDoor
open Go Go.RowKit Sh Leaf
def DalgI (g h G : Nat) (w : World) (k : Nat) (wr : World) : Prop := ∃ (a : Alg) (Am : Option Addr) (cm : Nat) (Ab : Option Addr) (cb : Nat), (a.macs.length + k ≤ 4 ∧ a.boxes.length + k ≤ 4 ∧ a.fresh + (k : Int) ≤ 4 ∧ GoodA a) ∧
  AlV wr (fun b => b ≠ g ∧ b ≠ G ∧ b ≠ h ∧ h ≤ b) (.agg (alc a.free a.seed a.fresh (.slice Am a.macs.length cm) (.slice Ab a.boxes.length cb))) a ∧ ALRow wr G a.free a.seed a.fresh (.slice Am a.macs.length cm) (.slice Ab a.boxes.length cb) ∧ Whole wr h 32 zar ∧ Turn g w wr
theorem DalgI.store {g h G k : Nat} {w w7 : World} {a : Alg} {Am Ab : Option Addr} {cm cb : Nat} {cs : Array Value} (hbd : a.macs.length + k ≤ 4 ∧ a.boxes.length + k ≤ 4 ∧ a.fresh + (k : Int) ≤ 4 ∧ GoodA a)
    (hav : AlV w7 (fun b => b ≠ g ∧ b ≠ G ∧ b ≠ h ∧ h ≤ b) (.agg (alc a.free a.seed a.fresh (.slice Am a.macs.length cm) (.slice Ab a.boxes.length cb))) a) (hr : Whole w7 G 32 cs) (hz : Whole w7 h 32 zar) (ht : Turn g w w7) (hg : g < w.heap.size) (hG : w.heap.size ≤ G) (hh : h ≠ G) :
    DalgI g h G w k (w7.setRow G (alc a.free a.seed a.fresh (.slice Am a.macs.length cm) (.slice Ab a.boxes.length cb))) :=
  ⟨a, Am, cm, Ab, cb, hbd, hav.keep (below_setRow (B := 0) (Below.refl 0 _) (Nat.zero_le _) _).size fun b _ hq => setRow_other _ _ b _ hq.2.1, Whole.setRow hr _, Whole.setRow_far hz hh _,
    ht.below (below_setRow (B := w.heap.size) (Below.refl _ _) hG _) hg (Nat.le_refl _)⟩
theorem aMac_next0 {a : Alg} {k : Nat} {K m : List B8} (hm : m.length ≤ 4096) (h : a.macs.length + (k + 1) ≤ 4 ∧ a.boxes.length + (k + 1) ≤ 4 ∧ a.fresh + ((k + 1 : Nat) : Int) ≤ 4) : (aMac a K m).1.macs.length + k ≤ 4 ∧ (aMac a K m).1.boxes.length + k ≤ 4 ∧ (aMac a K m).1.fresh + (k : Int) ≤ 4 := by
  unfold aMac
  rw [if_neg (by omega)]
  cases fnd a.macs K m with
  | some t => exact ⟨by show a.macs.length + k ≤ 4; omega, by show a.boxes.length + k ≤ 4; omega, by show a.fresh + (k : Int) ≤ 4; omega⟩
  | none =>
    simp only
    rw [if_neg (by omega)]
    exact ⟨by show (a.macs ++ [_]).length + k ≤ 4; rw [List.length_append]; simp only [List.length_singleton]; omega, by show a.boxes.length + k ≤ 4; omega, by show a.fresh + (k : Int) ≤ 4; omega⟩
theorem aMac_next {a : Alg} {k : Nat} {K m : List B8} (hm : m.length ≤ 4096) (h : a.macs.length + (k + 1) ≤ 4 ∧ a.boxes.length + (k + 1) ≤ 4 ∧ a.fresh + ((k + 1 : Nat) : Int) ≤ 4 ∧ GoodA a) : (aMac a K m).1.macs.length + k ≤ 4 ∧ (aMac a K m).1.boxes.length + k ≤ 4 ∧ (aMac a K m).1.fresh + (k : Int) ≤ 4 ∧ GoodA (aMac a K m).1 := by
  obtain ⟨h1, h2, h3⟩ := aMac_next0 hm ⟨h.1, h.2.1, h.2.2.1⟩
  exact ⟨h1, h2, h3, good_mac h.2.2.2⟩
theorem aSeal_next0 {a : Alg} {k : Nat} {K m : List B8} {z : Int} (hm : m.length ≤ 256) (hz : 0 ≤ z ∧ z ≤ 100) (h : a.macs.length + (k + 1) ≤ 4 ∧ a.boxes.length + (k + 1) ≤ 4 ∧ a.fresh + ((k + 1 : Nat) : Int) ≤ 4) : (aSeal a K z m).1.macs.length + k ≤ 4 ∧ (aSeal a K z m).1.boxes.length + k ≤ 4 ∧ (aSeal a K z m).1.fresh + (k : Int) ≤ 4 := by
  unfold aSeal
  rw [if_neg (by omega), if_neg (by omega)]
  cases fndb a.boxes K z m with
  | some t => exact ⟨by show a.macs.length + k ≤ 4; omega, by show a.boxes.length + k ≤ 4; omega, by show a.fresh + (k : Int) ≤ 4; omega⟩
  | none =>
    simp only
    rw [if_neg (by omega)]
    exact ⟨by show a.macs.length + k ≤ 4; omega, by show (a.boxes ++ [_]).length + k ≤ 4; rw [List.length_append]; simp only [List.length_singleton]; omega, by show a.fresh + (k : Int) ≤ 4; omega⟩
theorem aSeal_next {a : Alg} {k : Nat} {K m : List B8} {z : Int} (hm : m.length ≤ 256) (hz : 0 ≤ z ∧ z ≤ 100) (h : a.macs.length + (k + 1) ≤ 4 ∧ a.boxes.length + (k + 1) ≤ 4 ∧ a.fresh + ((k + 1 : Nat) : Int) ≤ 4 ∧ GoodA a) : (aSeal a K z m).1.macs.length + k ≤ 4 ∧ (aSeal a K z m).1.boxes.length + k ≤ 4 ∧ (aSeal a K z m).1.fresh + (k : Int) ≤ 4 ∧ GoodA (aSeal a K z m).1 := by
  obtain ⟨h1, h2, h3⟩ := aSeal_next0 hm hz ⟨h.1, h.2.1, h.2.2.1⟩
  exact ⟨h1, h2, h3, good_seal h.2.2.2⟩
theorem aKey_next0 {a : Alg} {k : Nat} (h : a.macs.length + (k + 1) ≤ 4 ∧ a.boxes.length + (k + 1) ≤ 4 ∧ a.fresh + ((k + 1 : Nat) : Int) ≤ 4) : (aKey a).1.macs.length + k ≤ 4 ∧ (aKey a).1.boxes.length + k ≤ 4 ∧ (aKey a).1.fresh + (k : Int) ≤ 4 := by
  unfold aKey
  rw [if_neg (by omega)]
  exact ⟨by show a.macs.length + k ≤ 4; omega, by show a.boxes.length + k ≤ 4; omega, by show a.fresh + 1 + (k : Int) ≤ 4; omega⟩
theorem aKey_next {a : Alg} {k : Nat} (h : a.macs.length + (k + 1) ≤ 4 ∧ a.boxes.length + (k + 1) ≤ 4 ∧ a.fresh + ((k + 1 : Nat) : Int) ≤ 4 ∧ GoodA a) : (aKey a).1.macs.length + k ≤ 4 ∧ (aKey a).1.boxes.length + k ≤ 4 ∧ (aKey a).1.fresh + (k : Int) ≤ 4 ∧ GoodA (aKey a).1 := by
  obtain ⟨h1, h2, h3⟩ := aKey_next0  ⟨h.1, h.2.1, h.2.2.1⟩
  exact ⟨h1, h2, h3, good_key h.2.2.2⟩
set_option linter.unusedSimpArgs false in
set_option linter.unusedVariables false in
set_option maxRecDepth 100000 in
set_option maxHeartbeats 8000000 in
theorem dalgs (g : Nat) (w : World) (h : Deck g w) :
    Calls Tryd.prog 10 #[.pointer (some ⟨g, 0, none⟩)] w fun e w' => (∃ x a, e = .returned x ∧ AlV w' (fun b => b ≠ g ∧ w.heap.size ≤ b) x a ∧ a.macs.length ≤ 4 ∧ a.boxes.length ≤ 4 ∧ a.fresh ≤ 4 ∧ GoodA a) ∧ Turn g w w' := by
  have hgw := h.lt
  obtain ⟨p, hp⟩ : ∃ p, p = w.alloc (.cells zar 32) := ⟨_, rfl⟩
  have hb : Below w.heap.size w p := by rw [hp]; exact (Below.refl _ _).alloc (Nat.le_refl _) _
  have hz : Whole p w.heap.size 32 zar := by rw [hp]; exact Whole.here _ _ _
  have HTP := Lib.hid (h.here hb)
  have HZ := Lib.hid hz
  have hps : w.heap.size < p.heap.size := hz.lt
  have hnx := dnext 2 (by omega) (by omega) g p (h.below hb hgw)
  clear h hb hz
  go_enter Tryd.func10, Tryd.ntmps10
  go_upto_region 1 with fail
  rw [zar_lit, ← hp]
  clear hp
  go_wp2_with fail
  refine hnx.mono ?_
  rintro e w1 ⟨i, hi, rfl, ht1⟩
  have HT1 := Lib.hid (HTP.out.trans ht1)
  have HZ1 : Hid (Whole w1 w.heap.size 32 zar) := Lib.hid (ht1.2.2.oth _ _ _ (by omega) HZ.out)
  have hdt := dtag g w1 ht1.1
  clear hnx ht1
  go_wp2_with fail
  refine hdt.mono ?_
  rintro e w2 ⟨⟨K, hK, rfl⟩, ht2⟩
  have HT2 := Lib.hid (HT1.out.trans ht2)
  have HZ2 : Hid (Whole w2 w.heap.size 32 zar) := Lib.hid (ht2.2.2.oth _ _ _ (by omega) HZ1.out)
  have hs2 : w.heap.size < w2.heap.size := HZ2.out.lt
  have hnw := rnew ((i : Int) == 0) hK w2 (fun _ => False)
  clear hdt ht2
  go_wp2_with fail
  refine hnw.mono ?_
  rintro e w3 ⟨⟨v, rfl, hv⟩, hb3⟩
  obtain ⟨a, ha⟩ : ∃ a : Alg, a = ⟨((i : Int) == 0), K, 0, [], []⟩ := ⟨_, rfl⟩
  rw [← ha] at hv
  have HAA := Lib.hid ha
  clear ha
  obtain ⟨Am, cm, Ab, cb, rfl, hM, hBx, hA⟩ := hv
  have hs3 : w2.heap.size ≤ w3.heap.size := hb3.size
  clear hnw
  go_upto_region 2 with (with_reducible refine wpList_store_alg rfl _ _ rfl (g := w3.heap.size) rfl rfl (Whole.here w3 _ _) rfl (alc_size _ _ _ _ _) (alc_one _ _ _ _ _ _ _ _ _) ?_)
  rw [zar_lit]
  obtain ⟨w4, hw4⟩ : ∃ x, x = (w3.alloc (.cells zar 32)).setRow w3.heap.size (alc a.free a.seed a.fresh (.slice Am a.macs.length cm) (.slice Ab a.boxes.length cb)) := ⟨_, rfl⟩
  have hb4 : Below w3.heap.size w3 w4 := by rw [hw4]; exact below_setRow ((Below.refl _ _).alloc (Nat.le_refl _) _) (Nat.le_refl _) _
  have hr4 : ALRow w4 w3.heap.size a.free a.seed a.fresh (.slice Am a.macs.length cm) (.slice Ab a.boxes.length cb) := by rw [hw4]; exact Whole.setRow (Whole.here _ _ _) _
  rw [← hw4]
  clear hw4
  simp only [Act.put]
  obtain ⟨G, hG⟩ : ∃ G, G = w3.heap.size := ⟨_, rfl⟩
  rw [← hG] at hr4 ⊢
  have hgG : g < w.heap.size ∧ w.heap.size < G ∧ G < w4.heap.size := by have := hr4.lt; omega
  have HAV : Hid (AlV w4 (fun b => b ≠ g ∧ b ≠ G ∧ b ≠ w.heap.size ∧ w.heap.size ≤ b) (.agg (alc a.free a.seed a.fresh (.slice Am a.macs.length cm) (.slice Ab a.boxes.length cb))) a) := Lib.hid (AlV.mono (AlV.below ⟨Am, cm, Ab, cb, rfl, hM, hBx, hA⟩ hb4 (Nat.le_refl _)) fun _ _ h => h.elim)
  have HT4 : Hid (Turn g w w4) := Lib.hid ((HT2.out.below hb3 (by omega) (by omega)).below hb4 (by omega) (by omega))
  have HR4 := Lib.hid hr4
  have HZ4 : Hid (Whole w4 w.heap.size 32 zar) := Lib.hid (Whole.below (Whole.below HZ2.out hb3 hs2) hb4 (by omega))
  have hn5 := dnext 5 (by omega) (by omega) g w4 HT4.out.1
  have HAS : Hid (a.macs.length = 0 ∧ a.boxes.length = 0 ∧ a.fresh = 0 ∧ GoodA a) := Lib.hid (by rw [HAA.out]; exact ⟨rfl, rfl, rfl, good_new _ _⟩)
  clear hM hBx hA hb3 hb4 hr4 hG
  go_wp2_with fail
  refine hn5.mono ?_
  rintro e w5 ⟨k0, hk0, rfl, ht5⟩
  clear hn5
  have HT5 := Lib.hid (HT4.out.trans ht5)
  have HAV5 := Lib.hid (HAV.out.oth ht5.2.2 ht5.2.1.size fun _ h => h.1)
  have HR5 : Hid (ALRow w5 G a.free a.seed a.fresh (.slice Am a.macs.length cm) (.slice Ab a.boxes.length cb)) := Lib.hid (ht5.2.2.oth _ _ _ (by omega) HR4.out)
  have HZ5 : Hid (Whole w5 w.heap.size 32 zar) := Lib.hid (ht5.2.2.oth _ _ _ (by omega) HZ4.out)
  clear ht5
  have HI5 : Hid (DalgI g w.heap.size G w k0 w5) := Lib.hid ⟨a, Am, cm, Ab, cb, ⟨by have := HAS.out; omega, by have := HAS.out; omega, by have := HAS.out; omega, HAS.out.2.2.2⟩, HAV5.out, HR5.out, HZ5.out, HT5.out⟩
  have hgG2 : g < w.heap.size ∧ w.heap.size < G := ⟨hgG.1, hgG.2.1⟩
  clear HAV5 HR5 HZ5 HT5 HAV HR4 HZ4 HT4 HAS HAA hgG HT2 HZ2 HT1 HZ1
  go_wp2_with fail
  go_loopw [4] (fun v wr => ∃ k : Nat, v = .int .i64 k ∧ k ≤ 4 ∧ DalgI g w.heap.size G w k wr) (fun v _ => (intOf v).toNat)
  case atStart => exact ⟨k0, rfl, by omega, HI5.out⟩
  case round =>
    clear HI5
    obtain ⟨k, rfl, hk, a, Am, cm, Ab, cb, hbd, hav, hr, hz, ht⟩ := hrel
    have HAV := Lib.hid hav
    have HR := Lib.hid hr
    have HZ := Lib.hid hz
    have HT := Lib.hid ht
    have HBD := Lib.hid hbd
    clear hav hr hz ht hbd
    by_cases hk0 : k = 0
    case pos =>
      subst hk0
      have h3 := Whole.setRow HZ.out (alc a.free a.seed a.fresh (.slice Am a.macs.length cm) (.slice Ab a.boxes.length cb))
      have HB3 := Lib.hid (below_setRow (B := w.heap.size) (Below.refl w.heap.size wr) (Nat.le_refl _) (alc a.free a.seed a.fresh (.slice Am a.macs.length cm) (.slice Ab a.boxes.length cb)))
      have HAV3 : Hid (AlV (wr.setRow w.heap.size (alc a.free a.seed a.fresh (.slice Am a.macs.length cm) (.slice Ab a.boxes.length cb))) (fun b => b ≠ g ∧ w.heap.size ≤ b) (.agg (alc a.free a.seed a.fresh (.slice Am a.macs.length cm) (.slice Ab a.boxes.length cb))) a) := Lib.hid ((HAV.out.keep (below_setRow (B := 0) (Below.refl 0 _) (Nat.zero_le _) _).size fun b _ hq => setRow_other _ _ b _ hq.2.2.1).mono fun b _ hq => ⟨hq.1, hq.2.2.2⟩)
      go_wp2_with (first
        | (with_reducible refine wpList_load_alg rfl _ rfl rfl HR.out (alc_size _ _ _ _ _) ?_)
        | (with_reducible refine wpList_store_alg rfl _ _ rfl (g := w.heap.size) rfl rfl HZ.out zar_size (alc_size _ _ _ _ _) (alc_one _ _ _ _ _ _ _ _ _) ?_))
      refine bodyPost_ret (results_cell_row Tryd.results10 _ _ w.heap.size _ _ _ _ rfl h3 Tryd.underlying32 rfl (by rw [algSize, alc_size])) rfl ?_
      exact ⟨⟨_, a, rfl, HAV3.out, by have := HBD.out; omega, by have := HBD.out; omega, by have := HBD.out; omega, HBD.out.2.2.2⟩, HT.out.below HB3.out hgG2.1 (Nat.le_refl _)⟩
    obtain ⟨k1, rfl⟩ : ∃ k1, k = k1 + 1 := ⟨k - 1, by omega⟩
    have hn3 := dnext 3 (by omega) (by omega) g wr HT.out.1
    have hkp : (0 : Int) < (k1 : Int) + 1 := by omega
    go_wp2_with fail
    refine hn3.mono ?_
    rintro e w6 ⟨i3, hi3, rfl, ht6⟩
    clear hn3
    have HT6 := Lib.hid (HT.out.trans ht6)
    have HAV6 := Lib.hid (HAV.out.oth ht6.2.2 ht6.2.1.size fun _ h => h.1)
    have HR6 : Hid (ALRow w6 G a.free a.seed a.fresh (.slice Am a.macs.length cm) (.slice Ab a.boxes.length cb)) := Lib.hid (ht6.2.2.oth _ _ _ (by omega) HR.out)
    have HZ6 : Hid (Whole w6 w.heap.size 32 zar) := Lib.hid (ht6.2.2.oth _ _ _ (by omega) HZ.out)
    have hGs : G < w6.heap.size := HR6.out.lt
    clear ht6 HT HAV HR HZ
    rcases (by omega : i3 = 0 ∨ i3 = 1 ∨ i3 = 2) with rfl | rfl | rfl
    · have hky := rkey HAV6.out
      go_wp2_with (with_reducible refine wpList_load_alg rfl _ rfl rfl HR6.out (alc_size _ _ _ _ _) ?_)
      refine hky.mono ?_
      rintro e w7 ⟨⟨x, rfl, hx⟩, hb7⟩
      clear hky
      obtain ⟨a', ha'⟩ : ∃ a', a' = (aKey a).1 := ⟨_, rfl⟩
      have hbd := aKey_next HBD.out
      rw [← ha'] at hx hbd
      obtain ⟨Am', cm', Ab', cb', rfl, hM, hBx, hA⟩ := hx
      have HE := Lib.hid (DalgI.store hbd ⟨Am', cm', Ab', cb', rfl, hM, hBx, hA⟩ (Whole.below HR6.out hb7 hGs) (Whole.below HZ6.out hb7 (by omega)) (HT6.out.below hb7 (by omega) HT6.out.2.1.size) hgG2.1 (by omega) (by omega))
      have hr7 := Whole.below HR6.out hb7 hGs
      clear hM hBx hA ha' hb7
      go_wp2_with (with_reducible refine wpList_store_alg rfl _ _ rfl (g := G) rfl rfl hr7 (alc_size _ _ _ _ _) (alc_size _ _ _ _ _) (alc_one _ _ _ _ _ _ _ _ _) ?_)
      go_roundw
      case rel => exact ⟨k1, by go_num, by omega, HE.out⟩
      case measure => simp [intOf]
    · skip
      go_upto_region 9 with fail
      have hdk := HT6.out.1.drew
      have HT0 : Hid (Turn g w w6.drew) := Lib.hid (HT6.out.trans ⟨hdk, (Below.refl _ _).drew, (Oth.refl g w6).drew⟩)
      have HAV0 := Lib.hid (HAV6.out.keep (w' := w6.drew) (Nat.le_refl _) fun _ _ _ => rfl)
      have HR0 : Hid (ALRow w6.drew G a.free a.seed a.fresh (.slice Am a.macs.length cm) (.slice Ab a.boxes.length cb)) := Lib.hid (Whole.drew HR6.out)
      have HZ0 : Hid (Whole w6.drew w.heap.size 32 zar) := Lib.hid (Whole.drew HZ6.out)
      clear hdk
      refine wp_region_G (fun W : World => W.rangeAt G 0 (alcl a.free a.seed a.fresh (.slice Am a.macs.length cm) (.slice Ab a.boxes.length cb))) (fun _ => True) [11] (by kernel_rfl) ?_
      generalize w6.drew = U0 at HT0 HAV0 HR0 HZ0 ⊢
      have hHeld : (fun W : World => W.rangeAt G 0 (alcl a.free a.seed a.fresh (.slice Am a.macs.length cm) (.slice Ab a.boxes.length cb))) U0 := Whole.range HR0.out
      apply AnyG_take (i := 0) rfl (by kernel_rfl) (by kernel_rfl) (by kernel_rfl) (by kernel_rfl)
      case hQ => exact fun _ _ _ h => h
      case hB => exact trivial
      case hC => exact hHeld
      case hy => exact yieldsIf_load_mid (by rfl) 32 _ rfl G (0) rfl (alcl a.free a.seed a.fresh (.slice Am a.macs.length cm) (.slice Ab a.boxes.length cb)) _ (fun w hS => hS) Tryd.underlying32 rfl (by rw [algSize, alcl_length])
      (try simp only [sq])
      apply AnyG_pure (i := 1) rfl (by kernel_rfl) (by kernel_rfl) (by kernel_rfl) (by kernel_rfl)
      case hQ => exact fun _ _ _ h => h
      case hB => exact trivial
      case hC => exact .inr hHeld
      case hy => (refine Or.inl ⟨by rfl, ?_⟩; intro w hSw; (try go_split_ands); go_simp; (try with_reducible rfl))
      (try simp only [sq])
      apply AnyG_take (i := 2) rfl (by kernel_rfl) (by kernel_rfl) (by kernel_rfl) (by kernel_rfl)
      case hQ => exact fun _ _ _ h => h
      case hB => exact trivial
      case hC => exact hHeld
      case hy => exact yieldsIf_load_mid (by rfl) 32 _ rfl G (0) rfl (alcl a.free a.seed a.fresh (.slice Am a.macs.length cm) (.slice Ab a.boxes.length cb)) _ (fun w hS => hS) Tryd.underlying32 rfl (by rw [algSize, alcl_length])
      (try simp only [sq])
      apply AnyG_pure (i := 4) rfl (by kernel_rfl) (by kernel_rfl) (by kernel_rfl) (by kernel_rfl)
      case hQ => exact fun _ _ _ h => h
      case hB => exact trivial
      case hC => exact .inr hHeld
      case hy => (refine Or.inl ⟨by rfl, ?_⟩; intro w hSw; (try go_split_ands); go_simp; (try with_reducible rfl))
      (try simp only [sq])
      refine AnyG_one (i := 3) (by kernel_rfl) rfl (fun KK hKK => ?_)
      (try simp only [sq])
      go_simp
      go_at_call 11
      refine (dknown g U0 HT0.out.1 HAV0.out (fun _ h => h.1)).mono ?_
      rintro e U1 ⟨⟨K1, hK1, rfl⟩, ht1⟩
      have HT1 := Lib.hid (HT0.out.trans ht1)
      have HAV1 := Lib.hid (HAV0.out.oth ht1.2.2 ht1.2.1.size fun _ h => h.1)
      have HR1 : Hid (ALRow U1 G a.free a.seed a.fresh (.slice Am a.macs.length cm) (.slice Ab a.boxes.length cb)) := Lib.hid (ht1.2.2.oth _ _ _ (by omega) HR0.out)
      have HZ1 : Hid (Whole U1 w.heap.size 32 zar) := Lib.hid (ht1.2.2.oth _ _ _ (by omega) HZ0.out)
      clear ht1
      clear hHeld
      have hHeld : (fun W : World => W.rangeAt G 0 (alcl a.free a.seed a.fresh (.slice Am a.macs.length cm) (.slice Ab a.boxes.length cb))) U1 := Whole.range HR1.out
      refine hKK.out _ _ (.inr hHeld) trivial ?_
      clear hKK KK
      (try simp only [sq])
      refine AnyG_one (i := 5) (by kernel_rfl) rfl (fun KK hKK => ?_)
      (try simp only [sq])
      go_simp
      go_at_call 37
      refine (dbytes 6 (by omega) g U1 HT1.out.1).mono ?_
      rintro e U2 ⟨⟨B1, cc1, l1, hl1, rfl, hy1⟩, ht2⟩
      have HT2 := Lib.hid (HT1.out.trans ht2)
      have HAV2 := Lib.hid (HAV1.out.oth ht2.2.2 ht2.2.1.size fun _ h => h.1)
      have HR2 : Hid (ALRow U2 G a.free a.seed a.fresh (.slice Am a.macs.length cm) (.slice Ab a.boxes.length cb)) := Lib.hid (ht2.2.2.oth _ _ _ (by omega) HR1.out)
      have HZ2 : Hid (Whole U2 w.heap.size 32 zar) := Lib.hid (ht2.2.2.oth _ _ _ (by omega) HZ1.out)
      clear ht2
      clear hHeld
      have hHeld : (fun W : World => W.rangeAt G 0 (alcl a.free a.seed a.fresh (.slice Am a.macs.length cm) (.slice Ab a.boxes.length cb))) U2 := Whole.range HR2.out
      refine hKK.out _ _ (.inr hHeld) trivial ?_
      clear hKK KK
      (try simp only [sq])
      refine AnyG_one (i := 6) (by kernel_rfl) rfl (fun KK hKK => ?_)
      (try simp only [sq])
      go_simp
      have hgs : G < U2.heap.size := HR2.out.lt
      go_at_call 14
      refine (rmac HAV2.out (by have := HBD.out; omega) hK1 hy1 (by omega)).mono ?_
      rintro e U9 ⟨⟨x, rfl, hx⟩, hb9⟩
      have hx := hx.mono (Q' := fun b => b ≠ g ∧ b ≠ G ∧ b ≠ w.heap.size ∧ w.heap.size ≤ b) fun b _ hq => hq.elim id fun hq => ⟨by omega, by omega, by omega, by omega⟩
      have hbd := aMac_next (K := K1) (m := l1) (by omega) HBD.out
      obtain ⟨a', ha'⟩ : ∃ a', a' = (aMac a K1 l1).1 := ⟨_, rfl⟩
      rw [← ha'] at hx hbd
      clear ha'
      obtain ⟨Am', cm', Ab', cb', rfl, hM, hBx, hA⟩ := hx
      have hr9 := Whole.below HR2.out hb9 hgs
      have HE := Lib.hid (DalgI.store hbd ⟨Am', cm', Ab', cb', rfl, hM, hBx, hA⟩ hr9 (Whole.below HZ2.out hb9 (by omega)) (HT2.out.below hb9 (by omega) HT2.out.2.1.size) hgG2.1 (by omega) (by omega))
      have hrr := Whole.range hr9
      clear hM hBx hA hb9 hbd
      clear hHeld
      have hHeld : (fun W : World => W.rangeAt G 0 (alcl a.free a.seed a.fresh (.slice Am a.macs.length cm) (.slice Ab a.boxes.length cb))) U9 := hrr
      refine hKK.out _ _ (.inr hHeld) trivial ?_
      clear hKK KK
      (try simp only [sq])
      apply AnyG_pure (i := 7) rfl (by kernel_rfl) (by kernel_rfl) (by kernel_rfl) (by kernel_rfl)
      case hQ => exact fun _ _ _ h => h
      case hB => exact trivial
      case hC => exact .inr hHeld
      case hy => (refine Or.inl ⟨by rfl, ?_⟩; intro w hSw; (try go_split_ands); go_simp; (try with_reducible rfl))
      (try simp only [sq])
      apply AnyG_pure (i := 8) rfl (by kernel_rfl) (by kernel_rfl) (by kernel_rfl) (by kernel_rfl)
      case hQ => exact fun _ _ _ h => h
      case hB => exact trivial
      case hC => exact .inr hHeld
      case hy => (refine Or.inl ⟨by rfl, ?_⟩; intro w hSw; (try go_split_ands); go_simp; (try with_reducible rfl))
      (try simp only [sq])
      apply AnyG_pure (i := 9) rfl (by kernel_rfl) (by kernel_rfl) (by kernel_rfl) (by kernel_rfl)
      case hQ => exact fun _ _ _ h => h
      case hB => exact trivial
      case hC => exact .inr hHeld
      case hy => (refine Or.inl ⟨by rfl, ?_⟩; intro w hSw; (try go_split_ands); go_simp; (try with_reducible rfl))
      (try simp only [sq])
      apply AnyG_pure (i := 10) rfl (by kernel_rfl) (by kernel_rfl) (by kernel_rfl) (by kernel_rfl)
      case hQ => exact fun _ _ _ h => h
      case hB => exact trivial
      case hC => exact .inr hHeld
      case hy => (refine Or.inl ⟨by rfl, ?_⟩; intro w hSw; (try go_split_ands); go_simp; (try with_reducible rfl))
      (try simp only [sq])
      refine AnyG_one (i := 11) (by kernel_rfl) rfl (fun KK hKK => ?_)
      (try simp only [sq])
      obtain ⟨W5, hW5⟩ : ∃ x, x = U9.setRow G (alc a'.free a'.seed a'.fresh (.slice Am' a'.macs.length cm') (.slice Ab' a'.boxes.length cb')) := ⟨_, rfl⟩
      rw [← hW5] at HE
      rw [if_pos (by kernel_rfl)]
      refine wp_store_row 32 _ _ rfl G _ rfl rfl 32 _ hr9 (by rw [algSize, alc_size]) (by rw [alc_size, alc_size]) (alc_one _ _ _ _ _ _ _ _ _) ?_
      rw [← hW5]
      clear hW5
      refine hKK.out _ _ (.inl (by kernel_rfl)) trivial ?_
      clear hKK KK
      (try simp only [sq])
      refine AnyG_done (by kernel_rfl) ?_ _
      clear hHeld hrr hr9
      go_wp2_with fail
      go_roundw
      case rel => exact ⟨k1, by go_num, by omega, HE.out⟩
      case measure => simp [intOf]
    · skip
      go_upto_region 11 with fail
      have hdk := HT6.out.1.drew
      have HT0 : Hid (Turn g w w6.drew) := Lib.hid (HT6.out.trans ⟨hdk, (Below.refl _ _).drew, (Oth.refl g w6).drew⟩)
      have HAV0 := Lib.hid (HAV6.out.keep (w' := w6.drew) (Nat.le_refl _) fun _ _ _ => rfl)
      have HR0 : Hid (ALRow w6.drew G a.free a.seed a.fresh (.slice Am a.macs.length cm) (.slice Ab a.boxes.length cb)) := Lib.hid (Whole.drew HR6.out)
      have HZ0 : Hid (Whole w6.drew w.heap.size 32 zar) := Lib.hid (Whole.drew HZ6.out)
      clear hdk
      refine wp_region_G (fun W : World => W.rangeAt G 0 (alcl a.free a.seed a.fresh (.slice Am a.macs.length cm) (.slice Ab a.boxes.length cb))) (fun _ => True) [13] (by kernel_rfl) ?_
      generalize w6.drew = U0 at HT0 HAV0 HR0 HZ0 ⊢
      have hHeld : (fun W : World => W.rangeAt G 0 (alcl a.free a.seed a.fresh (.slice Am a.macs.length cm) (.slice Ab a.boxes.length cb))) U0 := Whole.range HR0.out
      apply AnyG_take (i := 0) rfl (by kernel_rfl) (by kernel_rfl) (by kernel_rfl) (by kernel_rfl)
      case hQ => exact fun _ _ _ h => h
      case hB => exact trivial
      case hC => exact hHeld
      case hy => exact yieldsIf_load_mid (by rfl) 32 _ rfl G (0) rfl (alcl a.free a.seed a.fresh (.slice Am a.macs.length cm) (.slice Ab a.boxes.length cb)) _ (fun w hS => hS) Tryd.underlying32 rfl (by rw [algSize, alcl_length])
      (try simp only [sq])
      apply AnyG_pure (i := 1) rfl (by kernel_rfl) (by kernel_rfl) (by kernel_rfl) (by kernel_rfl)
      case hQ => exact fun _ _ _ h => h
      case hB => exact trivial
      case hC => exact .inr hHeld
      case hy => (refine Or.inl ⟨by rfl, ?_⟩; intro w hSw; (try go_split_ands); go_simp; (try with_reducible rfl))
      (try simp only [sq])
      apply AnyG_take (i := 2) rfl (by kernel_rfl) (by kernel_rfl) (by kernel_rfl) (by kernel_rfl)
      case hQ => exact fun _ _ _ h => h
      case hB => exact trivial
      case hC => exact hHeld
      case hy => exact yieldsIf_load_mid (by rfl) 32 _ rfl G (0) rfl (alcl a.free a.seed a.fresh (.slice Am a.macs.length cm) (.slice Ab a.boxes.length cb)) _ (fun w hS => hS) Tryd.underlying32 rfl (by rw [algSize, alcl_length])
      (try simp only [sq])
      apply AnyG_pure (i := 4) rfl (by kernel_rfl) (by kernel_rfl) (by kernel_rfl) (by kernel_rfl)
      case hQ => exact fun _ _ _ h => h
      case hB => exact trivial
      case hC => exact .inr hHeld
      case hy => (refine Or.inl ⟨by rfl, ?_⟩; intro w hSw; (try go_split_ands); go_simp; (try with_reducible rfl))
      (try simp only [sq])
      apply AnyG_pure (i := 6) rfl (by kernel_rfl) (by kernel_rfl) (by kernel_rfl) (by kernel_rfl)
      case hQ => exact fun _ _ _ h => h
      case hB => exact trivial
      case hC => exact .inr hHeld
      case hy => (refine Or.inl ⟨by rfl, ?_⟩; intro w hSw; (try go_split_ands); go_simp; (try with_reducible rfl))
      (try simp only [sq])
      refine AnyG_one (i := 3) (by kernel_rfl) rfl (fun KK hKK => ?_)
      (try simp only [sq])
      go_simp
      go_at_call 11
      refine (dknown g U0 HT0.out.1 HAV0.out (fun _ h => h.1)).mono ?_
      rintro e U1 ⟨⟨K1, hK1, rfl⟩, ht1⟩
      have HT1 := Lib.hid (HT0.out.trans ht1)
      have HAV1 := Lib.hid (HAV0.out.oth ht1.2.2 ht1.2.1.size fun _ h => h.1)
      have HR1 : Hid (ALRow U1 G a.free a.seed a.fresh (.slice Am a.macs.length cm) (.slice Ab a.boxes.length cb)) := Lib.hid (ht1.2.2.oth _ _ _ (by omega) HR0.out)
      have HZ1 : Hid (Whole U1 w.heap.size 32 zar) := Lib.hid (ht1.2.2.oth _ _ _ (by omega) HZ0.out)
      clear ht1
      clear hHeld
      have hHeld : (fun W : World => W.rangeAt G 0 (alcl a.free a.seed a.fresh (.slice Am a.macs.length cm) (.slice Ab a.boxes.length cb))) U1 := Whole.range HR1.out
      refine hKK.out _ _ (.inr hHeld) trivial ?_
      clear hKK KK
      (try simp only [sq])
      refine AnyG_one (i := 5) (by kernel_rfl) rfl (fun KK hKK => ?_)
      (try simp only [sq])
      go_simp
      go_at_call 30
      refine (dnext 4 (by omega) (by omega) g U1 HT1.out.1).mono ?_
      rintro e U2 ⟨z2, hz2, rfl, ht2⟩
      have HT2 := Lib.hid (HT1.out.trans ht2)
      have HAV2 := Lib.hid (HAV1.out.oth ht2.2.2 ht2.2.1.size fun _ h => h.1)
      have HR2 : Hid (ALRow U2 G a.free a.seed a.fresh (.slice Am a.macs.length cm) (.slice Ab a.boxes.length cb)) := Lib.hid (ht2.2.2.oth _ _ _ (by omega) HR1.out)
      have HZ2 : Hid (Whole U2 w.heap.size 32 zar) := Lib.hid (ht2.2.2.oth _ _ _ (by omega) HZ1.out)
      clear ht2
      clear hHeld
      have hHeld : (fun W : World => W.rangeAt G 0 (alcl a.free a.seed a.fresh (.slice Am a.macs.length cm) (.slice Ab a.boxes.length cb))) U2 := Whole.range HR2.out
      refine hKK.out _ _ (.inr hHeld) trivial ?_
      clear hKK KK
      (try simp only [sq])
      refine AnyG_one (i := 7) (by kernel_rfl) rfl (fun KK hKK => ?_)
      (try simp only [sq])
      go_simp
      go_at_call 37
      refine (dbytes 40 (by omega) g U2 HT2.out.1).mono ?_
      rintro e U3 ⟨⟨B1, cc1, l1, hl1, rfl, hy1⟩, ht3⟩
      have HT3 := Lib.hid (HT2.out.trans ht3)
      have HAV3 := Lib.hid (HAV2.out.oth ht3.2.2 ht3.2.1.size fun _ h => h.1)
      have HR3 : Hid (ALRow U3 G a.free a.seed a.fresh (.slice Am a.macs.length cm) (.slice Ab a.boxes.length cb)) := Lib.hid (ht3.2.2.oth _ _ _ (by omega) HR2.out)
      have HZ3 : Hid (Whole U3 w.heap.size 32 zar) := Lib.hid (ht3.2.2.oth _ _ _ (by omega) HZ2.out)
      clear ht3
      clear hHeld
      have hHeld : (fun W : World => W.rangeAt G 0 (alcl a.free a.seed a.fresh (.slice Am a.macs.length cm) (.slice Ab a.boxes.length cb))) U3 := Whole.range HR3.out
      refine hKK.out _ _ (.inr hHeld) trivial ?_
      clear hKK KK
      (try simp only [sq])
      refine AnyG_one (i := 8) (by kernel_rfl) rfl (fun KK hKK => ?_)
      (try simp only [sq])
      go_simp
      have hgs : G < U3.heap.size := HR3.out.lt
      go_at_call 32
      refine (rseal (z := (z2 : Int)) HAV3.out (by have := HBD.out; omega) hK1 (show i64q (z2 : Int) from ⟨by omega, by omega⟩) hy1 (by omega)).mono ?_
      rintro e U9 ⟨⟨x, vb, rfl, hx, -⟩, hb9⟩
      have hx := hx.mono (Q' := fun b => b ≠ g ∧ b ≠ G ∧ b ≠ w.heap.size ∧ w.heap.size ≤ b) fun b _ hq => hq.elim id fun hq => ⟨by omega, by omega, by omega, by omega⟩
      have hbd := aSeal_next (K := K1) (m := l1) (z := (z2 : Int)) (by omega) ⟨by omega, by omega⟩ HBD.out
      obtain ⟨a', ha'⟩ : ∃ a', a' = (aSeal a K1 (z2 : Int) l1).1 := ⟨_, rfl⟩
      rw [← ha'] at hx hbd
      clear ha'
      obtain ⟨Am', cm', Ab', cb', rfl, hM, hBx, hA⟩ := hx
      have hr9 := Whole.below HR3.out hb9 hgs
      have HE := Lib.hid (DalgI.store hbd ⟨Am', cm', Ab', cb', rfl, hM, hBx, hA⟩ hr9 (Whole.below HZ3.out hb9 (by omega)) (HT3.out.below hb9 (by omega) HT3.out.2.1.size) hgG2.1 (by omega) (by omega))
      have hrr := Whole.range hr9
      clear hM hBx hA hb9 hbd
      clear hHeld
      have hHeld : (fun W : World => W.rangeAt G 0 (alcl a.free a.seed a.fresh (.slice Am a.macs.length cm) (.slice Ab a.boxes.length cb))) U9 := hrr
      refine hKK.out _ _ (.inr hHeld) trivial ?_
      clear hKK KK
      (try simp only [sq])
      apply AnyG_pure (i := 9) rfl (by kernel_rfl) (by kernel_rfl) (by kernel_rfl) (by kernel_rfl)
      case hQ => exact fun _ _ _ h => h
      case hB => exact trivial
      case hC => exact .inr hHeld
      case hy => (refine Or.inl ⟨by rfl, ?_⟩; intro w hSw; (try go_split_ands); go_simp; (try with_reducible rfl))
      (try simp only [sq])
      apply AnyG_pure (i := 10) rfl (by kernel_rfl) (by kernel_rfl) (by kernel_rfl) (by kernel_rfl)
      case hQ => exact fun _ _ _ h => h
      case hB => exact trivial
      case hC => exact .inr hHeld
      case hy => (refine Or.inl ⟨by rfl, ?_⟩; intro w hSw; (try go_split_ands); go_simp; (try with_reducible rfl))
      (try simp only [sq])
      apply AnyG_pure (i := 11) rfl (by kernel_rfl) (by kernel_rfl) (by kernel_rfl) (by kernel_rfl)
      case hQ => exact fun _ _ _ h => h
      case hB => exact trivial
      case hC => exact .inr hHeld
      case hy => (refine Or.inl ⟨by rfl, ?_⟩; intro w hSw; (try go_split_ands); go_simp; (try with_reducible rfl))
      (try simp only [sq])
      apply AnyG_pure (i := 12) rfl (by kernel_rfl) (by kernel_rfl) (by kernel_rfl) (by kernel_rfl)
      case hQ => exact fun _ _ _ h => h
      case hB => exact trivial
      case hC => exact .inr hHeld
      case hy => (refine Or.inl ⟨by rfl, ?_⟩; intro w hSw; (try go_split_ands); go_simp; (try with_reducible rfl))
      (try simp only [sq])
      refine AnyG_one (i := 13) (by kernel_rfl) rfl (fun KK hKK => ?_)
      (try simp only [sq])
      obtain ⟨W5, hW5⟩ : ∃ x, x = U9.setRow G (alc a'.free a'.seed a'.fresh (.slice Am' a'.macs.length cm') (.slice Ab' a'.boxes.length cb')) := ⟨_, rfl⟩
      rw [← hW5] at HE
      rw [if_pos (by kernel_rfl)]
      refine wp_store_row 32 _ _ rfl G _ rfl rfl 32 _ hr9 (by rw [algSize, alc_size]) (by rw [alc_size, alc_size]) (alc_one _ _ _ _ _ _ _ _ _) ?_
      rw [← hW5]
      clear hW5
      refine hKK.out _ _ (.inl (by kernel_rfl)) trivial ?_
      clear hKK KK
      (try simp only [sq])
      refine AnyG_done (by kernel_rfl) ?_ _
      clear hHeld hrr hr9
      go_wp2_with fail
      go_roundw
      case rel => exact ⟨k1, by go_num, by omega, HE.out⟩
      case measure => simp [intOf]
theorem dalg (g : Nat) (w : World) (h : Deck g w) :
    Calls Tryd.prog 10 #[.pointer (some ⟨g, 0, none⟩)] w fun e w' => (∃ x a, e = .returned x ∧ AlV w' (fun b => b ≠ g) x a ∧ a.macs.length ≤ 4 ∧ a.boxes.length ≤ 4 ∧ a.fresh ≤ 4 ∧ GoodA a) ∧ Turn g w w' :=
  (dalgs g w h).mono fun _ _ ⟨⟨x, a, h1, h2, h3⟩, ht⟩ => ⟨⟨x, a, h1, h2.mono fun _ _ hq => hq.1, h3⟩, ht⟩
end Go.Proofs.YtiikhjifjdpgdaaDoor
namespace Go.Proofs.YtiikhjifjdpgdaaDoor
open Go Go.RowKit Sh Leaf

namespace Sh
theorem seal_le (a : Alg) (K : List B8) (z : Int) (m : List B8) : (aSeal a K z m).1.boxes.length ≤ a.boxes.length + 1 := by
  unfold aSeal
  split
  · exact Nat.zero_le _
  split
  · exact Nat.zero_le _
  split
  · exact Nat.le_succ _
  split
  · exact Nat.zero_le _
  · show (a.boxes ++ [_]).length ≤ _
    rw [List.length_append]; simp
end Sh
end Go.Proofs.YtiikhjifjdpgdaaDoor
namespace Go.Proofs.YtiikhjifjdpgdaaDoor
open Go Go.RowKit Sh Leaf

def tmok (lo hi : Int) : Prop := 0 ≤ lo ∧ lo ≤ hi ∧ hi ≤ 150
instance (lo hi : Int) : Decidable (tmok lo hi) := by unfold tmok; infer_instance
def tjoin (K : List B8) (lo hi : Int) : List B8 := K ++ enc lo.toNat ++ enc hi.toNat
def tsplit (l : List B8) : Option (List B8 × Int × Int) :=
  if l.length < 32 then none
  else if (rd (l.drop 32)).2.2 ≠ 0 then none
  else if (rd ((l.drop 32).drop (rd (l.drop 32)).2.1)).2.2 ≠ 0 then none
  else if tmok ((rd (l.drop 32)).1 : Int) ((rd ((l.drop 32).drop (rd (l.drop 32)).2.1)).1 : Int) ∧ ((l.drop 32).drop (rd (l.drop 32)).2.1).drop (rd ((l.drop 32).drop (rd (l.drop 32)).2.1)).2.1 = [] then some (l.take 32, ((rd (l.drop 32)).1 : Int), ((rd ((l.drop 32).drop (rd (l.drop 32)).2.1)).1 : Int))
  else none
theorem tsplit_join {K : List B8} {lo hi : Int} (hK : K.length = 32) (h : tmok lo hi) : tsplit (tjoin K lo hi) = some (K, lo, hi) := by
  have h0 := h
  obtain ⟨h1, h2, h3⟩ := h
  have e1 : (tjoin K lo hi).drop 32 = enc lo.toNat ++ enc hi.toNat := by
    unfold tjoin
    rw [List.append_assoc, ← hK, List.drop_left]
  have e2 : (tjoin K lo hi).take 32 = K := by
    unfold tjoin
    rw [List.append_assoc, ← hK, List.take_left]
  have r1 := rd_enc lo.toNat (by omega) (enc hi.toNat)
  have r2 := rd_enc hi.toNat (by omega) []
  rw [List.append_nil] at r2
  have hl : ¬ (tjoin K lo hi).length < 32 := by
    unfold tjoin
    simp only [List.length_append]
    omega
  unfold tsplit
  rw [if_neg hl, e1, e2, r1]
  simp only [List.drop_left, r2, ne_eq, not_true_eq_false, if_false]
  rw [if_pos ⟨by rw [Int.toNat_of_nonneg h1, Int.toNat_of_nonneg (by omega)]; exact h0, by simp⟩, Int.toNat_of_nonneg h1, Int.toNat_of_nonneg (by omega)]
structure Blk where
  party : Int
  key : List B8
  ticket : List B8
abbrev zblk : Blk := ⟨0, ztag, []⟩
def pBlank (a : Alg) (party : Int) (key : List B8) (lo hi : Int) : Alg × Blk × Int :=
  if tmok lo hi ∧ 0 ≤ party ∧ party ≤ 7 then
    (if (aKey a).2.2 ≠ 0 then (zalg, zblk, (aKey a).2.2)
    else if (aSeal (aKey a).1 key (aKey a).1.fresh (tjoin (aKey a).2.1 lo hi)).2.2 ≠ 0 then (zalg, zblk, (aSeal (aKey a).1 key (aKey a).1.fresh (tjoin (aKey a).2.1 lo hi)).2.2)
    else ((aSeal (aKey a).1 key (aKey a).1.fresh (tjoin (aKey a).2.1 lo hi)).1, ⟨party, (aKey a).2.1, (aSeal (aKey a).1 key (aKey a).1.fresh (tjoin (aKey a).2.1 lo hi)).2.1⟩, 0))
  else (zalg, zblk, 1)
def pOpenT (a : Alg) (key t : List B8) : List B8 × (Int × Int) × Int :=
  if (aOpen a key t).2 ≠ 0 then (ztag, (0, 0), (aOpen a key t).2)
  else match tsplit (aOpen a key t).1 with
    | some (K, lo, hi) => (K, (lo, hi), 0)
    | none => (ztag, (0, 0), 5)
end Go.Proofs.YtiikhjifjdpgdaaDoor
namespace Go.Proofs.YtiikhjifjdpgdaaDoor
open Go Go.RowKit Sh Leaf
namespace Sh

def nodew : List B8 := [110#8, 111#8, 100#8, 101#8]
def mintw : List B8 := [109#8, 105#8, 110#8, 116#8]
def cavw : List B8 := [99#8, 97#8, 118#8, 101#8, 97#8, 116#8]
def mintm (n : Nat) : List B8 := mintw ++ enc n
def cavm (c : Cav) : List B8 := cavw ++ cen c
def aNode (a : Alg) (k m : List B8) : Alg × List B8 × Int :=
  if (aMac a k m).2.2 ≠ 0 then (zalg, ztag, (aMac a k m).2.2)
  else if (aMac (aMac a k m).1 (aMac a k m).2.1 nodew).2.2 ≠ 0 then (zalg, ztag, (aMac (aMac a k m).1 (aMac a k m).2.1 nodew).2.2)
  else ((aMac (aMac a k m).1 (aMac a k m).2.1 nodew).1, (aMac a k m).2.1, 0)
structure Pss where
  epoch : Int
  serial : Int
  cavs : List Cav
  tag : List B8
deriving DecidableEq
abbrev zpss : Pss := ⟨0, 0, [], ztag⟩
def minto (z s : Int) : Prop := 1 ≤ z ∧ z ≤ 1000 ∧ 1 ≤ s ∧ s ≤ 1073741824
instance (z s : Int) : Decidable (minto z s) := by unfold minto; infer_instance
def pMint (a : Alg) (z : Int) (k : List B8) (s : Int) : Alg × Pss × Int :=
  if minto z s then (if (aNode a k (mintm s.toNat)).2.2 ≠ 0 then (zalg, zpss, (aNode a k (mintm s.toNat)).2.2) else ((aNode a k (mintm s.toNat)).1, ⟨z, s, [], (aNode a k (mintm s.toNat)).2.1⟩, 0))
  else (zalg, zpss, 1)
def thirds (l : List Cav) : Nat := (l.filter fun c => c.third).length
def roomc (l : List Cav) (c : Cav) : Prop := l.length < 64 ∧ (c.third = true → thirds l < 8)
instance (l : List Cav) (c : Cav) : Decidable (roomc l c) := by unfold roomc; infer_instance
def pAtt (a : Alg) (p : Pss) (c : Cav) : Alg × Pss × Int :=
  if cvok c then (if roomc p.cavs c then (if (aNode a p.tag (cavm c)).2.2 ≠ 0 then (zalg, zpss, (aNode a p.tag (cavm c)).2.2) else ((aNode a p.tag (cavm c)).1, ⟨p.epoch, p.serial, p.cavs ++ [c], (aNode a p.tag (cavm c)).2.1⟩, 0)) else (zalg, zpss, 2))
  else (zalg, zpss, 5)
inductive Chn (a : Alg) (k : List B8) : List (List B8) → List B8 → Prop
  | nil : Chn a k [] k
  | snoc {l : List (List B8)} {t m : List B8} {e : Me} {i : Nat} : Chn a k l t → a.macs[i]? = some e → e.key = t → e.msg = m → Chn a k (m :: l) e.tag
theorem Chn.grow {a b : Alg} {k t : List B8} {l : List (List B8)} (h : Chn a k l t) (hb : ∃ x, b.macs = a.macs ++ x ∧ x.length ≤ 2) : Chn b k l t := by
  obtain ⟨x, hx, -⟩ := hb
  induction h with
  | nil => exact .nil
  | snoc h1 h2 h3 h4 ih => exact .snoc ih (by rw [hx, List.getElem?_append_left (by obtain ⟨h, _⟩ := List.getElem?_eq_some_iff.1 h2; exact h)]; exact h2) h3 h4
theorem Chn.same {a : Alg} {k t t' : List B8} {l : List (List B8)} (hg : GoodA a) (h : Chn a k l t) (h' : Chn a k l t') : t = t' := by
  induction h generalizing t' with
  | nil => cases h'; rfl
  | snoc h1 h2 h3 h4 ih =>
    rename_i l0 t0 m0 e0 i0
    generalize hl : m0 :: l0 = L at h'
    cases h' with
    | nil => cases hl
    | snoc g1 g2 g3 g4 =>
      injection hl with q1 q2
      subst q1 q2
      have e1 := ih g1
      have m1 := hg.fm _ (List.mem_of_getElem? h2)
      have m2 := hg.fm _ (List.mem_of_getElem? g2)
      rw [h3, h4] at m1
      rw [g3, g4, ← e1] at m2
      rw [m1] at m2
      injection m2
def msgs (s : Int) (l : List Cav) : List (List B8) := (l.map cavm).reverse ++ [mintm s.toNat]
end Sh
end Go.Proofs.YtiikhjifjdpgdaaDoor
namespace Go.Proofs.YtiikhjifjdpgdaaDoor
open Go Go.RowKit Sh Leaf

structure MdM where
  a : Alg
  Am : Option Addr
  cm : Nat
  Ab : Option Addr
  cb : Nat
  T : List B8
def mal (x : MdM) : List Value := alcl x.a.free x.a.seed x.a.fresh (.slice x.Am x.a.macs.length x.cm) (.slice x.Ab x.a.boxes.length x.cb)
def mdl (x : MdM) : List Value := mal x ++ (p32 x.T).map byt
@[irreducible] def zps : Array Value := #[.int .i64 0, .int .i64 0, .slice none 0 0, .int .u8 0, .int .u8 0, .int .u8 0, .int .u8 0, .int .u8 0, .int .u8 0, .int .u8 0, .int .u8 0, .int .u8 0, .int .u8 0, .int .u8 0, .int .u8 0, .int .u8 0, .int .u8 0, .int .u8 0, .int .u8 0, .int .u8 0, .int .u8 0, .int .u8 0, .int .u8 0, .int .u8 0, .int .u8 0, .int .u8 0, .int .u8 0, .int .u8 0, .int .u8 0, .int .u8 0, .int .u8 0, .int .u8 0, .int .u8 0, .int .u8 0, .int .u8 0]
abbrev zmade : Value := .agg #[.bool false, .int .u8 0, .int .u8 0, .int .u8 0, .int .u8 0, .int .u8 0, .int .u8 0, .int .u8 0, .int .u8 0, .int .u8 0, .int .u8 0, .int .u8 0, .int .u8 0, .int .u8 0, .int .u8 0, .int .u8 0, .int .u8 0, .int .u8 0, .int .u8 0, .int .u8 0, .int .u8 0, .int .u8 0, .int .u8 0, .int .u8 0, .int .u8 0, .int .u8 0, .int .u8 0, .int .u8 0, .int .u8 0, .int .u8 0, .int .u8 0, .int .u8 0, .int .u8 0, .int .i64 0, .slice none 0 0, .slice none 0 0, .int .u8 0, .int .u8 0, .int .u8 0, .int .u8 0, .int .u8 0, .int .u8 0, .int .u8 0, .int .u8 0, .int .u8 0, .int .u8 0, .int .u8 0, .int .u8 0, .int .u8 0, .int .u8 0, .int .u8 0, .int .u8 0, .int .u8 0, .int .u8 0, .int .u8 0, .int .u8 0, .int .u8 0, .int .u8 0, .int .u8 0, .int .u8 0, .int .u8 0, .int .u8 0, .int .u8 0, .int .u8 0, .int .u8 0, .int .u8 0, .int .u8 0, .int .u8 0]
section
variable {w : World} {g : Nat} {ops : Array Oper} {rest : List Oper} {o : Oper} {a : Act} {Q : Exit → Act → World → Prop}
end
end Go.Proofs.YtiikhjifjdpgdaaDoor
namespace Go.Proofs.YtiikhjifjdpgdaaDoor
open Go Go.RowKit Sh Leaf

structure CvM where
  e : Cav
  A1 : Option Addr
  c1 : Nat
  A2 : Option Addr
  c2 : Nat
def cvl (x : CvM) : List Value := [.bool x.e.third, .int .i64 x.e.first.kind, .int .u64 (x.e.first.mask : Int), .int .i64 x.e.first.lo, .int .i64 x.e.first.hi, .string (sof x.e.first.name), .int .i64 x.e.first.num, .int .i64 x.e.party, .slice x.A1 x.e.ticket.length x.c1, .slice x.A2 x.e.box.length x.c2]
def cmok (x : CvM) : Prop := Cwf x.e
def Cavs (w : World) (Q : Nat → Prop) (A : Option Addr) (c : Nat) (l : List Cav) : Prop := ∃ L : List CvM, L.map (·.e) = l ∧ Seq cvl cmok w Q A c L ∧ ∀ x ∈ L, Bytes w Q (.slice x.A1 x.e.ticket.length x.c1) x.e.ticket ∧ Bytes w Q (.slice x.A2 x.e.box.length x.c2) x.e.box
section
variable {w w' : World} {Q Q' : Nat → Prop} {A : Option Addr} {c : Nat} {l : List Cav}
theorem Cavs.keep (h : Cavs w Q A c l) (hs : w.heap.size ≤ w'.heap.size) (hk : ∀ g, g < w.heap.size → Q g → w'.heap[g]? = w.heap[g]?) : Cavs w' Q A c l := by
  obtain ⟨L, h1, h2, h3⟩ := h
  exact ⟨L, h1, h2.keep hs hk, fun x hx => ⟨(h3 x hx).1.keep hk, (h3 x hx).2.keep hk⟩⟩
theorem Cavs.mono (h : Cavs w Q A c l) (hq : ∀ g, g < w.heap.size → Q g → Q' g) : Cavs w Q' A c l := by
  obtain ⟨L, h1, h2, h3⟩ := h
  exact ⟨L, h1, h2.mono hq, fun x hx => ⟨(h3 x hx).1.mono hq, (h3 x hx).2.mono hq⟩⟩
theorem Cavs.below {B : Nat} (h : Cavs w Q A c l) (hb : Below B w w') (hB : w.heap.size ≤ B) : Cavs w' Q A c l := h.keep hb.size fun g hg _ => hb.block g (by omega)
theorem Cavs.nil (w : World) (Q : Nat → Prop) : Cavs w Q none 0 [] := ⟨[], rfl, Seq.nil _ _, fun x h => by simp at h⟩
end
def psl (z s : Int) (vc : Value) (T : List B8) : List Value := .int .i64 z :: .int .i64 s :: vc :: (p32 T).map byt
def epl (z : Int) (K : List B8) : List Value := .int .i64 z :: (p32 K).map byt
def PssV (w : World) (Q : Nat → Prop) (v : Value) (p : Pss) : Prop := ∃ A c, v = .agg (psl p.epoch p.serial (.slice A p.cavs.length c) p.tag).toArray ∧ Cavs w Q A c p.cavs ∧ p.tag.length = 32
theorem PssV.mono {w : World} {Q Q' : Nat → Prop} {v : Value} {p : Pss} (h : PssV w Q v p) (hq : ∀ g, g < w.heap.size → Q g → Q' g) : PssV w Q' v p := by
  obtain ⟨A, c, h1, h2, h3⟩ := h
  exact ⟨A, c, h1, h2.mono hq, h3⟩
theorem PssV.keep {w w' : World} {Q : Nat → Prop} {v : Value} {p : Pss} (h : PssV w Q v p) (hs : w.heap.size ≤ w'.heap.size) (hk : ∀ g, g < w.heap.size → Q g → w'.heap[g]? = w.heap[g]?) : PssV w' Q v p := by
  obtain ⟨A, c, h1, h2, h3⟩ := h
  exact ⟨A, c, h1, h2.keep hs hk, h3⟩
theorem PssV.below {w w' : World} {B : Nat} {Q : Nat → Prop} {v : Value} {p : Pss} (h : PssV w Q v p) (hb : Below B w w') (hB : w.heap.size ≤ B) : PssV w' Q v p := h.keep hb.size fun g hg _ => hb.block g (by omega)
def PssR (w' : World) (Q : Nat → Prop) (e : Ending) (r : Alg × Pss × Int) : Prop := ∃ v u, e = .returned (.tuple #[v, u, .int .i64 r.2.2]) ∧ AlV w' Q v r.1 ∧ PssV w' Q u r.2.1
section
variable {w : World} {g : Nat} {ops : Array Oper} {rest : List Oper} {o : Oper} {a : Act} {Q : Exit → Act → World → Prop}
end
end Go.Proofs.YtiikhjifjdpgdaaDoor
namespace Go.Proofs.YtiikhjifjdpgdaaDoor
open Go Go.RowKit Sh Leaf

end Go.Proofs.YtiikhjifjdpgdaaDoor
namespace Go.Proofs.YtiikhjifjdpgdaaDoor
open Go Go.RowKit Sh Leaf
namespace Sh
theorem strm_strm (K : List B8) (n : Nat) (m : List B8) : strm K n (strm K n m) = m := by
  unfold strm
  refine List.ext_getElem? fun i => ?_
  rw [List.getElem?_mapIdx, List.getElem?_mapIdx]
  cases m[i]? with
  | none => rfl
  | some x =>
    simp only [Option.map_some]
    generalize kstr K n i = y
    congr 1
    rw [BitVec.xor_assoc, BitVec.xor_self, BitVec.xor_zero]
theorem fndo_isSome {l : List Bx} {e : Bx} (h : e ∈ l) : ∃ e' ∈ l, e'.key = e.key ∧ e'.box = e.box ∧ fndo l e.key e.box = some e'.plain := by
  unfold fndo
  cases hf : l.find? (fun x => decide (x.key = e.key ∧ x.box = e.box)) with
  | none => exact absurd (List.find?_eq_none.1 hf e h) (by simp)
  | some x =>
    have := List.find?_some hf
    simp at this
    exact ⟨x, List.mem_of_find?_eq_some hf, this.1, this.2, rfl⟩
theorem cOpen_box (K m : List B8) (z : Nat) (hz : z ≤ 281474976710656) (hm : m.length ≤ 256) : cOpen K (boxh K (z : Int) m ++ hmac K (boxw ++ boxh K (z : Int) m)) = (m, 0) := by
  obtain ⟨H, hH⟩ : ∃ H, H = boxh K (z : Int) m := ⟨_, rfl⟩
  rw [← hH]
  obtain ⟨T, hT⟩ : ∃ T, T = hmac K (boxw ++ H) := ⟨_, rfl⟩
  rw [← hT]
  have hHl : H.length = 8 + m.length := by rw [hH]; unfold boxh; rw [List.length_append, be8_length, strm_length]
  have hTl : T.length = 32 := by rw [hT]; exact hmac_length _ _
  have hl : (H ++ T).length = 40 + m.length := by rw [List.length_append]; omega
  have e1 : (H ++ T).take ((H ++ T).length - 32) = H := by rw [hl, show 40 + m.length - 32 = H.length by omega]; exact List.take_left' rfl
  have e2 : (H ++ T).drop ((H ++ T).length - 32) = T := by rw [hl, show 40 + m.length - 32 = H.length by omega]; exact List.drop_left' rfl
  unfold cOpen
  rw [if_neg (by omega), e1, e2, ← hT, if_pos rfl]
  have e3 : (H ++ T).take 8 = be8 z := by
    rw [hH]; unfold boxh
    rw [List.append_assoc, Int.toNat_natCast]
    exact List.take_left' (be8_length z)
  have e4 : H.drop 8 = strm K z m := by
    rw [hH]; unfold boxh
    rw [Int.toNat_natCast]
    exact List.drop_left' (be8_length z)
  rw [e3, e4, beval_be8 (by omega), strm_strm]
theorem box_back {a b : Alg} {K m X U : List B8} {z : Nat} {e f : Int} (hG : GoodA a) (hz : z ≤ 281474976710656) (hm : m.length ≤ 256) (hl : a.boxes.length ≤ 4) (h1 : (b, X, e) = aSeal a K (z : Int) m) (h2 : (U, f) = aOpen b K X) : e = 0 ∧ f = 0 ∧ U = m ∧ X.length = m.length + 40 := by
  have hgb : GoodA (aSeal a K (z : Int) m).1 := good_seal hG
  rw [← h1] at hgb
  have key : e = 0 ∧ ∃ x ∈ b.boxes, x.key = K ∧ x.plain = m ∧ x.box = X := by
    unfold aSeal at h1
    rw [if_neg (by omega), if_neg (by omega)] at h1
    cases hf : fndb a.boxes K (z : Int) m with
    | some t =>
      rw [hf] at h1
      injection h1 with h1 h3
      injection h3 with h3 h4
      obtain ⟨x, hx, k1, -, k3, k4⟩ := fndb_mem hf
      exact ⟨h4, x, by rw [h1]; exact hx, k1, k3, by rw [k4, h3]⟩
    | none =>
      rw [hf] at h1
      simp only [if_neg (show ¬ 65536 ≤ a.boxes.length by omega)] at h1
      injection h1 with h1 h3
      injection h3 with h3 h4
      exact ⟨h4, ⟨K, (z : Int), m, boxb a K (z : Int) m⟩, by rw [h1]; simp, rfl, rfl, h3.symm⟩
  obtain ⟨rfl, x, hx, rfl, rfl, rfl⟩ := key
  by_cases hfr : b.free = true
  · obtain ⟨y, hy, k1, k2, k3⟩ := fndo_isSome hx
    obtain ⟨i, hi, hie⟩ := List.getElem_of_mem hx
    obtain ⟨j, hj, hje⟩ := List.getElem_of_mem hy
    have t1 := hgb.tb hfr i x (by rw [List.getElem?_eq_getElem hi, hie])
    have t2 := hgb.tb hfr j y (by rw [List.getElem?_eq_getElem hj, hje])
    have hbl : b.boxes.length ≤ 5 := by
      have := seal_le a x.key (z : Int) x.plain
      rw [← h1] at this
      simp only at this
      omega
    have hij : i = j := by
      by_cases q : i = j
      · exact q
      · have e1 := congrArg (List.take 32) k2
        rw [t1, t2, List.take_left' (sym_length _ _), List.take_left' (sym_length _ _)] at e1
        exact absurd e1.symm (sym_ne2 (by omega) (by omega) (by omega) (by omega) (by omega))
    subst hij
    have hxy : x = y := hie.symm.trans hje
    rw [aOpen_free hfr, k3, ← hxy] at h2
    simp at h2
    refine ⟨rfl, h2.2, h2.1, ?_⟩
    rw [t1, List.length_append, sym_length, List.length_replicate]
    omega
  · have hfr : b.free = false := by simpa using hfr
    have hb := hgb.cb hfr x hx
    obtain ⟨n, hn⟩ := Int.eq_ofNat_of_zero_le (hgb.nb x hx).1
    have hn2 := (hgb.nb x hx).2
    rw [hn] at hb hn2
    rw [aOpen_comp hfr, hb, cOpen_box _ _ _ (by omega) hm] at h2
    injection h2 with h2 h3
    refine ⟨rfl, h3, h2, ?_⟩
    rw [hb, List.length_append, hmac_length]
    unfold boxh
    rw [List.length_append, be8_length, strm_length]
    omega
end Sh
end Go.Proofs.YtiikhjifjdpgdaaDoor
