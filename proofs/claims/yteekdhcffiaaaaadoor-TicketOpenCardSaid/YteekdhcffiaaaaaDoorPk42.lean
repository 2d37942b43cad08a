/-
  AlgRMac
  KDalg
  BxOpenC
-/
import Derived.Deep.RegionHeld3
import Derived.Deep.CutBlock
import Derived.Deep.DeepCutAuto
import Derived.Test.YteekdhcffiaaaaaDoorKSq
import Derived.Test.YteekdhcffiaaaaaDoorPk34
import Derived.Test.YteekdhcffiaaaaaDoorPk20
import Derived.Test.YteekdhcffiaaaaaDoorPk22
import Derived.Test.YteekdhcffiaaaaaDoorPk24
import Derived.Test.YteekdhcffiaaaaaDoorKAnyG
import Derived.Test.YteekdhcffiaaaaaDoorPk27
import Derived.Test.YteekdhcffiaaaaaDoorPk43
import Derived.Test.YteekdhcffiaaaaaDoorPk23
import Derived.Test.YteekdhcffiaaaaaDoorPk8
namespace Go.Proofs.YteekdhcffiaaaaaDoor
open Go Go.RowKit Sh Leaf

set_option linter.unusedSimpArgs false in
set_option maxRecDepth 100000 in
set_option maxHeartbeats 8000000 in
theorem rmac {w : World} {Q Q2 : Nat → Prop} {x : Value} {B : Option Addr} {d : Nat} {a : Alg} {K m : List B8} (hx : AlV w Q x a) (hlen : a.macs.length < 1000) (hK : K.length = 32) (hm : Bytes w Q2 (.slice B m.length d) m) (hml : m.length ≤ 100000) :
    Calls Tryd.prog 23 #[x, .agg (K.map byt).toArray, .slice B m.length d] w fun e w' => AlgR w' (fun g => Q g ∨ w.heap.size ≤ g) e (aMac a K m) ∧ Below w.heap.size w w' := by
  have hx0 := hx
  obtain ⟨Am, cm, Ab, cb, rfl, hM, hBx, hA⟩ := hx
  obtain ⟨p, hp⟩ : ∃ p, p = (((w.alloc (.cells (alc a.free a.seed a.fresh (.slice Am a.macs.length cm) (.slice Ab a.boxes.length cb)) 32)).alloc (.cells (K.map byt).toArray 28)).alloc (.cells zar 32)).alloc (.cells ztr 28) := ⟨_, rfl⟩
  have hr : ALRow p w.heap.size a.free a.seed a.fresh (.slice Am a.macs.length cm) (.slice Ab a.boxes.length cb) := by rw [hp]; exact (((Whole.here _ _ _).alloc _).alloc _).alloc _
  have hk : TGRow p (w.heap.size + 1) K := by rw [hp]; exact ((Whole.at_ _ _ _ _ (by simp)).alloc _).alloc _
  have h6 : Whole p (w.heap.size + 1 + 1) 32 zar := by rw [hp]; exact (Whole.at_ _ _ _ _ (by simp)).alloc _
  have h7 : Whole p (w.heap.size + 1 + 1 + 1) 28 ztr := by rw [hp]; exact Whole.at_ _ _ _ _ (by simp)
  have hb : Below w.heap.size w p := by rw [hp]; exact ((((Below.refl _ _).alloc (Nat.le_refl _) _).alloc (by simp) _).alloc (by simp; omega) _).alloc (by simp; omega) _
  have hps : (w.heap.size + 1 + 1 + 1) < p.heap.size := h7.lt
  have HX := Lib.hid hx0
  have HMC := Lib.hid hM
  have HBX := Lib.hid hBx
  have HA := Lib.hid hA
  have HM := Lib.hid hm
  have HR := Lib.hid hr
  have HK := Lib.hid hk
  have H6 := Lib.hid h6
  have H7 := Lib.hid h7
  have HB := Lib.hid hb
  have HLEN := Lib.hid hlen
  clear hx0 hM hBx hA hm hr hk h6 h7 hb
  obtain ⟨R, hR⟩ : ∃ R, R = aMac a K m := ⟨_, rfl⟩
  have hRR := hR
  unfold aMac at hRR
  rw [← hR]
  clear hR
  by_cases hbig : 4096 < m.length
  · skip
    rw [if_pos hbig] at hRR
    have HRR := Lib.hid hRR
    have hb1 : (4096 : Int) < (m.length : Int) := by omega
    clear hRR hbig
    go_enter Tryd.func23, Tryd.ntmps23
    go_upto_region 1 with fail
    rw [zar_lit, ztr_lit, ← hp]
    clear hp
    go_wp2_with (first
      | (with_reducible refine wpList_store_alg rfl _ _ rfl (g := (w.heap.size + 1 + 1)) rfl rfl H6.out zar_size rfl (by with_unfolding_all rfl) ?_)
      | (with_reducible refine wpList_store_tag rfl _ _ rfl (g := (w.heap.size + 1 + 1 + 1)) rfl rfl (Whole.setRow_far H7.out (by omega) _) ztr_size rfl (by with_unfolding_all rfl) ?_))
    rw [zar_lit, ztr_lit]
    have e1 := Whole.setRow_far (Whole.setRow H6.out zar) (g' := (w.heap.size + 1 + 1 + 1)) (by omega) ztr
    have e2 := Whole.setRow (Whole.setRow_far H7.out (g' := (w.heap.size + 1 + 1)) (by omega) zar) ztr
    refine bodyPost_ret (results_alg3 Tryd.results23 _ rfl rfl _ rfl zar_size ztr_size e1 e2) rfl ?_
    show AlgR _ _ _ R ∧ _
    rw [HRR.out]
    exact ⟨⟨_, by rw [ztr_eq]; rfl, alv_zero _ _⟩, below_setRow (below_setRow HB.out (by omega) _) (by omega) _⟩
  rw [if_neg hbig] at hRR
  have hb1 : ¬ (4096 : Int) < (m.length : Int) := by omega
  obtain ⟨f, hf⟩ : ∃ f, f = fnd a.macs K m := ⟨_, rfl⟩
  rw [← hf] at hRR
  have hfl : (f.getD ztag).length = 32 := by
    cases hq : f with
    | none => rfl
    | some t => exact fnd_len (hf.symm.trans hq) (Macs.tags HMC.out)
  have hcl := rentry (HX.out.below HB.out (Nat.le_refl _)) hK (HM.out.below HB.out (Nat.le_refl _)) hml
  rw [← hf] at hcl
  unfold fres at hcl
  obtain ⟨E0, hE0⟩ : ∃ E, E = f.getD ztag := ⟨_, rfl⟩
  rw [← hE0] at hcl hfl
  have hr0 := HR.out
  obtain ⟨c0, c33, c34, c35⟩ := ALRow.cells hr0
  have HE0 := Lib.hid hE0
  have HRR0 := Lib.hid hRR
  clear hf hr0 c0 c33 c35 hE0 hRR
  go_enter Tryd.func23, Tryd.ntmps23
  go_upto_region 1 with fail
  rw [zar_lit, ztr_lit, ← hp]
  clear hp
  go_wp2_with (first
    | (with_reducible refine wpList_load_alg rfl _ rfl rfl HR.out (alc_size _ _ _ _ _) ?_)
    | (with_reducible refine wpList_load_tag rfl _ rfl rfl HK.out (tag_size hK) ?_))
  refine hcl.mono ?_
  rintro e w1 ⟨rfl, hb1'⟩
  clear hcl c34
  have hpw : p.heap.size ≤ w1.heap.size := hb1'.size
  go_upto_region 4 with (with_reducible refine wpList_store_tag rfl _ _ rfl (g := w1.heap.size) rfl rfl (Whole.here w1 _ _) rfl (tag_size hfl) (tag_one _) ?_)
  rw [ztr_lit]
  obtain ⟨u, hu⟩ : ∃ x, x = (w1.alloc (.cells ztr 28)).setRow w1.heap.size (E0.map byt).toArray := ⟨_, rfl⟩
  have ht : TGRow u w1.heap.size E0 := by rw [hu]; exact Whole.setRow (Whole.here _ _ _) _
  have hbu : Below w1.heap.size w1 u := by rw [hu]; exact below_setRow ((Below.refl _ _).alloc (Nat.le_refl _) _) (Nat.le_refl _) _
  rw [← hu]
  clear hu
  have hwu : w1.heap.size < u.heap.size := ht.lt
  have HBU : Hid (Below p.heap.size p u) := Lib.hid (hb1'.trans (hbu.mono hpw))
  have HTU := Lib.hid ht
  clear hb1' hbu ht
  obtain ⟨c0, c33, c34, c35⟩ := ALRow.cells (Whole.below HR.out HBU.out (by omega))
  clear c0 c33 c35
  cases f with
  | some t0 =>
    have hE : E0 = t0 := HE0.out
    have HRR : Hid (R = (a, E0, 0)) := Lib.hid (by rw [HRR0.out, hE])
    clear hE c34
    go_upto_region 5 with fail
    have hru : ALRow u.drew w.heap.size a.free a.seed a.fresh (.slice Am a.macs.length cm) (.slice Ab a.boxes.length cb) := Whole.drew (Whole.below HR.out HBU.out (by omega))
    have h6u : Whole u.drew (w.heap.size + 1 + 1) 32 zar := Whole.drew (Whole.below H6.out HBU.out (by omega))
    have h7u : Whole u.drew (w.heap.size + 1 + 1 + 1) 28 ztr := Whole.drew (Whole.below H7.out HBU.out (by omega))
    have htu : TGRow u.drew w1.heap.size E0 := Whole.drew HTU.out
    have bbu : Below w.heap.size w u.drew := (HB.out.trans (HBU.out.mono (by omega))).drew
    refine wp_region_held_drew (S := fun W => W.rangeAt w.heap.size 0 (alcl a.free a.seed a.fresh (.slice Am a.macs.length cm) (.slice Ab a.boxes.length cb)) ∧ W.rangeAt w1.heap.size 0 ((E0).map byt)) (by kernel_rfl) (⟨Whole.range hru, TGRow.range htu⟩) (fun hHeld => ?_)
    apply wpT (i := 0) rfl (by kernel_rfl)
    case hQ => exact fun _ _ _ h => h
    case hS => exact hHeld
    case hy => exact yieldsIf_load_mid (by rfl) 32 _ rfl w.heap.size (0) rfl (alcl a.free a.seed a.fresh (.slice Am a.macs.length cm) (.slice Ab a.boxes.length cb)) _ (fun w hS => hS.1) Tryd.underlying32 rfl (by rw [algSize, alcl_length])
    (try simp only [sq])
    apply wpT (i := 1) rfl (by kernel_rfl)
    case hQ => exact fun _ _ _ h => h
    case hS => exact hHeld
    case hy => exact yieldsIf_load_mid (by rfl) 28 _ rfl w1.heap.size (0) rfl ((E0).map byt) _ (fun w hS => hS.2) Tryd.underlying28 rfl (by rw [tagSize, tag_len (hfl)])
    (try simp only [sq])
    refine wpAnyH_ready (rs := [2]) (by kernel_rfl) (by simp) ?_
    refine AllReadyH.cons rfl (fun KK hKK => ?_) AllReadyH.nil
    (try simp only [sq])
    obtain ⟨X1, hX1⟩ : ∃ x, x = u.drew.setRow (w.heap.size + 1 + 1) ((alcl a.free a.seed a.fresh (.slice Am a.macs.length cm) (.slice Ab a.boxes.length cb)).toArray) := ⟨_, rfl⟩
    have hsX1 : ALRow X1 w.heap.size a.free a.seed a.fresh (.slice Am a.macs.length cm) (.slice Ab a.boxes.length cb) := by rw [hX1]; exact Whole.setRow_far hru (by omega) _
    have e1 : Whole X1 (w.heap.size + 1 + 1) 32 (alc a.free a.seed a.fresh (.slice Am a.macs.length cm) (.slice Ab a.boxes.length cb)) := by rw [hX1]; exact Whole.setRow h6u _
    have h7X1 : Whole X1 (w.heap.size + 1 + 1 + 1) 28 ztr := by rw [hX1]; exact Whole.setRow_far h7u (by omega) _
    have bbX1 : Below w.heap.size w X1 := by rw [hX1]; exact below_setRow bbu (by omega) _
    have htX1 : TGRow X1 w1.heap.size (E0) := by rw [hX1]; exact Whole.setRow_far htu (by omega) _
    rw [if_pos (by kernel_rfl)]
    refine wp_store_row 32 _ _ rfl (w.heap.size + 1 + 1) _ rfl rfl 32 _ h6u (by rw [algSize, List.size_toArray, alcl_length]) (by rw [zar_size, List.size_toArray, alcl_length]) (alc_one _ _ _ _ _ _ _ _ _) ?_
    rw [← hX1]
    clear hX1
    refine hKK.out _ _ (⟨Whole.range hsX1, TGRow.range htX1⟩) (fun hHeld => ?_)
    clear hKK KK
    (try simp only [sq])
    refine wpAnyH_ready (rs := [3]) (by kernel_rfl) (by simp) ?_
    refine AllReadyH.cons rfl (fun KK hKK => ?_) AllReadyH.nil
    (try simp only [sq])
    have e1o := e1
    clear e1
    obtain ⟨X2, hX2⟩ : ∃ x, x = X1.setRow (w.heap.size + 1 + 1 + 1) (((E0).map byt).toArray) := ⟨_, rfl⟩
    have hsX2 : ALRow X2 w.heap.size a.free a.seed a.fresh (.slice Am a.macs.length cm) (.slice Ab a.boxes.length cb) := by rw [hX2]; exact Whole.setRow_far hsX1 (by omega) _
    have e1 : Whole X2 (w.heap.size + 1 + 1) 32 (alc a.free a.seed a.fresh (.slice Am a.macs.length cm) (.slice Ab a.boxes.length cb)) := by rw [hX2]; exact Whole.setRow_far e1o (by omega) _
    have e2 : TGRow X2 (w.heap.size + 1 + 1 + 1) (E0) := by rw [hX2]; exact Whole.setRow h7X1 _
    have bbX2 : Below w.heap.size w X2 := by rw [hX2]; exact below_setRow bbX1 (by omega) _
    have htX2 : TGRow X2 w1.heap.size (E0) := by rw [hX2]; exact Whole.setRow_far htX1 (by omega) _
    rw [if_pos (by kernel_rfl)]
    refine wp_store_row 28 _ _ rfl (w.heap.size + 1 + 1 + 1) _ rfl rfl 28 _ h7X1 (by rw [tagSize, tag_size (hfl)]) (by rw [ztr_size, tag_size (hfl)]) (tag_one _) ?_
    rw [← hX2]
    clear hX2
    refine hKK.out _ _ (⟨Whole.range hsX2, TGRow.range htX2⟩) (fun hHeld => ?_)
    clear hKK KK
    (try simp only [sq])
    apply wpT (i := 4) rfl (by kernel_rfl)
    case hQ => exact fun _ _ _ h => h
    case hS => exact hHeld
    case hy => (refine Or.inl ⟨by rfl, ?_⟩; intro w hSw; (try go_split_ands); go_simp; (try with_reducible rfl))
    (try simp only [sq])
    refine wpAnyH_done (by kernel_rfl) ?_ _
    go_wp2_with fail
    have hbf := bbX2
    refine bodyPost_ret (results_alg3 Tryd.results23 _ rfl rfl _ rfl (alc_size _ _ _ _ _) (tag_size (hfl)) e1 e2) rfl ?_
    show AlgR _ _ _ R ∧ _
    rw [HRR.out]
    exact ⟨⟨_, rfl, AlV.mono ⟨Am, cm, Ab, cb, rfl, HMC.out.below hbf (Nat.le_refl _), HBX.out.below hbf (Nat.le_refl _), HA.out⟩ fun _ _ h => .inl h⟩, hbf⟩
  | none =>
    obtain ⟨H, hH⟩ : ∃ E, E = hmac K m := ⟨_, rfl⟩
    have hHl : H.length = 32 := by rw [hH]; exact hmac_length _ _
    have hng : ¬ 65536 ≤ a.macs.length := by omega
    have hRR : R = ({ a with macs := a.macs ++ [⟨K, m, ntag a K m⟩] }, ntag a K m, 0) := by
      have := HRR0.out
      simp only [if_neg hng] at this
      exact this
    have HRR := Lib.hid hRR
    have hMu := HM.out.below (HB.out.trans (HBU.out.mono (by omega))) (Nat.le_refl _)
    have hby := Whole.bytes (Whole.below HK.out HBU.out (by omega)) (by omega)
    rw [hK] at hby
    have hnt := ref_hmac _ _ K m _ _ u hby hMu (by omega) (by omega)
    rw [← hH] at hnt
    have hst := fun g W => run_sliceAt_whole (P := Tryd.prog) (t := 28) (e := 5) (n := 32) Tryd.underlying28 (by kernel_rfl) g W
    have HLN := Lib.hid hlen
    have hln2 : ¬ (65536 : Int) ≤ (a.macs.length : Int) := by omega
    have HH := Lib.hid hH
    clear hH hRR hlen hng hMu hby
    go_wp2_with fail
    refine hnt.mono ?_
    rintro e w2 ⟨rfl, hb2⟩
    clear hnt c34 hst
    have hpw2 : u.heap.size ≤ w2.heap.size := hb2.size
    have hpu2 : p.heap.size ≤ u.heap.size := HBU.out.size
    go_upto_region 9 with (first
      | (with_reducible refine wpList_store_tag rfl _ _ rfl (g := w2.heap.size) rfl rfl (Whole.here w2 _ _) rfl (tag_size hHl) (tag_one _) ?_))
    rw [ztr_lit]
    obtain ⟨u2, hu⟩ : ∃ x, x = (w2.alloc (.cells ztr 28)).setRow w2.heap.size (H.map byt).toArray := ⟨_, rfl⟩
    have ht : TGRow u2 w2.heap.size H := by rw [hu]; exact Whole.setRow (Whole.here _ _ _) _
    have hbu : Below w2.heap.size w2 u2 := by rw [hu]; exact below_setRow ((Below.refl _ _).alloc (Nat.le_refl _) _) (Nat.le_refl _) _
    rw [← hu]
    clear hu
    simp only [Act.put]
    have hwu2 : w2.heap.size < u2.heap.size := ht.lt
    have HB2 : Hid (Below p.heap.size p u2) := Lib.hid (HBU.out.trans ((hb2.mono hpu2).trans (hbu.mono (by omega))))
    have HT2 := Lib.hid ht
    clear hb2 hbu ht
    have hKl : (K.map byt).length = 32 := tag_len hK
    obtain ⟨L1, hL1, hS1, hB1⟩ := HMC.out
    have hL1l : L1.length = a.macs.length := by rw [← hL1, List.length_map]
    have HL1 := Lib.hid hL1
    have HS1 := Lib.hid hS1
    have HB1 := Lib.hid hB1
    have HL1L := Lib.hid hL1l
    clear hL1 hS1 hB1 hL1l
    obtain ⟨E, hE⟩ : ∃ E, E = ntag a K m := ⟨_, rfl⟩
    have hEl : E.length = 32 := by rw [hE]; exact ntag_length _ _ _
    have HE := Lib.hid hE
    clear hE
    have hEl2 : (E.map byt).length = 32 := tag_len hEl
    obtain ⟨c0, c33, c34, c35⟩ := ALRow.cells (Whole.below HR.out HB2.out (by omega))
    clear c33 c35
    cases hF : a.free
    · skip
      rw [hF] at c0
      have hEH : E = H := by rw [HE.out, HH.out]; unfold ntag; rw [hF]; rfl
      have HFF := Lib.hid hF
      obtain ⟨u3, hu3⟩ : ∃ x, x = u2 := ⟨_, rfl⟩
      have HB3 : Hid (Below p.heap.size p u3) := Lib.hid (by rw [hu3]; exact HB2.out)
      have HT3 : Hid (TGRow u3 w2.heap.size E) := Lib.hid (by rw [hu3, hEH]; exact HT2.out)
      have hw23 : w2.heap.size < u3.heap.size := by rw [hu3]; exact hwu2
      clear hF hEH
      go_upto_region 11 with fail
      rw [← hu3]
      clear hu3 c0 c34
      try simp only [Act.put]
      have hp3 : p.heap.size ≤ u3.heap.size := HB3.out.size
      have HU3 : Hid (Below w.heap.size w u3) := Lib.hid (HB.out.trans (HB3.out.mono (by omega)))
      have HRU := Lib.hid (Whole.below HR.out HB3.out (by omega))
      have HCC : Hid (∀ W, Below u3.heap.size u3 W → W.cell? ⟨w.heap.size, 34, none⟩ = some (.slice Am a.macs.length cm) ∧ W.rangeAt (w.heap.size + 1) 0 (K.map byt) ∧ W.rangeAt w2.heap.size 0 (E.map byt)) := Lib.hid fun W hb => ⟨(ALRow.cells (Whole.below HRU.out hb (by omega))).2.2.1, TGRow.range (Whole.below (Whole.below HK.out HB3.out (by omega)) hb (by omega)), TGRow.range (Whole.below HT3.out hb (by omega))⟩
      go_cut [] (fun wx => ∃ (A5 : Option Addr) (c5 : Nat) (D : Option Addr) (dc : Nat), ALRow wx w.heap.size a.free a.seed a.fresh (.slice A5 (L1.length + 1) c5) (.slice Ab a.boxes.length cb) ∧ Seq mcl mok wx (fun g => p.heap.size ≤ g) A5 c5 (L1 ++ [⟨⟨K, m, E⟩, D, dc⟩]) ∧ Bytes wx (fun b => p.heap.size ≤ b) (.slice D m.length dc) m ∧ TGRow wx w2.heap.size E ∧ Whole wx (w.heap.size + 1 + 1) 32 zar ∧ Whole wx (w.heap.size + 1 + 1 + 1) 28 ztr ∧ Below w.heap.size w wx)
      case first =>
        have b0 : Below u3.heap.size u3 u3.drew := (Below.refl _ _).drew
        refine wp_region_G (fun W : World => W.cell? ⟨w.heap.size, 34, none⟩ = some (.slice Am a.macs.length cm) ∧ W.rangeAt (w.heap.size + 1) 0 (K.map byt) ∧ W.rangeAt w2.heap.size 0 (E.map byt)) (fun _ => True) [13] (by kernel_rfl) ?_
        generalize u3.drew = W0 at b0 ⊢
        have hHeld : (fun W : World => W.cell? ⟨w.heap.size, 34, none⟩ = some (.slice Am a.macs.length cm) ∧ W.rangeAt (w.heap.size + 1) 0 (K.map byt) ∧ W.rangeAt w2.heap.size 0 (E.map byt)) W0 := HCC.out _ b0
        apply AnyG_pure (i := 1) rfl (by kernel_rfl) (by kernel_rfl) (by kernel_rfl) (by kernel_rfl)
        case hQ => exact fun _ _ _ h => h
        case hB => exact trivial
        case hC => exact .inr hHeld
        case hy => (refine Or.inl ⟨by rfl, ?_⟩; intro w hSw; (try go_split_ands); go_simp; (try with_reducible rfl))
        (try simp only [sq])
        apply AnyG_take (i := 2) rfl (by kernel_rfl) (by kernel_rfl) (by kernel_rfl) (by kernel_rfl)
        case hQ => exact fun _ _ _ h => h
        case hB => exact trivial
        case hC => exact hHeld
        case hy => (refine Or.inl ⟨by rfl, ?_⟩; intro w hSw; (try go_split_ands); go_simp; (try with_reducible rfl))
        (try simp only [sq])
        apply AnyG_take (i := 4) rfl (by kernel_rfl) (by kernel_rfl) (by kernel_rfl) (by kernel_rfl)
        case hQ => exact fun _ _ _ h => h
        case hB => exact trivial
        case hC => exact hHeld
        case hy => exact yieldsIf_load_mid (by rfl) 28 _ rfl (w.heap.size + 1) (0) rfl (K.map byt) _ (fun w hS => hS.2.1) Tryd.underlying28 rfl (by rw [tagSize, hKl])
        (try simp only [sq])
        apply AnyG_pure (i := 6) rfl (by kernel_rfl) (by kernel_rfl) (by kernel_rfl) (by kernel_rfl)
        case hQ => exact fun _ _ _ h => h
        case hB => exact trivial
        case hC => exact .inr hHeld
        case hy => (refine Or.inl ⟨by rfl, ?_⟩; intro w hSw; (try go_split_ands); go_simp; (try with_reducible rfl))
        (try simp only [sq])
        apply AnyG_take (i := 8) rfl (by kernel_rfl) (by kernel_rfl) (by kernel_rfl) (by kernel_rfl)
        case hQ => exact fun _ _ _ h => h
        case hB => exact trivial
        case hC => exact hHeld
        case hy => exact yieldsIf_load_mid (by rfl) 28 _ rfl w2.heap.size (0) rfl (E.map byt) _ (fun w hS => hS.2.2) Tryd.underlying28 rfl (by rw [tagSize, hEl2])
        (try simp only [sq])
        refine AnyG_two (i := 0) (j := 5) (by kernel_rfl) rfl rfl (fun KK hKK => ?_) (fun KK hKK => ?_)
        · skip
          (try simp only [sq])
          obtain ⟨g0, hg⟩ : ∃ g, g = W0.heap.size := ⟨_, rfl⟩
          obtain ⟨W1, hW⟩ : ∃ x, x = W0.alloc (.cells #[] 69) := ⟨_, rfl⟩
          have b1 : Below u3.heap.size u3 W1 := by rw [hW]; exact b0.alloc b0.size _
          have oM1 : OwnMc W1 u3.heap.size (.slice (some ⟨g0, 0, none⟩) 0 0) [] := owns_empty (by rw [hW, hg]; exact heap_alloc_new _ _) (by rw [hg]; exact b0.size)
          go_simp
          rw [← hg, ← hW]
          clear hg hW
          clear hHeld
          have hHeld : (fun W : World => W.cell? ⟨w.heap.size, 34, none⟩ = some (.slice Am a.macs.length cm) ∧ W.rangeAt (w.heap.size + 1) 0 (K.map byt) ∧ W.rangeAt w2.heap.size 0 (E.map byt)) W1 := HCC.out _ b1
          refine hKK.out _ _ (.inr hHeld) trivial ?_
          clear hKK KK
          (try simp only [sq])
          refine AnyG_two (i := 3) (j := 5) (by kernel_rfl) rfl rfl (fun KK hKK => ?_) (fun KK hKK => ?_)
          · skip
            refine step_append_seq (by rfl) _ _ 29 69 zmac 88 (by rfl) Tryd.underlying29 macInfo zmac_size (by omega) (by omega) mcl_len mcl_one u3.heap.size _ [] (by rfl) oM1 Q Am a.macs.length cm L1 HL1L.out (by rfl) (HS1.out.below (HU3.out.trans (b1.mono (by omega))) (Nat.le_refl _)) (by have := HL1L.out; have := HLN.out; simp only [List.length_nil]; omega) b1.size ?_
            intro vM W2 oM0 hbn hgn
            have oM2 : OwnMc W2 u3.heap.size vM L1 := by rw [List.nil_append] at oM0; exact oM0
            have b2 := b1.trans hbn
            clear hbn hgn
            clear hHeld
            have hHeld : (fun W : World => W.cell? ⟨w.heap.size, 34, none⟩ = some (.slice Am a.macs.length cm) ∧ W.rangeAt (w.heap.size + 1) 0 (K.map byt) ∧ W.rangeAt w2.heap.size 0 (E.map byt)) W2 := HCC.out _ b2
            refine hKK.out _ _ (.inr hHeld) trivial ?_
            clear hKK KK
            (try simp only [sq])
            refine AnyG_one (i := 5) (by kernel_rfl) rfl (fun KK hKK => ?_)
            (try simp only [sq])
            obtain ⟨g5, hg⟩ : ∃ g, g = W2.heap.size := ⟨_, rfl⟩
            obtain ⟨W3, hW⟩ : ∃ x, x = W2.alloc (.cells #[] 5) := ⟨_, rfl⟩
            have b3 : Below u3.heap.size u3 W3 := by rw [hW]; exact b2.alloc b2.size _
            have oB3 : OwnBf W3 u3.heap.size (.slice (some ⟨g5, 0, none⟩) 0 0) [] := owns_empty (by rw [hW, hg]; exact heap_alloc_new _ _) (by rw [hg]; exact b2.size)
            have oM3 := oM2.alloc (.cells #[] 5)
            rw [← hW] at oM3
            go_simp
            rw [← hg, ← hW]
            clear hg hW
            clear hHeld
            have hHeld : (fun W : World => W.cell? ⟨w.heap.size, 34, none⟩ = some (.slice Am a.macs.length cm) ∧ W.rangeAt (w.heap.size + 1) 0 (K.map byt) ∧ W.rangeAt w2.heap.size 0 (E.map byt)) W3 := HCC.out _ b3
            refine hKK.out _ _ (.inr hHeld) trivial ?_
            clear hKK KK
            (try simp only [sq])
            refine AnyG_one (i := 7) (by kernel_rfl) rfl (fun KK hKK => ?_)
            refine step_append_seq (by rfl) _ _ 39 5 (.int .u8 0) 1 (by rfl) Tryd.underlying39 byteInfo byte_size (by omega) (by omega) bf_len bf_one u3.heap.size _ [] (by rfl) oB3 Q2 B m.length d m rfl (by rfl) (seq_bytes (HM.out.below (HU3.out.trans (b3.mono (by omega))) (Nat.le_refl _))) (by simp only [List.length_nil]; omega) b3.size ?_
            intro vB W4 oB0 hbn hgn
            have oB4 : OwnBf W4 u3.heap.size vB m := by rw [List.nil_append] at oB0; exact oB0
            have oM4 := oM3.kept hgn (own_ne oM3 oB3 mac_ne_u8)
            obtain ⟨D, dc, rfl, hsB⟩ := OwnS.seq (ok := fun _ => True) oB4 (fun _ _ => trivial)
            have b4 := b3.trans hbn
            clear hbn hgn hsB
            clear hHeld
            have hHeld : (fun W : World => W.cell? ⟨w.heap.size, 34, none⟩ = some (.slice Am a.macs.length cm) ∧ W.rangeAt (w.heap.size + 1) 0 (K.map byt) ∧ W.rangeAt w2.heap.size 0 (E.map byt)) W4 := HCC.out _ b4
            refine hKK.out _ _ (.inr hHeld) trivial ?_
            clear hKK KK
            (try simp only [sq])
            apply AnyG_pure (i := 9) rfl (by kernel_rfl) (by kernel_rfl) (by kernel_rfl) (by kernel_rfl)
            case hQ => exact fun _ _ _ h => h
            case hB => exact trivial
            case hC => exact .inr hHeld
            case hy => exact yieldsIf_build_mac (by rfl) _ _ _ rfl (e := ⟨K, m, E⟩) hK hEl rfl rfl rfl
            (try simp only [sq])
            refine AnyG_one (i := 10) (by kernel_rfl) rfl (fun KK hKK => ?_)
            have hXok : mok (⟨⟨K, m, E⟩, D, dc⟩ : MeM) := ⟨hK, hEl, by show m.length ≤ 5000; omega⟩
            obtain ⟨g10, hg⟩ : ∃ g, g = W4.heap.size := ⟨_, rfl⟩
            obtain ⟨W5, hW⟩ : ∃ x, x = W4.alloc (.cells (mcl (⟨⟨K, m, E⟩, D, dc⟩ : MeM)).toArray 69) := ⟨_, rfl⟩
            have b5 : Below u3.heap.size u3 W5 := by rw [hW]; exact b4.alloc b4.size _
            have hx1 : Whole W5 g10 69 (mcl (⟨⟨K, m, E⟩, D, dc⟩ : MeM)).toArray := by rw [hW, hg]; exact Whole.here _ _ _
            have oM5 := oM4.alloc (.cells (mcl (⟨⟨K, m, E⟩, D, dc⟩ : MeM)).toArray 69)
            rw [← hW] at oM5
            have oB5 := oB4.alloc (.cells (mcl (⟨⟨K, m, E⟩, D, dc⟩ : MeM)).toArray 69)
            rw [← hW] at oB5
            refine step_buildSlice_mac (by rfl) _ (by rfl) (X := (⟨⟨K, m, E⟩, D, dc⟩ : MeM)) (by rfl) ?_
            rw [← hg, ← hW]
            clear hg hW
            clear hHeld
            have hHeld : (fun W : World => W.cell? ⟨w.heap.size, 34, none⟩ = some (.slice Am a.macs.length cm) ∧ W.rangeAt (w.heap.size + 1) 0 (K.map byt) ∧ W.rangeAt w2.heap.size 0 (E.map byt)) W5 := HCC.out _ b5
            refine hKK.out _ _ (.inr hHeld) trivial ?_
            clear hKK KK
            (try simp only [sq])
            refine AnyG_one (i := 11) (by kernel_rfl) rfl (fun KK hKK => ?_)
            refine step_append_seq (by rfl) _ _ 29 69 zmac 88 (by rfl) Tryd.underlying29 macInfo zmac_size (by omega) (by omega) mcl_len mcl_one u3.heap.size _ L1 (by rfl) oM5 _ (some ⟨g10, 0, none⟩) 1 1 [(⟨⟨K, m, E⟩, D, dc⟩ : MeM)] rfl (by rfl) (seq_one hx1 rfl hXok) (by have := HL1L.out; have := HLN.out; simp only [List.length_singleton]; omega) b5.size ?_
            intro vN W6 oM6 hbn hgn
            have oB6 := oB5.kept hgn (own_ne oB5 oM5 u8_ne_mac)
            have b6 := b5.trans hbn
            obtain ⟨A5, c5, rfl, hS5⟩ := OwnS.seq (ok := mok) oM6 (fun x hx => by
              rcases List.mem_append.1 hx with h | h
              · exact HS1.out.2.2.2.1 x h
              · rw [List.mem_singleton.1 h]; exact hXok)
            obtain ⟨D2, dc2, he2, hsB⟩ := OwnS.seq (ok := fun _ => True) oB6 (fun _ _ => trivial)
            injection he2 with q1 q2 q3
            subst q1 q3
            have hV := bytes_seq hsB
            have hn5 : (L1 ++ [(⟨⟨K, m, E⟩, D, dc⟩ : MeM)]).length = L1.length + 1 := by simp
            rw [hn5]
            clear hbn hgn q2 hsB hn5
            clear hHeld
            have hHeld : (fun W : World => W.cell? ⟨w.heap.size, 34, none⟩ = some (.slice Am a.macs.length cm) ∧ W.rangeAt (w.heap.size + 1) 0 (K.map byt) ∧ W.rangeAt w2.heap.size 0 (E.map byt)) W6 := HCC.out _ b6
            refine hKK.out _ _ (.inr hHeld) trivial ?_
            clear hKK KK
            (try simp only [sq])
            apply AnyG_pure (i := 12) rfl (by kernel_rfl) (by kernel_rfl) (by kernel_rfl) (by kernel_rfl)
            case hQ => exact fun _ _ _ h => h
            case hB => exact trivial
            case hC => exact .inr hHeld
            case hy => (refine Or.inl ⟨by rfl, ?_⟩; intro w hSw; (try go_split_ands); go_simp; (try with_reducible rfl))
            (try simp only [sq])
            refine AnyG_one (i := 13) (by kernel_rfl) rfl (fun KK hKK => ?_)
            (try simp only [sq])
            have hrW := Whole.below HRU.out b6 (by omega)
            have hf34 := ALRow.frees hrW 34
            have hc34 := hHeld.1
            obtain ⟨W7, hW⟩ : ∃ x, x = W6.setCell ⟨w.heap.size, 34, none⟩ (.slice A5 (L1.length + 1) c5) := ⟨_, rfl⟩
            have r1 := ALRow.set34 hrW (.slice A5 (L1.length + 1) c5)
            have r2 := (hS5.mono (Q' := fun g => p.heap.size ≤ g) fun g _ h => Nat.le_trans hp3 h).keep (w' := W7) (by rw [hW]; exact ((Below.refl 0 _).setCell (p := ⟨w.heap.size, 34, none⟩) (Nat.zero_le _) _).size) (fun g _ h => by rw [hW]; exact heap_setCell_other _ ⟨w.heap.size, 34, none⟩ g _ (by show g ≠ w.heap.size; omega))
            have r3 := (hV.mono (Q' := fun g => p.heap.size ≤ g) fun g _ h => Nat.le_trans hp3 h).keep (w' := W7) (fun g _ h => by rw [hW]; exact heap_setCell_other _ ⟨w.heap.size, 34, none⟩ g _ (by show g ≠ w.heap.size; omega))
            have r4 := Whole.far (Whole.below HT3.out b6 (by omega)) (a := ⟨w.heap.size, 34, none⟩) (by show w2.heap.size ≠ w.heap.size; omega) (.slice A5 (L1.length + 1) c5)
            have r5 := Whole.far (Whole.below (Whole.below H6.out HB3.out (by omega)) b6 (by omega)) (a := ⟨w.heap.size, 34, none⟩) (by show _ ≠ w.heap.size; omega) (.slice A5 (L1.length + 1) c5)
            have r6 := Whole.far (Whole.below (Whole.below H7.out HB3.out (by omega)) b6 (by omega)) (a := ⟨w.heap.size, 34, none⟩) (by show _ ≠ w.heap.size; omega) (.slice A5 (L1.length + 1) c5)
            have r7 := (HU3.out.trans (b6.mono (by omega))).setCell (p := ⟨w.heap.size, 34, none⟩) (Nat.le_refl _) (.slice A5 (L1.length + 1) c5)
            rw [← hW] at r1 r4 r5 r6 r7
            go_simp
            rw [← hW]
            clear hW
            refine hKK.out _ _ (.inl (by kernel_rfl)) trivial ?_
            clear hKK KK
            (try simp only [sq])
            refine AnyG_done (by kernel_rfl) ?_ _
            go_wp2_with fail
            go_meet
            exact ⟨A5, c5, D, dc, r1, r2, r3, r4, r5, r6, r7⟩
          · skip
            (try simp only [sq])
            obtain ⟨g5, hg⟩ : ∃ g, g = W1.heap.size := ⟨_, rfl⟩
            obtain ⟨W2, hW⟩ : ∃ x, x = W1.alloc (.cells #[] 5) := ⟨_, rfl⟩
            have b2 : Below u3.heap.size u3 W2 := by rw [hW]; exact b1.alloc b1.size _
            have oB2 : OwnBf W2 u3.heap.size (.slice (some ⟨g5, 0, none⟩) 0 0) [] := owns_empty (by rw [hW, hg]; exact heap_alloc_new _ _) (by rw [hg]; exact b1.size)
            have oM2 := oM1.alloc (.cells #[] 5)
            rw [← hW] at oM2
            go_simp
            rw [← hg, ← hW]
            clear hg hW
            clear hHeld
            have hHeld : (fun W : World => W.cell? ⟨w.heap.size, 34, none⟩ = some (.slice Am a.macs.length cm) ∧ W.rangeAt (w.heap.size + 1) 0 (K.map byt) ∧ W.rangeAt w2.heap.size 0 (E.map byt)) W2 := HCC.out _ b2
            refine hKK.out _ _ (.inr hHeld) trivial ?_
            clear hKK KK
            (try simp only [sq])
            refine AnyG_one (i := 3) (by kernel_rfl) rfl (fun KK hKK => ?_)
            refine step_append_seq (by rfl) _ _ 29 69 zmac 88 (by rfl) Tryd.underlying29 macInfo zmac_size (by omega) (by omega) mcl_len mcl_one u3.heap.size _ [] (by rfl) oM2 Q Am a.macs.length cm L1 HL1L.out (by rfl) (HS1.out.below (HU3.out.trans (b2.mono (by omega))) (Nat.le_refl _)) (by have := HL1L.out; have := HLN.out; simp only [List.length_nil]; omega) b2.size ?_
            intro vM W3 oM0 hbn hgn
            have oM3 : OwnMc W3 u3.heap.size vM L1 := by rw [List.nil_append] at oM0; exact oM0
            have oB3 := oB2.kept hgn (own_ne oB2 oM2 u8_ne_mac)
            have b3 := b2.trans hbn
            clear hbn hgn
            clear hHeld
            have hHeld : (fun W : World => W.cell? ⟨w.heap.size, 34, none⟩ = some (.slice Am a.macs.length cm) ∧ W.rangeAt (w.heap.size + 1) 0 (K.map byt) ∧ W.rangeAt w2.heap.size 0 (E.map byt)) W3 := HCC.out _ b3
            refine hKK.out _ _ (.inr hHeld) trivial ?_
            clear hKK KK
            (try simp only [sq])
            refine AnyG_one (i := 7) (by kernel_rfl) rfl (fun KK hKK => ?_)
            refine step_append_seq (by rfl) _ _ 39 5 (.int .u8 0) 1 (by rfl) Tryd.underlying39 byteInfo byte_size (by omega) (by omega) bf_len bf_one u3.heap.size _ [] (by rfl) oB3 Q2 B m.length d m rfl (by rfl) (seq_bytes (HM.out.below (HU3.out.trans (b3.mono (by omega))) (Nat.le_refl _))) (by simp only [List.length_nil]; omega) b3.size ?_
            intro vB W4 oB0 hbn hgn
            have oB4 : OwnBf W4 u3.heap.size vB m := by rw [List.nil_append] at oB0; exact oB0
            have oM4 := oM3.kept hgn (own_ne oM3 oB3 mac_ne_u8)
            obtain ⟨D, dc, rfl, hsB⟩ := OwnS.seq (ok := fun _ => True) oB4 (fun _ _ => trivial)
            have b4 := b3.trans hbn
            clear hbn hgn hsB
            clear hHeld
            have hHeld : (fun W : World => W.cell? ⟨w.heap.size, 34, none⟩ = some (.slice Am a.macs.length cm) ∧ W.rangeAt (w.heap.size + 1) 0 (K.map byt) ∧ W.rangeAt w2.heap.size 0 (E.map byt)) W4 := HCC.out _ b4
            refine hKK.out _ _ (.inr hHeld) trivial ?_
            clear hKK KK
            (try simp only [sq])
            apply AnyG_pure (i := 9) rfl (by kernel_rfl) (by kernel_rfl) (by kernel_rfl) (by kernel_rfl)
            case hQ => exact fun _ _ _ h => h
            case hB => exact trivial
            case hC => exact .inr hHeld
            case hy => exact yieldsIf_build_mac (by rfl) _ _ _ rfl (e := ⟨K, m, E⟩) hK hEl rfl rfl rfl
            (try simp only [sq])
            refine AnyG_one (i := 10) (by kernel_rfl) rfl (fun KK hKK => ?_)
            have hXok : mok (⟨⟨K, m, E⟩, D, dc⟩ : MeM) := ⟨hK, hEl, by show m.length ≤ 5000; omega⟩
            obtain ⟨g10, hg⟩ : ∃ g, g = W4.heap.size := ⟨_, rfl⟩
            obtain ⟨W5, hW⟩ : ∃ x, x = W4.alloc (.cells (mcl (⟨⟨K, m, E⟩, D, dc⟩ : MeM)).toArray 69) := ⟨_, rfl⟩
            have b5 : Below u3.heap.size u3 W5 := by rw [hW]; exact b4.alloc b4.size _
            have hx1 : Whole W5 g10 69 (mcl (⟨⟨K, m, E⟩, D, dc⟩ : MeM)).toArray := by rw [hW, hg]; exact Whole.here _ _ _
            have oM5 := oM4.alloc (.cells (mcl (⟨⟨K, m, E⟩, D, dc⟩ : MeM)).toArray 69)
            rw [← hW] at oM5
            have oB5 := oB4.alloc (.cells (mcl (⟨⟨K, m, E⟩, D, dc⟩ : MeM)).toArray 69)
            rw [← hW] at oB5
            refine step_buildSlice_mac (by rfl) _ (by rfl) (X := (⟨⟨K, m, E⟩, D, dc⟩ : MeM)) (by rfl) ?_
            rw [← hg, ← hW]
            clear hg hW
            clear hHeld
            have hHeld : (fun W : World => W.cell? ⟨w.heap.size, 34, none⟩ = some (.slice Am a.macs.length cm) ∧ W.rangeAt (w.heap.size + 1) 0 (K.map byt) ∧ W.rangeAt w2.heap.size 0 (E.map byt)) W5 := HCC.out _ b5
            refine hKK.out _ _ (.inr hHeld) trivial ?_
            clear hKK KK
            (try simp only [sq])
            refine AnyG_one (i := 11) (by kernel_rfl) rfl (fun KK hKK => ?_)
            refine step_append_seq (by rfl) _ _ 29 69 zmac 88 (by rfl) Tryd.underlying29 macInfo zmac_size (by omega) (by omega) mcl_len mcl_one u3.heap.size _ L1 (by rfl) oM5 _ (some ⟨g10, 0, none⟩) 1 1 [(⟨⟨K, m, E⟩, D, dc⟩ : MeM)] rfl (by rfl) (seq_one hx1 rfl hXok) (by have := HL1L.out; have := HLN.out; simp only [List.length_singleton]; omega) b5.size ?_
            intro vN W6 oM6 hbn hgn
            have oB6 := oB5.kept hgn (own_ne oB5 oM5 u8_ne_mac)
            have b6 := b5.trans hbn
            obtain ⟨A5, c5, rfl, hS5⟩ := OwnS.seq (ok := mok) oM6 (fun x hx => by
              rcases List.mem_append.1 hx with h | h
              · exact HS1.out.2.2.2.1 x h
              · rw [List.mem_singleton.1 h]; exact hXok)
            obtain ⟨D2, dc2, he2, hsB⟩ := OwnS.seq (ok := fun _ => True) oB6 (fun _ _ => trivial)
            injection he2 with q1 q2 q3
            subst q1 q3
            have hV := bytes_seq hsB
            have hn5 : (L1 ++ [(⟨⟨K, m, E⟩, D, dc⟩ : MeM)]).length = L1.length + 1 := by simp
            rw [hn5]
            clear hbn hgn q2 hsB hn5
            clear hHeld
            have hHeld : (fun W : World => W.cell? ⟨w.heap.size, 34, none⟩ = some (.slice Am a.macs.length cm) ∧ W.rangeAt (w.heap.size + 1) 0 (K.map byt) ∧ W.rangeAt w2.heap.size 0 (E.map byt)) W6 := HCC.out _ b6
            refine hKK.out _ _ (.inr hHeld) trivial ?_
            clear hKK KK
            (try simp only [sq])
            apply AnyG_pure (i := 12) rfl (by kernel_rfl) (by kernel_rfl) (by kernel_rfl) (by kernel_rfl)
            case hQ => exact fun _ _ _ h => h
            case hB => exact trivial
            case hC => exact .inr hHeld
            case hy => (refine Or.inl ⟨by rfl, ?_⟩; intro w hSw; (try go_split_ands); go_simp; (try with_reducible rfl))
            (try simp only [sq])
            refine AnyG_one (i := 13) (by kernel_rfl) rfl (fun KK hKK => ?_)
            (try simp only [sq])
            have hrW := Whole.below HRU.out b6 (by omega)
            have hf34 := ALRow.frees hrW 34
            have hc34 := hHeld.1
            obtain ⟨W7, hW⟩ : ∃ x, x = W6.setCell ⟨w.heap.size, 34, none⟩ (.slice A5 (L1.length + 1) c5) := ⟨_, rfl⟩
            have r1 := ALRow.set34 hrW (.slice A5 (L1.length + 1) c5)
            have r2 := (hS5.mono (Q' := fun g => p.heap.size ≤ g) fun g _ h => Nat.le_trans hp3 h).keep (w' := W7) (by rw [hW]; exact ((Below.refl 0 _).setCell (p := ⟨w.heap.size, 34, none⟩) (Nat.zero_le _) _).size) (fun g _ h => by rw [hW]; exact heap_setCell_other _ ⟨w.heap.size, 34, none⟩ g _ (by show g ≠ w.heap.size; omega))
            have r3 := (hV.mono (Q' := fun g => p.heap.size ≤ g) fun g _ h => Nat.le_trans hp3 h).keep (w' := W7) (fun g _ h => by rw [hW]; exact heap_setCell_other _ ⟨w.heap.size, 34, none⟩ g _ (by show g ≠ w.heap.size; omega))
            have r4 := Whole.far (Whole.below HT3.out b6 (by omega)) (a := ⟨w.heap.size, 34, none⟩) (by show w2.heap.size ≠ w.heap.size; omega) (.slice A5 (L1.length + 1) c5)
            have r5 := Whole.far (Whole.below (Whole.below H6.out HB3.out (by omega)) b6 (by omega)) (a := ⟨w.heap.size, 34, none⟩) (by show _ ≠ w.heap.size; omega) (.slice A5 (L1.length + 1) c5)
            have r6 := Whole.far (Whole.below (Whole.below H7.out HB3.out (by omega)) b6 (by omega)) (a := ⟨w.heap.size, 34, none⟩) (by show _ ≠ w.heap.size; omega) (.slice A5 (L1.length + 1) c5)
            have r7 := (HU3.out.trans (b6.mono (by omega))).setCell (p := ⟨w.heap.size, 34, none⟩) (Nat.le_refl _) (.slice A5 (L1.length + 1) c5)
            rw [← hW] at r1 r4 r5 r6 r7
            go_simp
            rw [← hW]
            clear hW
            refine hKK.out _ _ (.inl (by kernel_rfl)) trivial ?_
            clear hKK KK
            (try simp only [sq])
            refine AnyG_done (by kernel_rfl) ?_ _
            go_wp2_with fail
            go_meet
            exact ⟨A5, c5, D, dc, r1, r2, r3, r4, r5, r6, r7⟩
        · skip
          (try simp only [sq])
          obtain ⟨g5, hg⟩ : ∃ g, g = W0.heap.size := ⟨_, rfl⟩
          obtain ⟨W1, hW⟩ : ∃ x, x = W0.alloc (.cells #[] 5) := ⟨_, rfl⟩
          have b1 : Below u3.heap.size u3 W1 := by rw [hW]; exact b0.alloc b0.size _
          have oB1 : OwnBf W1 u3.heap.size (.slice (some ⟨g5, 0, none⟩) 0 0) [] := owns_empty (by rw [hW, hg]; exact heap_alloc_new _ _) (by rw [hg]; exact b0.size)
          go_simp
          rw [← hg, ← hW]
          clear hg hW
          clear hHeld
          have hHeld : (fun W : World => W.cell? ⟨w.heap.size, 34, none⟩ = some (.slice Am a.macs.length cm) ∧ W.rangeAt (w.heap.size + 1) 0 (K.map byt) ∧ W.rangeAt w2.heap.size 0 (E.map byt)) W1 := HCC.out _ b1
          refine hKK.out _ _ (.inr hHeld) trivial ?_
          clear hKK KK
          (try simp only [sq])
          refine AnyG_one (i := 0) (by kernel_rfl) rfl (fun KK hKK => ?_)
          (try simp only [sq])
          obtain ⟨g0, hg⟩ : ∃ g, g = W1.heap.size := ⟨_, rfl⟩
          obtain ⟨W2, hW⟩ : ∃ x, x = W1.alloc (.cells #[] 69) := ⟨_, rfl⟩
          have b2 : Below u3.heap.size u3 W2 := by rw [hW]; exact b1.alloc b1.size _
          have oM2 : OwnMc W2 u3.heap.size (.slice (some ⟨g0, 0, none⟩) 0 0) [] := owns_empty (by rw [hW, hg]; exact heap_alloc_new _ _) (by rw [hg]; exact b1.size)
          have oB2 := oB1.alloc (.cells #[] 69)
          rw [← hW] at oB2
          go_simp
          rw [← hg, ← hW]
          clear hg hW
          clear hHeld
          have hHeld : (fun W : World => W.cell? ⟨w.heap.size, 34, none⟩ = some (.slice Am a.macs.length cm) ∧ W.rangeAt (w.heap.size + 1) 0 (K.map byt) ∧ W.rangeAt w2.heap.size 0 (E.map byt)) W2 := HCC.out _ b2
          refine hKK.out _ _ (.inr hHeld) trivial ?_
          clear hKK KK
          (try simp only [sq])
          refine AnyG_one (i := 3) (by kernel_rfl) rfl (fun KK hKK => ?_)
          refine step_append_seq (by rfl) _ _ 29 69 zmac 88 (by rfl) Tryd.underlying29 macInfo zmac_size (by omega) (by omega) mcl_len mcl_one u3.heap.size _ [] (by rfl) oM2 Q Am a.macs.length cm L1 HL1L.out (by rfl) (HS1.out.below (HU3.out.trans (b2.mono (by omega))) (Nat.le_refl _)) (by have := HL1L.out; have := HLN.out; simp only [List.length_nil]; omega) b2.size ?_
          intro vM W3 oM0 hbn hgn
          have oM3 : OwnMc W3 u3.heap.size vM L1 := by rw [List.nil_append] at oM0; exact oM0
          have oB3 := oB2.kept hgn (own_ne oB2 oM2 u8_ne_mac)
          have b3 := b2.trans hbn
          clear hbn hgn
          clear hHeld
          have hHeld : (fun W : World => W.cell? ⟨w.heap.size, 34, none⟩ = some (.slice Am a.macs.length cm) ∧ W.rangeAt (w.heap.size + 1) 0 (K.map byt) ∧ W.rangeAt w2.heap.size 0 (E.map byt)) W3 := HCC.out _ b3
          refine hKK.out _ _ (.inr hHeld) trivial ?_
          clear hKK KK
          (try simp only [sq])
          refine AnyG_one (i := 7) (by kernel_rfl) rfl (fun KK hKK => ?_)
          refine step_append_seq (by rfl) _ _ 39 5 (.int .u8 0) 1 (by rfl) Tryd.underlying39 byteInfo byte_size (by omega) (by omega) bf_len bf_one u3.heap.size _ [] (by rfl) oB3 Q2 B m.length d m rfl (by rfl) (seq_bytes (HM.out.below (HU3.out.trans (b3.mono (by omega))) (Nat.le_refl _))) (by simp only [List.length_nil]; omega) b3.size ?_
          intro vB W4 oB0 hbn hgn
          have oB4 : OwnBf W4 u3.heap.size vB m := by rw [List.nil_append] at oB0; exact oB0
          have oM4 := oM3.kept hgn (own_ne oM3 oB3 mac_ne_u8)
          obtain ⟨D, dc, rfl, hsB⟩ := OwnS.seq (ok := fun _ => True) oB4 (fun _ _ => trivial)
          have b4 := b3.trans hbn
          clear hbn hgn hsB
          clear hHeld
          have hHeld : (fun W : World => W.cell? ⟨w.heap.size, 34, none⟩ = some (.slice Am a.macs.length cm) ∧ W.rangeAt (w.heap.size + 1) 0 (K.map byt) ∧ W.rangeAt w2.heap.size 0 (E.map byt)) W4 := HCC.out _ b4
          refine hKK.out _ _ (.inr hHeld) trivial ?_
          clear hKK KK
          (try simp only [sq])
          apply AnyG_pure (i := 9) rfl (by kernel_rfl) (by kernel_rfl) (by kernel_rfl) (by kernel_rfl)
          case hQ => exact fun _ _ _ h => h
          case hB => exact trivial
          case hC => exact .inr hHeld
          case hy => exact yieldsIf_build_mac (by rfl) _ _ _ rfl (e := ⟨K, m, E⟩) hK hEl rfl rfl rfl
          (try simp only [sq])
          refine AnyG_one (i := 10) (by kernel_rfl) rfl (fun KK hKK => ?_)
          have hXok : mok (⟨⟨K, m, E⟩, D, dc⟩ : MeM) := ⟨hK, hEl, by show m.length ≤ 5000; omega⟩
          obtain ⟨g10, hg⟩ : ∃ g, g = W4.heap.size := ⟨_, rfl⟩
          obtain ⟨W5, hW⟩ : ∃ x, x = W4.alloc (.cells (mcl (⟨⟨K, m, E⟩, D, dc⟩ : MeM)).toArray 69) := ⟨_, rfl⟩
          have b5 : Below u3.heap.size u3 W5 := by rw [hW]; exact b4.alloc b4.size _
          have hx1 : Whole W5 g10 69 (mcl (⟨⟨K, m, E⟩, D, dc⟩ : MeM)).toArray := by rw [hW, hg]; exact Whole.here _ _ _
          have oM5 := oM4.alloc (.cells (mcl (⟨⟨K, m, E⟩, D, dc⟩ : MeM)).toArray 69)
          rw [← hW] at oM5
          have oB5 := oB4.alloc (.cells (mcl (⟨⟨K, m, E⟩, D, dc⟩ : MeM)).toArray 69)
          rw [← hW] at oB5
          refine step_buildSlice_mac (by rfl) _ (by rfl) (X := (⟨⟨K, m, E⟩, D, dc⟩ : MeM)) (by rfl) ?_
          rw [← hg, ← hW]
          clear hg hW
          clear hHeld
          have hHeld : (fun W : World => W.cell? ⟨w.heap.size, 34, none⟩ = some (.slice Am a.macs.length cm) ∧ W.rangeAt (w.heap.size + 1) 0 (K.map byt) ∧ W.rangeAt w2.heap.size 0 (E.map byt)) W5 := HCC.out _ b5
          refine hKK.out _ _ (.inr hHeld) trivial ?_
          clear hKK KK
          (try simp only [sq])
          refine AnyG_one (i := 11) (by kernel_rfl) rfl (fun KK hKK => ?_)
          refine step_append_seq (by rfl) _ _ 29 69 zmac 88 (by rfl) Tryd.underlying29 macInfo zmac_size (by omega) (by omega) mcl_len mcl_one u3.heap.size _ L1 (by rfl) oM5 _ (some ⟨g10, 0, none⟩) 1 1 [(⟨⟨K, m, E⟩, D, dc⟩ : MeM)] rfl (by rfl) (seq_one hx1 rfl hXok) (by have := HL1L.out; have := HLN.out; simp only [List.length_singleton]; omega) b5.size ?_
          intro vN W6 oM6 hbn hgn
          have oB6 := oB5.kept hgn (own_ne oB5 oM5 u8_ne_mac)
          have b6 := b5.trans hbn
          obtain ⟨A5, c5, rfl, hS5⟩ := OwnS.seq (ok := mok) oM6 (fun x hx => by
            rcases List.mem_append.1 hx with h | h
            · exact HS1.out.2.2.2.1 x h
            · rw [List.mem_singleton.1 h]; exact hXok)
          obtain ⟨D2, dc2, he2, hsB⟩ := OwnS.seq (ok := fun _ => True) oB6 (fun _ _ => trivial)
          injection he2 with q1 q2 q3
          subst q1 q3
          have hV := bytes_seq hsB
          have hn5 : (L1 ++ [(⟨⟨K, m, E⟩, D, dc⟩ : MeM)]).length = L1.length + 1 := by simp
          rw [hn5]
          clear hbn hgn q2 hsB hn5
          clear hHeld
          have hHeld : (fun W : World => W.cell? ⟨w.heap.size, 34, none⟩ = some (.slice Am a.macs.length cm) ∧ W.rangeAt (w.heap.size + 1) 0 (K.map byt) ∧ W.rangeAt w2.heap.size 0 (E.map byt)) W6 := HCC.out _ b6
          refine hKK.out _ _ (.inr hHeld) trivial ?_
          clear hKK KK
          (try simp only [sq])
          apply AnyG_pure (i := 12) rfl (by kernel_rfl) (by kernel_rfl) (by kernel_rfl) (by kernel_rfl)
          case hQ => exact fun _ _ _ h => h
          case hB => exact trivial
          case hC => exact .inr hHeld
          case hy => (refine Or.inl ⟨by rfl, ?_⟩; intro w hSw; (try go_split_ands); go_simp; (try with_reducible rfl))
          (try simp only [sq])
          refine AnyG_one (i := 13) (by kernel_rfl) rfl (fun KK hKK => ?_)
          (try simp only [sq])
          have hrW := Whole.below HRU.out b6 (by omega)
          have hf34 := ALRow.frees hrW 34
          have hc34 := hHeld.1
          obtain ⟨W7, hW⟩ : ∃ x, x = W6.setCell ⟨w.heap.size, 34, none⟩ (.slice A5 (L1.length + 1) c5) := ⟨_, rfl⟩
          have r1 := ALRow.set34 hrW (.slice A5 (L1.length + 1) c5)
          have r2 := (hS5.mono (Q' := fun g => p.heap.size ≤ g) fun g _ h => Nat.le_trans hp3 h).keep (w' := W7) (by rw [hW]; exact ((Below.refl 0 _).setCell (p := ⟨w.heap.size, 34, none⟩) (Nat.zero_le _) _).size) (fun g _ h => by rw [hW]; exact heap_setCell_other _ ⟨w.heap.size, 34, none⟩ g _ (by show g ≠ w.heap.size; omega))
          have r3 := (hV.mono (Q' := fun g => p.heap.size ≤ g) fun g _ h => Nat.le_trans hp3 h).keep (w' := W7) (fun g _ h => by rw [hW]; exact heap_setCell_other _ ⟨w.heap.size, 34, none⟩ g _ (by show g ≠ w.heap.size; omega))
          have r4 := Whole.far (Whole.below HT3.out b6 (by omega)) (a := ⟨w.heap.size, 34, none⟩) (by show w2.heap.size ≠ w.heap.size; omega) (.slice A5 (L1.length + 1) c5)
          have r5 := Whole.far (Whole.below (Whole.below H6.out HB3.out (by omega)) b6 (by omega)) (a := ⟨w.heap.size, 34, none⟩) (by show _ ≠ w.heap.size; omega) (.slice A5 (L1.length + 1) c5)
          have r6 := Whole.far (Whole.below (Whole.below H7.out HB3.out (by omega)) b6 (by omega)) (a := ⟨w.heap.size, 34, none⟩) (by show _ ≠ w.heap.size; omega) (.slice A5 (L1.length + 1) c5)
          have r7 := (HU3.out.trans (b6.mono (by omega))).setCell (p := ⟨w.heap.size, 34, none⟩) (Nat.le_refl _) (.slice A5 (L1.length + 1) c5)
          rw [← hW] at r1 r4 r5 r6 r7
          go_simp
          rw [← hW]
          clear hW
          refine hKK.out _ _ (.inl (by kernel_rfl)) trivial ?_
          clear hKK KK
          (try simp only [sq])
          refine AnyG_done (by kernel_rfl) ?_ _
          go_wp2_with fail
          go_meet
          exact ⟨A5, c5, D, dc, r1, r2, r3, r4, r5, r6, r7⟩
      case rest =>
        obtain ⟨A5, c5, D, dc, hr, hS5, hV, ht, h6, h7, hbw⟩ := hcut
        rename World => wc
        have HS5 := Lib.hid hS5
        have HV := Lib.hid hV
        have hru : ALRow wc.drew w.heap.size a.free a.seed a.fresh (.slice A5 (L1.length + 1) c5) (.slice Ab a.boxes.length cb) := Whole.drew hr
        have h6u : Whole wc.drew (w.heap.size + 1 + 1) 32 zar := Whole.drew h6
        have h7u : Whole wc.drew (w.heap.size + 1 + 1 + 1) 28 ztr := Whole.drew h7
        have htu : TGRow wc.drew w2.heap.size E := Whole.drew ht
        have bbu : Below w.heap.size w wc.drew := hbw.drew
        have kp0 : ∀ b, p.heap.size ≤ b → wc.drew.heap[b]? = wc.heap[b]? := fun b _ => rfl
        have sz0 : wc.heap.size ≤ wc.drew.heap.size := Nat.le_refl _
        clear hS5 hV hr ht h6 h7 hbw
        go_upto_region 12 with fail
        refine wp_region_held_drew (S := fun W => W.rangeAt w.heap.size 0 (alcl a.free a.seed a.fresh (.slice A5 (L1.length + 1) c5) (.slice Ab a.boxes.length cb)) ∧ W.rangeAt w2.heap.size 0 ((E).map byt)) (by kernel_rfl) (⟨Whole.range hru, TGRow.range htu⟩) (fun hHeld => ?_)
        apply wpT (i := 0) rfl (by kernel_rfl)
        case hQ => exact fun _ _ _ h => h
        case hS => exact hHeld
        case hy => exact yieldsIf_load_mid (by rfl) 32 _ rfl w.heap.size (0) rfl (alcl a.free a.seed a.fresh (.slice A5 (L1.length + 1) c5) (.slice Ab a.boxes.length cb)) _ (fun w hS => hS.1) Tryd.underlying32 rfl (by rw [algSize, alcl_length])
        (try simp only [sq])
        apply wpT (i := 1) rfl (by kernel_rfl)
        case hQ => exact fun _ _ _ h => h
        case hS => exact hHeld
        case hy => exact yieldsIf_load_mid (by rfl) 28 _ rfl w2.heap.size (0) rfl ((E).map byt) _ (fun w hS => hS.2) Tryd.underlying28 rfl (by rw [tagSize, tag_len (hEl)])
        (try simp only [sq])
        refine wpAnyH_ready (rs := [2]) (by kernel_rfl) (by simp) ?_
        refine AllReadyH.cons rfl (fun KK hKK => ?_) AllReadyH.nil
        (try simp only [sq])
        obtain ⟨X1, hX1⟩ : ∃ x, x = wc.drew.setRow (w.heap.size + 1 + 1) ((alcl a.free a.seed a.fresh (.slice A5 (L1.length + 1) c5) (.slice Ab a.boxes.length cb)).toArray) := ⟨_, rfl⟩
        have hsX1 : ALRow X1 w.heap.size a.free a.seed a.fresh (.slice A5 (L1.length + 1) c5) (.slice Ab a.boxes.length cb) := by rw [hX1]; exact Whole.setRow_far hru (by omega) _
        have e1 : Whole X1 (w.heap.size + 1 + 1) 32 (alc a.free a.seed a.fresh (.slice A5 (L1.length + 1) c5) (.slice Ab a.boxes.length cb)) := by rw [hX1]; exact Whole.setRow h6u _
        have h7X1 : Whole X1 (w.heap.size + 1 + 1 + 1) 28 ztr := by rw [hX1]; exact Whole.setRow_far h7u (by omega) _
        have bbX1 : Below w.heap.size w X1 := by rw [hX1]; exact below_setRow bbu (by omega) _
        have htX1 : TGRow X1 w2.heap.size (E) := by rw [hX1]; exact Whole.setRow_far htu (by omega) _
        have kpX1 : ∀ b, p.heap.size ≤ b → X1.heap[b]? = wc.heap[b]? := by rw [hX1]; exact fun b hb => (setRow_other _ _ b _ (by omega)).trans (kp0 b hb)
        have szX1 : wc.heap.size ≤ X1.heap.size := by rw [hX1]; exact Nat.le_trans sz0 (below_setRow (B := 0) (Below.refl 0 _) (Nat.zero_le _) _).size
        rw [if_pos (by kernel_rfl)]
        refine wp_store_row 32 _ _ rfl (w.heap.size + 1 + 1) _ rfl rfl 32 _ h6u (by rw [algSize, List.size_toArray, alcl_length]) (by rw [zar_size, List.size_toArray, alcl_length]) (alc_one _ _ _ _ _ _ _ _ _) ?_
        rw [← hX1]
        clear hX1
        refine hKK.out _ _ (⟨Whole.range hsX1, TGRow.range htX1⟩) (fun hHeld => ?_)
        clear hKK KK
        (try simp only [sq])
        refine wpAnyH_ready (rs := [3]) (by kernel_rfl) (by simp) ?_
        refine AllReadyH.cons rfl (fun KK hKK => ?_) AllReadyH.nil
        (try simp only [sq])
        have e1o := e1
        clear e1
        obtain ⟨X2, hX2⟩ : ∃ x, x = X1.setRow (w.heap.size + 1 + 1 + 1) (((E).map byt).toArray) := ⟨_, rfl⟩
        have hsX2 : ALRow X2 w.heap.size a.free a.seed a.fresh (.slice A5 (L1.length + 1) c5) (.slice Ab a.boxes.length cb) := by rw [hX2]; exact Whole.setRow_far hsX1 (by omega) _
        have e1 : Whole X2 (w.heap.size + 1 + 1) 32 (alc a.free a.seed a.fresh (.slice A5 (L1.length + 1) c5) (.slice Ab a.boxes.length cb)) := by rw [hX2]; exact Whole.setRow_far e1o (by omega) _
        have e2 : TGRow X2 (w.heap.size + 1 + 1 + 1) (E) := by rw [hX2]; exact Whole.setRow h7X1 _
        have bbX2 : Below w.heap.size w X2 := by rw [hX2]; exact below_setRow bbX1 (by omega) _
        have htX2 : TGRow X2 w2.heap.size (E) := by rw [hX2]; exact Whole.setRow_far htX1 (by omega) _
        have kpX2 : ∀ b, p.heap.size ≤ b → X2.heap[b]? = wc.heap[b]? := by rw [hX2]; exact fun b hb => (setRow_other _ _ b _ (by omega)).trans (kpX1 b hb)
        have szX2 : wc.heap.size ≤ X2.heap.size := by rw [hX2]; exact Nat.le_trans szX1 (below_setRow (B := 0) (Below.refl 0 _) (Nat.zero_le _) _).size
        rw [if_pos (by kernel_rfl)]
        refine wp_store_row 28 _ _ rfl (w.heap.size + 1 + 1 + 1) _ rfl rfl 28 _ h7X1 (by rw [tagSize, tag_size (hEl)]) (by rw [ztr_size, tag_size (hEl)]) (tag_one _) ?_
        rw [← hX2]
        clear hX2
        refine hKK.out _ _ (⟨Whole.range hsX2, TGRow.range htX2⟩) (fun hHeld => ?_)
        clear hKK KK
        (try simp only [sq])
        apply wpT (i := 4) rfl (by kernel_rfl)
        case hQ => exact fun _ _ _ h => h
        case hS => exact hHeld
        case hy => (refine Or.inl ⟨by rfl, ?_⟩; intro w hSw; (try go_split_ands); go_simp; (try with_reducible rfl))
        (try simp only [sq])
        refine wpAnyH_done (by kernel_rfl) ?_ _
        go_wp2_with fail
        have hbf := bbX2
        refine bodyPost_ret (results_alg3 Tryd.results23 _ rfl rfl _ rfl (alc_size _ _ _ _ _) (tag_size (hEl)) e1 e2) rfl ?_
        show AlgR _ _ _ R ∧ _
        rw [HRR.out, ← HE.out]
        refine ⟨⟨_, rfl, ?_⟩, hbf⟩
        have h := alv_more (a := a) (X := (⟨⟨K, m, E⟩, D, dc⟩ : MeM)) HL1.out (fun x hx => ((HB1.out x hx).below hbf (Nat.le_refl _)).mono fun _ _ h => .inl h) ((HS5.out.keep szX2 fun g _ hq => kpX2 g hq).mono fun g _ h => (by omega : w.heap.size ≤ g)) ((HV.out.keep fun g _ hq => kpX2 g hq).mono fun g _ h => (by omega : w.heap.size ≤ g)) (HBX.out.below hbf (Nat.le_refl _)) HA.out HLN.out
        rw [show (L1 ++ [(⟨⟨K, m, E⟩, D, dc⟩ : MeM)]).length = L1.length + 1 by simp] at h
        exact h
    · skip
      rw [hF] at c0
      have hES : E = sym 109#8 ((a.macs.length + 1 : Nat) : Int) := by rw [HE.out]; unfold ntag; rw [hF]; rfl
      have hcl := rsymbol 109#8 ((a.macs.length + 1 : Nat) : Int) u2
      rw [bv109', ← hES] at hcl
      have hw1 : IntKind.i64.wrap ((a.macs.length : Int) + 1) = ((a.macs.length + 1 : Nat) : Int) := by rw [IntKind.wrap_i64]; have := HLN.out; omega
      have HCL := Lib.hid hcl
      have HFF := Lib.hid hF
      clear hF hES hcl
      go_wp2_with fail
      refine HCL.out.mono ?_
      rintro e w3 ⟨rfl, hb3⟩
      clear HCL hw1
      have ht3 := Whole.below HT2.out hb3 (by omega)
      have HT20 := Lib.hid ht3
      have hws : u2.heap.size ≤ w3.heap.size := hb3.size
      go_upto_region 11 with (first
        | (with_reducible refine wpList_store_tag rfl _ _ rfl (g := w2.heap.size) rfl rfl HT20.out (tag_size hHl) (tag_size hEl) (tag_one _) ?_))
      obtain ⟨u3, hu3⟩ : ∃ x, x = w3.setRow w2.heap.size (E.map byt).toArray := ⟨_, rfl⟩
      have HB3 : Hid (Below p.heap.size p u3) := Lib.hid (by rw [hu3]; exact below_setRow (HB2.out.trans (hb3.mono (by omega))) (by omega) _)
      have HT3 : Hid (TGRow u3 w2.heap.size E) := Lib.hid (by rw [hu3]; exact Whole.setRow HT20.out _)
      have hw23 : w2.heap.size < u3.heap.size := Whole.lt HT3.out
      rw [← hu3]
      clear hu3 ht3 hb3 c0 c34
      try simp only [Act.put]
      have hp3 : p.heap.size ≤ u3.heap.size := HB3.out.size
      have HU3 : Hid (Below w.heap.size w u3) := Lib.hid (HB.out.trans (HB3.out.mono (by omega)))
      have HRU := Lib.hid (Whole.below HR.out HB3.out (by omega))
      have HCC : Hid (∀ W, Below u3.heap.size u3 W → W.cell? ⟨w.heap.size, 34, none⟩ = some (.slice Am a.macs.length cm) ∧ W.rangeAt (w.heap.size + 1) 0 (K.map byt) ∧ W.rangeAt w2.heap.size 0 (E.map byt)) := Lib.hid fun W hb => ⟨(ALRow.cells (Whole.below HRU.out hb (by omega))).2.2.1, TGRow.range (Whole.below (Whole.below HK.out HB3.out (by omega)) hb (by omega)), TGRow.range (Whole.below HT3.out hb (by omega))⟩
      go_cut [] (fun wx => ∃ (A5 : Option Addr) (c5 : Nat) (D : Option Addr) (dc : Nat), ALRow wx w.heap.size a.free a.seed a.fresh (.slice A5 (L1.length + 1) c5) (.slice Ab a.boxes.length cb) ∧ Seq mcl mok wx (fun g => p.heap.size ≤ g) A5 c5 (L1 ++ [⟨⟨K, m, E⟩, D, dc⟩]) ∧ Bytes wx (fun b => p.heap.size ≤ b) (.slice D m.length dc) m ∧ TGRow wx w2.heap.size E ∧ Whole wx (w.heap.size + 1 + 1) 32 zar ∧ Whole wx (w.heap.size + 1 + 1 + 1) 28 ztr ∧ Below w.heap.size w wx)
      case first =>
        have b0 : Below u3.heap.size u3 u3.drew := (Below.refl _ _).drew
        refine wp_region_G (fun W : World => W.cell? ⟨w.heap.size, 34, none⟩ = some (.slice Am a.macs.length cm) ∧ W.rangeAt (w.heap.size + 1) 0 (K.map byt) ∧ W.rangeAt w2.heap.size 0 (E.map byt)) (fun _ => True) [13] (by kernel_rfl) ?_
        generalize u3.drew = W0 at b0 ⊢
        have hHeld : (fun W : World => W.cell? ⟨w.heap.size, 34, none⟩ = some (.slice Am a.macs.length cm) ∧ W.rangeAt (w.heap.size + 1) 0 (K.map byt) ∧ W.rangeAt w2.heap.size 0 (E.map byt)) W0 := HCC.out _ b0
        apply AnyG_pure (i := 1) rfl (by kernel_rfl) (by kernel_rfl) (by kernel_rfl) (by kernel_rfl)
        case hQ => exact fun _ _ _ h => h
        case hB => exact trivial
        case hC => exact .inr hHeld
        case hy => (refine Or.inl ⟨by rfl, ?_⟩; intro w hSw; (try go_split_ands); go_simp; (try with_reducible rfl))
        (try simp only [sq])
        apply AnyG_take (i := 2) rfl (by kernel_rfl) (by kernel_rfl) (by kernel_rfl) (by kernel_rfl)
        case hQ => exact fun _ _ _ h => h
        case hB => exact trivial
        case hC => exact hHeld
        case hy => (refine Or.inl ⟨by rfl, ?_⟩; intro w hSw; (try go_split_ands); go_simp; (try with_reducible rfl))
        (try simp only [sq])
        apply AnyG_take (i := 4) rfl (by kernel_rfl) (by kernel_rfl) (by kernel_rfl) (by kernel_rfl)
        case hQ => exact fun _ _ _ h => h
        case hB => exact trivial
        case hC => exact hHeld
        case hy => exact yieldsIf_load_mid (by rfl) 28 _ rfl (w.heap.size + 1) (0) rfl (K.map byt) _ (fun w hS => hS.2.1) Tryd.underlying28 rfl (by rw [tagSize, hKl])
        (try simp only [sq])
        apply AnyG_pure (i := 6) rfl (by kernel_rfl) (by kernel_rfl) (by kernel_rfl) (by kernel_rfl)
        case hQ => exact fun _ _ _ h => h
        case hB => exact trivial
        case hC => exact .inr hHeld
        case hy => (refine Or.inl ⟨by rfl, ?_⟩; intro w hSw; (try go_split_ands); go_simp; (try with_reducible rfl))
        (try simp only [sq])
        apply AnyG_take (i := 8) rfl (by kernel_rfl) (by kernel_rfl) (by kernel_rfl) (by kernel_rfl)
        case hQ => exact fun _ _ _ h => h
        case hB => exact trivial
        case hC => exact hHeld
        case hy => exact yieldsIf_load_mid (by rfl) 28 _ rfl w2.heap.size (0) rfl (E.map byt) _ (fun w hS => hS.2.2) Tryd.underlying28 rfl (by rw [tagSize, hEl2])
        (try simp only [sq])
        refine AnyG_two (i := 0) (j := 5) (by kernel_rfl) rfl rfl (fun KK hKK => ?_) (fun KK hKK => ?_)
        · skip
          (try simp only [sq])
          obtain ⟨g0, hg⟩ : ∃ g, g = W0.heap.size := ⟨_, rfl⟩
          obtain ⟨W1, hW⟩ : ∃ x, x = W0.alloc (.cells #[] 69) := ⟨_, rfl⟩
          have b1 : Below u3.heap.size u3 W1 := by rw [hW]; exact b0.alloc b0.size _
          have oM1 : OwnMc W1 u3.heap.size (.slice (some ⟨g0, 0, none⟩) 0 0) [] := owns_empty (by rw [hW, hg]; exact heap_alloc_new _ _) (by rw [hg]; exact b0.size)
          go_simp
          rw [← hg, ← hW]
          clear hg hW
          clear hHeld
          have hHeld : (fun W : World => W.cell? ⟨w.heap.size, 34, none⟩ = some (.slice Am a.macs.length cm) ∧ W.rangeAt (w.heap.size + 1) 0 (K.map byt) ∧ W.rangeAt w2.heap.size 0 (E.map byt)) W1 := HCC.out _ b1
          refine hKK.out _ _ (.inr hHeld) trivial ?_
          clear hKK KK
          (try simp only [sq])
          refine AnyG_two (i := 3) (j := 5) (by kernel_rfl) rfl rfl (fun KK hKK => ?_) (fun KK hKK => ?_)
          · skip
            refine step_append_seq (by rfl) _ _ 29 69 zmac 88 (by rfl) Tryd.underlying29 macInfo zmac_size (by omega) (by omega) mcl_len mcl_one u3.heap.size _ [] (by rfl) oM1 Q Am a.macs.length cm L1 HL1L.out (by rfl) (HS1.out.below (HU3.out.trans (b1.mono (by omega))) (Nat.le_refl _)) (by have := HL1L.out; have := HLN.out; simp only [List.length_nil]; omega) b1.size ?_
            intro vM W2 oM0 hbn hgn
            have oM2 : OwnMc W2 u3.heap.size vM L1 := by rw [List.nil_append] at oM0; exact oM0
            have b2 := b1.trans hbn
            clear hbn hgn
            clear hHeld
            have hHeld : (fun W : World => W.cell? ⟨w.heap.size, 34, none⟩ = some (.slice Am a.macs.length cm) ∧ W.rangeAt (w.heap.size + 1) 0 (K.map byt) ∧ W.rangeAt w2.heap.size 0 (E.map byt)) W2 := HCC.out _ b2
            refine hKK.out _ _ (.inr hHeld) trivial ?_
            clear hKK KK
            (try simp only [sq])
            refine AnyG_one (i := 5) (by kernel_rfl) rfl (fun KK hKK => ?_)
            (try simp only [sq])
            obtain ⟨g5, hg⟩ : ∃ g, g = W2.heap.size := ⟨_, rfl⟩
            obtain ⟨W3, hW⟩ : ∃ x, x = W2.alloc (.cells #[] 5) := ⟨_, rfl⟩
            have b3 : Below u3.heap.size u3 W3 := by rw [hW]; exact b2.alloc b2.size _
            have oB3 : OwnBf W3 u3.heap.size (.slice (some ⟨g5, 0, none⟩) 0 0) [] := owns_empty (by rw [hW, hg]; exact heap_alloc_new _ _) (by rw [hg]; exact b2.size)
            have oM3 := oM2.alloc (.cells #[] 5)
            rw [← hW] at oM3
            go_simp
            rw [← hg, ← hW]
            clear hg hW
            clear hHeld
            have hHeld : (fun W : World => W.cell? ⟨w.heap.size, 34, none⟩ = some (.slice Am a.macs.length cm) ∧ W.rangeAt (w.heap.size + 1) 0 (K.map byt) ∧ W.rangeAt w2.heap.size 0 (E.map byt)) W3 := HCC.out _ b3
            refine hKK.out _ _ (.inr hHeld) trivial ?_
            clear hKK KK
            (try simp only [sq])
            refine AnyG_one (i := 7) (by kernel_rfl) rfl (fun KK hKK => ?_)
            refine step_append_seq (by rfl) _ _ 39 5 (.int .u8 0) 1 (by rfl) Tryd.underlying39 byteInfo byte_size (by omega) (by omega) bf_len bf_one u3.heap.size _ [] (by rfl) oB3 Q2 B m.length d m rfl (by rfl) (seq_bytes (HM.out.below (HU3.out.trans (b3.mono (by omega))) (Nat.le_refl _))) (by simp only [List.length_nil]; omega) b3.size ?_
            intro vB W4 oB0 hbn hgn
            have oB4 : OwnBf W4 u3.heap.size vB m := by rw [List.nil_append] at oB0; exact oB0
            have oM4 := oM3.kept hgn (own_ne oM3 oB3 mac_ne_u8)
            obtain ⟨D, dc, rfl, hsB⟩ := OwnS.seq (ok := fun _ => True) oB4 (fun _ _ => trivial)
            have b4 := b3.trans hbn
            clear hbn hgn hsB
            clear hHeld
            have hHeld : (fun W : World => W.cell? ⟨w.heap.size, 34, none⟩ = some (.slice Am a.macs.length cm) ∧ W.rangeAt (w.heap.size + 1) 0 (K.map byt) ∧ W.rangeAt w2.heap.size 0 (E.map byt)) W4 := HCC.out _ b4
            refine hKK.out _ _ (.inr hHeld) trivial ?_
            clear hKK KK
            (try simp only [sq])
            apply AnyG_pure (i := 9) rfl (by kernel_rfl) (by kernel_rfl) (by kernel_rfl) (by kernel_rfl)
            case hQ => exact fun _ _ _ h => h
            case hB => exact trivial
            case hC => exact .inr hHeld
            case hy => exact yieldsIf_build_mac (by rfl) _ _ _ rfl (e := ⟨K, m, E⟩) hK hEl rfl rfl rfl
            (try simp only [sq])
            refine AnyG_one (i := 10) (by kernel_rfl) rfl (fun KK hKK => ?_)
            have hXok : mok (⟨⟨K, m, E⟩, D, dc⟩ : MeM) := ⟨hK, hEl, by show m.length ≤ 5000; omega⟩
            obtain ⟨g10, hg⟩ : ∃ g, g = W4.heap.size := ⟨_, rfl⟩
            obtain ⟨W5, hW⟩ : ∃ x, x = W4.alloc (.cells (mcl (⟨⟨K, m, E⟩, D, dc⟩ : MeM)).toArray 69) := ⟨_, rfl⟩
            have b5 : Below u3.heap.size u3 W5 := by rw [hW]; exact b4.alloc b4.size _
            have hx1 : Whole W5 g10 69 (mcl (⟨⟨K, m, E⟩, D, dc⟩ : MeM)).toArray := by rw [hW, hg]; exact Whole.here _ _ _
            have oM5 := oM4.alloc (.cells (mcl (⟨⟨K, m, E⟩, D, dc⟩ : MeM)).toArray 69)
            rw [← hW] at oM5
            have oB5 := oB4.alloc (.cells (mcl (⟨⟨K, m, E⟩, D, dc⟩ : MeM)).toArray 69)
            rw [← hW] at oB5
            refine step_buildSlice_mac (by rfl) _ (by rfl) (X := (⟨⟨K, m, E⟩, D, dc⟩ : MeM)) (by rfl) ?_
            rw [← hg, ← hW]
            clear hg hW
            clear hHeld
            have hHeld : (fun W : World => W.cell? ⟨w.heap.size, 34, none⟩ = some (.slice Am a.macs.length cm) ∧ W.rangeAt (w.heap.size + 1) 0 (K.map byt) ∧ W.rangeAt w2.heap.size 0 (E.map byt)) W5 := HCC.out _ b5
            refine hKK.out _ _ (.inr hHeld) trivial ?_
            clear hKK KK
            (try simp only [sq])
            refine AnyG_one (i := 11) (by kernel_rfl) rfl (fun KK hKK => ?_)
            refine step_append_seq (by rfl) _ _ 29 69 zmac 88 (by rfl) Tryd.underlying29 macInfo zmac_size (by omega) (by omega) mcl_len mcl_one u3.heap.size _ L1 (by rfl) oM5 _ (some ⟨g10, 0, none⟩) 1 1 [(⟨⟨K, m, E⟩, D, dc⟩ : MeM)] rfl (by rfl) (seq_one hx1 rfl hXok) (by have := HL1L.out; have := HLN.out; simp only [List.length_singleton]; omega) b5.size ?_
            intro vN W6 oM6 hbn hgn
            have oB6 := oB5.kept hgn (own_ne oB5 oM5 u8_ne_mac)
            have b6 := b5.trans hbn
            obtain ⟨A5, c5, rfl, hS5⟩ := OwnS.seq (ok := mok) oM6 (fun x hx => by
              rcases List.mem_append.1 hx with h | h
              · exact HS1.out.2.2.2.1 x h
              · rw [List.mem_singleton.1 h]; exact hXok)
            obtain ⟨D2, dc2, he2, hsB⟩ := OwnS.seq (ok := fun _ => True) oB6 (fun _ _ => trivial)
            injection he2 with q1 q2 q3
            subst q1 q3
            have hV := bytes_seq hsB
            have hn5 : (L1 ++ [(⟨⟨K, m, E⟩, D, dc⟩ : MeM)]).length = L1.length + 1 := by simp
            rw [hn5]
            clear hbn hgn q2 hsB hn5
            clear hHeld
            have hHeld : (fun W : World => W.cell? ⟨w.heap.size, 34, none⟩ = some (.slice Am a.macs.length cm) ∧ W.rangeAt (w.heap.size + 1) 0 (K.map byt) ∧ W.rangeAt w2.heap.size 0 (E.map byt)) W6 := HCC.out _ b6
            refine hKK.out _ _ (.inr hHeld) trivial ?_
            clear hKK KK
            (try simp only [sq])
            apply AnyG_pure (i := 12) rfl (by kernel_rfl) (by kernel_rfl) (by kernel_rfl) (by kernel_rfl)
            case hQ => exact fun _ _ _ h => h
            case hB => exact trivial
            case hC => exact .inr hHeld
            case hy => (refine Or.inl ⟨by rfl, ?_⟩; intro w hSw; (try go_split_ands); go_simp; (try with_reducible rfl))
            (try simp only [sq])
            refine AnyG_one (i := 13) (by kernel_rfl) rfl (fun KK hKK => ?_)
            (try simp only [sq])
            have hrW := Whole.below HRU.out b6 (by omega)
            have hf34 := ALRow.frees hrW 34
            have hc34 := hHeld.1
            obtain ⟨W7, hW⟩ : ∃ x, x = W6.setCell ⟨w.heap.size, 34, none⟩ (.slice A5 (L1.length + 1) c5) := ⟨_, rfl⟩
            have r1 := ALRow.set34 hrW (.slice A5 (L1.length + 1) c5)
            have r2 := (hS5.mono (Q' := fun g => p.heap.size ≤ g) fun g _ h => Nat.le_trans hp3 h).keep (w' := W7) (by rw [hW]; exact ((Below.refl 0 _).setCell (p := ⟨w.heap.size, 34, none⟩) (Nat.zero_le _) _).size) (fun g _ h => by rw [hW]; exact heap_setCell_other _ ⟨w.heap.size, 34, none⟩ g _ (by show g ≠ w.heap.size; omega))
            have r3 := (hV.mono (Q' := fun g => p.heap.size ≤ g) fun g _ h => Nat.le_trans hp3 h).keep (w' := W7) (fun g _ h => by rw [hW]; exact heap_setCell_other _ ⟨w.heap.size, 34, none⟩ g _ (by show g ≠ w.heap.size; omega))
            have r4 := Whole.far (Whole.below HT3.out b6 (by omega)) (a := ⟨w.heap.size, 34, none⟩) (by show w2.heap.size ≠ w.heap.size; omega) (.slice A5 (L1.length + 1) c5)
            have r5 := Whole.far (Whole.below (Whole.below H6.out HB3.out (by omega)) b6 (by omega)) (a := ⟨w.heap.size, 34, none⟩) (by show _ ≠ w.heap.size; omega) (.slice A5 (L1.length + 1) c5)
            have r6 := Whole.far (Whole.below (Whole.below H7.out HB3.out (by omega)) b6 (by omega)) (a := ⟨w.heap.size, 34, none⟩) (by show _ ≠ w.heap.size; omega) (.slice A5 (L1.length + 1) c5)
            have r7 := (HU3.out.trans (b6.mono (by omega))).setCell (p := ⟨w.heap.size, 34, none⟩) (Nat.le_refl _) (.slice A5 (L1.length + 1) c5)
            rw [← hW] at r1 r4 r5 r6 r7
            go_simp
            rw [← hW]
            clear hW
            refine hKK.out _ _ (.inl (by kernel_rfl)) trivial ?_
            clear hKK KK
            (try simp only [sq])
            refine AnyG_done (by kernel_rfl) ?_ _
            go_wp2_with fail
            go_meet
            exact ⟨A5, c5, D, dc, r1, r2, r3, r4, r5, r6, r7⟩
          · skip
            (try simp only [sq])
            obtain ⟨g5, hg⟩ : ∃ g, g = W1.heap.size := ⟨_, rfl⟩
            obtain ⟨W2, hW⟩ : ∃ x, x = W1.alloc (.cells #[] 5) := ⟨_, rfl⟩
            have b2 : Below u3.heap.size u3 W2 := by rw [hW]; exact b1.alloc b1.size _
            have oB2 : OwnBf W2 u3.heap.size (.slice (some ⟨g5, 0, none⟩) 0 0) [] := owns_empty (by rw [hW, hg]; exact heap_alloc_new _ _) (by rw [hg]; exact b1.size)
            have oM2 := oM1.alloc (.cells #[] 5)
            rw [← hW] at oM2
            go_simp
            rw [← hg, ← hW]
            clear hg hW
            clear hHeld
            have hHeld : (fun W : World => W.cell? ⟨w.heap.size, 34, none⟩ = some (.slice Am a.macs.length cm) ∧ W.rangeAt (w.heap.size + 1) 0 (K.map byt) ∧ W.rangeAt w2.heap.size 0 (E.map byt)) W2 := HCC.out _ b2
            refine hKK.out _ _ (.inr hHeld) trivial ?_
            clear hKK KK
            (try simp only [sq])
            refine AnyG_one (i := 3) (by kernel_rfl) rfl (fun KK hKK => ?_)
            refine step_append_seq (by rfl) _ _ 29 69 zmac 88 (by rfl) Tryd.underlying29 macInfo zmac_size (by omega) (by omega) mcl_len mcl_one u3.heap.size _ [] (by rfl) oM2 Q Am a.macs.length cm L1 HL1L.out (by rfl) (HS1.out.below (HU3.out.trans (b2.mono (by omega))) (Nat.le_refl _)) (by have := HL1L.out; have := HLN.out; simp only [List.length_nil]; omega) b2.size ?_
            intro vM W3 oM0 hbn hgn
            have oM3 : OwnMc W3 u3.heap.size vM L1 := by rw [List.nil_append] at oM0; exact oM0
            have oB3 := oB2.kept hgn (own_ne oB2 oM2 u8_ne_mac)
            have b3 := b2.trans hbn
            clear hbn hgn
            clear hHeld
            have hHeld : (fun W : World => W.cell? ⟨w.heap.size, 34, none⟩ = some (.slice Am a.macs.length cm) ∧ W.rangeAt (w.heap.size + 1) 0 (K.map byt) ∧ W.rangeAt w2.heap.size 0 (E.map byt)) W3 := HCC.out _ b3
            refine hKK.out _ _ (.inr hHeld) trivial ?_
            clear hKK KK
            (try simp only [sq])
            refine AnyG_one (i := 7) (by kernel_rfl) rfl (fun KK hKK => ?_)
            refine step_append_seq (by rfl) _ _ 39 5 (.int .u8 0) 1 (by rfl) Tryd.underlying39 byteInfo byte_size (by omega) (by omega) bf_len bf_one u3.heap.size _ [] (by rfl) oB3 Q2 B m.length d m rfl (by rfl) (seq_bytes (HM.out.below (HU3.out.trans (b3.mono (by omega))) (Nat.le_refl _))) (by simp only [List.length_nil]; omega) b3.size ?_
            intro vB W4 oB0 hbn hgn
            have oB4 : OwnBf W4 u3.heap.size vB m := by rw [List.nil_append] at oB0; exact oB0
            have oM4 := oM3.kept hgn (own_ne oM3 oB3 mac_ne_u8)
            obtain ⟨D, dc, rfl, hsB⟩ := OwnS.seq (ok := fun _ => True) oB4 (fun _ _ => trivial)
            have b4 := b3.trans hbn
            clear hbn hgn hsB
            clear hHeld
            have hHeld : (fun W : World => W.cell? ⟨w.heap.size, 34, none⟩ = some (.slice Am a.macs.length cm) ∧ W.rangeAt (w.heap.size + 1) 0 (K.map byt) ∧ W.rangeAt w2.heap.size 0 (E.map byt)) W4 := HCC.out _ b4
            refine hKK.out _ _ (.inr hHeld) trivial ?_
            clear hKK KK
            (try simp only [sq])
            apply AnyG_pure (i := 9) rfl (by kernel_rfl) (by kernel_rfl) (by kernel_rfl) (by kernel_rfl)
            case hQ => exact fun _ _ _ h => h
            case hB => exact trivial
            case hC => exact .inr hHeld
            case hy => exact yieldsIf_build_mac (by rfl) _ _ _ rfl (e := ⟨K, m, E⟩) hK hEl rfl rfl rfl
            (try simp only [sq])
            refine AnyG_one (i := 10) (by kernel_rfl) rfl (fun KK hKK => ?_)
            have hXok : mok (⟨⟨K, m, E⟩, D, dc⟩ : MeM) := ⟨hK, hEl, by show m.length ≤ 5000; omega⟩
            obtain ⟨g10, hg⟩ : ∃ g, g = W4.heap.size := ⟨_, rfl⟩
            obtain ⟨W5, hW⟩ : ∃ x, x = W4.alloc (.cells (mcl (⟨⟨K, m, E⟩, D, dc⟩ : MeM)).toArray 69) := ⟨_, rfl⟩
            have b5 : Below u3.heap.size u3 W5 := by rw [hW]; exact b4.alloc b4.size _
            have hx1 : Whole W5 g10 69 (mcl (⟨⟨K, m, E⟩, D, dc⟩ : MeM)).toArray := by rw [hW, hg]; exact Whole.here _ _ _
            have oM5 := oM4.alloc (.cells (mcl (⟨⟨K, m, E⟩, D, dc⟩ : MeM)).toArray 69)
            rw [← hW] at oM5
            have oB5 := oB4.alloc (.cells (mcl (⟨⟨K, m, E⟩, D, dc⟩ : MeM)).toArray 69)
            rw [← hW] at oB5
            refine step_buildSlice_mac (by rfl) _ (by rfl) (X := (⟨⟨K, m, E⟩, D, dc⟩ : MeM)) (by rfl) ?_
            rw [← hg, ← hW]
            clear hg hW
            clear hHeld
            have hHeld : (fun W : World => W.cell? ⟨w.heap.size, 34, none⟩ = some (.slice Am a.macs.length cm) ∧ W.rangeAt (w.heap.size + 1) 0 (K.map byt) ∧ W.rangeAt w2.heap.size 0 (E.map byt)) W5 := HCC.out _ b5
            refine hKK.out _ _ (.inr hHeld) trivial ?_
            clear hKK KK
            (try simp only [sq])
            refine AnyG_one (i := 11) (by kernel_rfl) rfl (fun KK hKK => ?_)
            refine step_append_seq (by rfl) _ _ 29 69 zmac 88 (by rfl) Tryd.underlying29 macInfo zmac_size (by omega) (by omega) mcl_len mcl_one u3.heap.size _ L1 (by rfl) oM5 _ (some ⟨g10, 0, none⟩) 1 1 [(⟨⟨K, m, E⟩, D, dc⟩ : MeM)] rfl (by rfl) (seq_one hx1 rfl hXok) (by have := HL1L.out; have := HLN.out; simp only [List.length_singleton]; omega) b5.size ?_
            intro vN W6 oM6 hbn hgn
            have oB6 := oB5.kept hgn (own_ne oB5 oM5 u8_ne_mac)
            have b6 := b5.trans hbn
            obtain ⟨A5, c5, rfl, hS5⟩ := OwnS.seq (ok := mok) oM6 (fun x hx => by
              rcases List.mem_append.1 hx with h | h
              · exact HS1.out.2.2.2.1 x h
              · rw [List.mem_singleton.1 h]; exact hXok)
            obtain ⟨D2, dc2, he2, hsB⟩ := OwnS.seq (ok := fun _ => True) oB6 (fun _ _ => trivial)
            injection he2 with q1 q2 q3
            subst q1 q3
            have hV := bytes_seq hsB
            have hn5 : (L1 ++ [(⟨⟨K, m, E⟩, D, dc⟩ : MeM)]).length = L1.length + 1 := by simp
            rw [hn5]
            clear hbn hgn q2 hsB hn5
            clear hHeld
            have hHeld : (fun W : World => W.cell? ⟨w.heap.size, 34, none⟩ = some (.slice Am a.macs.length cm) ∧ W.rangeAt (w.heap.size + 1) 0 (K.map byt) ∧ W.rangeAt w2.heap.size 0 (E.map byt)) W6 := HCC.out _ b6
            refine hKK.out _ _ (.inr hHeld) trivial ?_
            clear hKK KK
            (try simp only [sq])
            apply AnyG_pure (i := 12) rfl (by kernel_rfl) (by kernel_rfl) (by kernel_rfl) (by kernel_rfl)
            case hQ => exact fun _ _ _ h => h
            case hB => exact trivial
            case hC => exact .inr hHeld
            case hy => (refine Or.inl ⟨by rfl, ?_⟩; intro w hSw; (try go_split_ands); go_simp; (try with_reducible rfl))
            (try simp only [sq])
            refine AnyG_one (i := 13) (by kernel_rfl) rfl (fun KK hKK => ?_)
            (try simp only [sq])
            have hrW := Whole.below HRU.out b6 (by omega)
            have hf34 := ALRow.frees hrW 34
            have hc34 := hHeld.1
            obtain ⟨W7, hW⟩ : ∃ x, x = W6.setCell ⟨w.heap.size, 34, none⟩ (.slice A5 (L1.length + 1) c5) := ⟨_, rfl⟩
            have r1 := ALRow.set34 hrW (.slice A5 (L1.length + 1) c5)
            have r2 := (hS5.mono (Q' := fun g => p.heap.size ≤ g) fun g _ h => Nat.le_trans hp3 h).keep (w' := W7) (by rw [hW]; exact ((Below.refl 0 _).setCell (p := ⟨w.heap.size, 34, none⟩) (Nat.zero_le _) _).size) (fun g _ h => by rw [hW]; exact heap_setCell_other _ ⟨w.heap.size, 34, none⟩ g _ (by show g ≠ w.heap.size; omega))
            have r3 := (hV.mono (Q' := fun g => p.heap.size ≤ g) fun g _ h => Nat.le_trans hp3 h).keep (w' := W7) (fun g _ h => by rw [hW]; exact heap_setCell_other _ ⟨w.heap.size, 34, none⟩ g _ (by show g ≠ w.heap.size; omega))
            have r4 := Whole.far (Whole.below HT3.out b6 (by omega)) (a := ⟨w.heap.size, 34, none⟩) (by show w2.heap.size ≠ w.heap.size; omega) (.slice A5 (L1.length + 1) c5)
            have r5 := Whole.far (Whole.below (Whole.below H6.out HB3.out (by omega)) b6 (by omega)) (a := ⟨w.heap.size, 34, none⟩) (by show _ ≠ w.heap.size; omega) (.slice A5 (L1.length + 1) c5)
            have r6 := Whole.far (Whole.below (Whole.below H7.out HB3.out (by omega)) b6 (by omega)) (a := ⟨w.heap.size, 34, none⟩) (by show _ ≠ w.heap.size; omega) (.slice A5 (L1.length + 1) c5)
            have r7 := (HU3.out.trans (b6.mono (by omega))).setCell (p := ⟨w.heap.size, 34, none⟩) (Nat.le_refl _) (.slice A5 (L1.length + 1) c5)
            rw [← hW] at r1 r4 r5 r6 r7
            go_simp
            rw [← hW]
            clear hW
            refine hKK.out _ _ (.inl (by kernel_rfl)) trivial ?_
            clear hKK KK
            (try simp only [sq])
            refine AnyG_done (by kernel_rfl) ?_ _
            go_wp2_with fail
            go_meet
            exact ⟨A5, c5, D, dc, r1, r2, r3, r4, r5, r6, r7⟩
        · skip
          (try simp only [sq])
          obtain ⟨g5, hg⟩ : ∃ g, g = W0.heap.size := ⟨_, rfl⟩
          obtain ⟨W1, hW⟩ : ∃ x, x = W0.alloc (.cells #[] 5) := ⟨_, rfl⟩
          have b1 : Below u3.heap.size u3 W1 := by rw [hW]; exact b0.alloc b0.size _
          have oB1 : OwnBf W1 u3.heap.size (.slice (some ⟨g5, 0, none⟩) 0 0) [] := owns_empty (by rw [hW, hg]; exact heap_alloc_new _ _) (by rw [hg]; exact b0.size)
          go_simp
          rw [← hg, ← hW]
          clear hg hW
          clear hHeld
          have hHeld : (fun W : World => W.cell? ⟨w.heap.size, 34, none⟩ = some (.slice Am a.macs.length cm) ∧ W.rangeAt (w.heap.size + 1) 0 (K.map byt) ∧ W.rangeAt w2.heap.size 0 (E.map byt)) W1 := HCC.out _ b1
          refine hKK.out _ _ (.inr hHeld) trivial ?_
          clear hKK KK
          (try simp only [sq])
          refine AnyG_one (i := 0) (by kernel_rfl) rfl (fun KK hKK => ?_)
          (try simp only [sq])
          obtain ⟨g0, hg⟩ : ∃ g, g = W1.heap.size := ⟨_, rfl⟩
          obtain ⟨W2, hW⟩ : ∃ x, x = W1.alloc (.cells #[] 69) := ⟨_, rfl⟩
          have b2 : Below u3.heap.size u3 W2 := by rw [hW]; exact b1.alloc b1.size _
          have oM2 : OwnMc W2 u3.heap.size (.slice (some ⟨g0, 0, none⟩) 0 0) [] := owns_empty (by rw [hW, hg]; exact heap_alloc_new _ _) (by rw [hg]; exact b1.size)
          have oB2 := oB1.alloc (.cells #[] 69)
          rw [← hW] at oB2
          go_simp
          rw [← hg, ← hW]
          clear hg hW
          clear hHeld
          have hHeld : (fun W : World => W.cell? ⟨w.heap.size, 34, none⟩ = some (.slice Am a.macs.length cm) ∧ W.rangeAt (w.heap.size + 1) 0 (K.map byt) ∧ W.rangeAt w2.heap.size 0 (E.map byt)) W2 := HCC.out _ b2
          refine hKK.out _ _ (.inr hHeld) trivial ?_
          clear hKK KK
          (try simp only [sq])
          refine AnyG_one (i := 3) (by kernel_rfl) rfl (fun KK hKK => ?_)
          refine step_append_seq (by rfl) _ _ 29 69 zmac 88 (by rfl) Tryd.underlying29 macInfo zmac_size (by omega) (by omega) mcl_len mcl_one u3.heap.size _ [] (by rfl) oM2 Q Am a.macs.length cm L1 HL1L.out (by rfl) (HS1.out.below (HU3.out.trans (b2.mono (by omega))) (Nat.le_refl _)) (by have := HL1L.out; have := HLN.out; simp only [List.length_nil]; omega) b2.size ?_
          intro vM W3 oM0 hbn hgn
          have oM3 : OwnMc W3 u3.heap.size vM L1 := by rw [List.nil_append] at oM0; exact oM0
          have oB3 := oB2.kept hgn (own_ne oB2 oM2 u8_ne_mac)
          have b3 := b2.trans hbn
          clear hbn hgn
          clear hHeld
          have hHeld : (fun W : World => W.cell? ⟨w.heap.size, 34, none⟩ = some (.slice Am a.macs.length cm) ∧ W.rangeAt (w.heap.size + 1) 0 (K.map byt) ∧ W.rangeAt w2.heap.size 0 (E.map byt)) W3 := HCC.out _ b3
          refine hKK.out _ _ (.inr hHeld) trivial ?_
          clear hKK KK
          (try simp only [sq])
          refine AnyG_one (i := 7) (by kernel_rfl) rfl (fun KK hKK => ?_)
          refine step_append_seq (by rfl) _ _ 39 5 (.int .u8 0) 1 (by rfl) Tryd.underlying39 byteInfo byte_size (by omega) (by omega) bf_len bf_one u3.heap.size _ [] (by rfl) oB3 Q2 B m.length d m rfl (by rfl) (seq_bytes (HM.out.below (HU3.out.trans (b3.mono (by omega))) (Nat.le_refl _))) (by simp only [List.length_nil]; omega) b3.size ?_
          intro vB W4 oB0 hbn hgn
          have oB4 : OwnBf W4 u3.heap.size vB m := by rw [List.nil_append] at oB0; exact oB0
          have oM4 := oM3.kept hgn (own_ne oM3 oB3 mac_ne_u8)
          obtain ⟨D, dc, rfl, hsB⟩ := OwnS.seq (ok := fun _ => True) oB4 (fun _ _ => trivial)
          have b4 := b3.trans hbn
          clear hbn hgn hsB
          clear hHeld
          have hHeld : (fun W : World => W.cell? ⟨w.heap.size, 34, none⟩ = some (.slice Am a.macs.length cm) ∧ W.rangeAt (w.heap.size + 1) 0 (K.map byt) ∧ W.rangeAt w2.heap.size 0 (E.map byt)) W4 := HCC.out _ b4
          refine hKK.out _ _ (.inr hHeld) trivial ?_
          clear hKK KK
          (try simp only [sq])
          apply AnyG_pure (i := 9) rfl (by kernel_rfl) (by kernel_rfl) (by kernel_rfl) (by kernel_rfl)
          case hQ => exact fun _ _ _ h => h
          case hB => exact trivial
          case hC => exact .inr hHeld
          case hy => exact yieldsIf_build_mac (by rfl) _ _ _ rfl (e := ⟨K, m, E⟩) hK hEl rfl rfl rfl
          (try simp only [sq])
          refine AnyG_one (i := 10) (by kernel_rfl) rfl (fun KK hKK => ?_)
          have hXok : mok (⟨⟨K, m, E⟩, D, dc⟩ : MeM) := ⟨hK, hEl, by show m.length ≤ 5000; omega⟩
          obtain ⟨g10, hg⟩ : ∃ g, g = W4.heap.size := ⟨_, rfl⟩
          obtain ⟨W5, hW⟩ : ∃ x, x = W4.alloc (.cells (mcl (⟨⟨K, m, E⟩, D, dc⟩ : MeM)).toArray 69) := ⟨_, rfl⟩
          have b5 : Below u3.heap.size u3 W5 := by rw [hW]; exact b4.alloc b4.size _
          have hx1 : Whole W5 g10 69 (mcl (⟨⟨K, m, E⟩, D, dc⟩ : MeM)).toArray := by rw [hW, hg]; exact Whole.here _ _ _
          have oM5 := oM4.alloc (.cells (mcl (⟨⟨K, m, E⟩, D, dc⟩ : MeM)).toArray 69)
          rw [← hW] at oM5
          have oB5 := oB4.alloc (.cells (mcl (⟨⟨K, m, E⟩, D, dc⟩ : MeM)).toArray 69)
          rw [← hW] at oB5
          refine step_buildSlice_mac (by rfl) _ (by rfl) (X := (⟨⟨K, m, E⟩, D, dc⟩ : MeM)) (by rfl) ?_
          rw [← hg, ← hW]
          clear hg hW
          clear hHeld
          have hHeld : (fun W : World => W.cell? ⟨w.heap.size, 34, none⟩ = some (.slice Am a.macs.length cm) ∧ W.rangeAt (w.heap.size + 1) 0 (K.map byt) ∧ W.rangeAt w2.heap.size 0 (E.map byt)) W5 := HCC.out _ b5
          refine hKK.out _ _ (.inr hHeld) trivial ?_
          clear hKK KK
          (try simp only [sq])
          refine AnyG_one (i := 11) (by kernel_rfl) rfl (fun KK hKK => ?_)
          refine step_append_seq (by rfl) _ _ 29 69 zmac 88 (by rfl) Tryd.underlying29 macInfo zmac_size (by omega) (by omega) mcl_len mcl_one u3.heap.size _ L1 (by rfl) oM5 _ (some ⟨g10, 0, none⟩) 1 1 [(⟨⟨K, m, E⟩, D, dc⟩ : MeM)] rfl (by rfl) (seq_one hx1 rfl hXok) (by have := HL1L.out; have := HLN.out; simp only [List.length_singleton]; omega) b5.size ?_
          intro vN W6 oM6 hbn hgn
          have oB6 := oB5.kept hgn (own_ne oB5 oM5 u8_ne_mac)
          have b6 := b5.trans hbn
          obtain ⟨A5, c5, rfl, hS5⟩ := OwnS.seq (ok := mok) oM6 (fun x hx => by
            rcases List.mem_append.1 hx with h | h
            · exact HS1.out.2.2.2.1 x h
            · rw [List.mem_singleton.1 h]; exact hXok)
          obtain ⟨D2, dc2, he2, hsB⟩ := OwnS.seq (ok := fun _ => True) oB6 (fun _ _ => trivial)
          injection he2 with q1 q2 q3
          subst q1 q3
          have hV := bytes_seq hsB
          have hn5 : (L1 ++ [(⟨⟨K, m, E⟩, D, dc⟩ : MeM)]).length = L1.length + 1 := by simp
          rw [hn5]
          clear hbn hgn q2 hsB hn5
          clear hHeld
          have hHeld : (fun W : World => W.cell? ⟨w.heap.size, 34, none⟩ = some (.slice Am a.macs.length cm) ∧ W.rangeAt (w.heap.size + 1) 0 (K.map byt) ∧ W.rangeAt w2.heap.size 0 (E.map byt)) W6 := HCC.out _ b6
          refine hKK.out _ _ (.inr hHeld) trivial ?_
          clear hKK KK
          (try simp only [sq])
          apply AnyG_pure (i := 12) rfl (by kernel_rfl) (by kernel_rfl) (by kernel_rfl) (by kernel_rfl)
          case hQ => exact fun _ _ _ h => h
          case hB => exact trivial
          case hC => exact .inr hHeld
          case hy => (refine Or.inl ⟨by rfl, ?_⟩; intro w hSw; (try go_split_ands); go_simp; (try with_reducible rfl))
          (try simp only [sq])
          refine AnyG_one (i := 13) (by kernel_rfl) rfl (fun KK hKK => ?_)
          (try simp only [sq])
          have hrW := Whole.below HRU.out b6 (by omega)
          have hf34 := ALRow.frees hrW 34
          have hc34 := hHeld.1
          obtain ⟨W7, hW⟩ : ∃ x, x = W6.setCell ⟨w.heap.size, 34, none⟩ (.slice A5 (L1.length + 1) c5) := ⟨_, rfl⟩
          have r1 := ALRow.set34 hrW (.slice A5 (L1.length + 1) c5)
          have r2 := (hS5.mono (Q' := fun g => p.heap.size ≤ g) fun g _ h => Nat.le_trans hp3 h).keep (w' := W7) (by rw [hW]; exact ((Below.refl 0 _).setCell (p := ⟨w.heap.size, 34, none⟩) (Nat.zero_le _) _).size) (fun g _ h => by rw [hW]; exact heap_setCell_other _ ⟨w.heap.size, 34, none⟩ g _ (by show g ≠ w.heap.size; omega))
          have r3 := (hV.mono (Q' := fun g => p.heap.size ≤ g) fun g _ h => Nat.le_trans hp3 h).keep (w' := W7) (fun g _ h => by rw [hW]; exact heap_setCell_other _ ⟨w.heap.size, 34, none⟩ g _ (by show g ≠ w.heap.size; omega))
          have r4 := Whole.far (Whole.below HT3.out b6 (by omega)) (a := ⟨w.heap.size, 34, none⟩) (by show w2.heap.size ≠ w.heap.size; omega) (.slice A5 (L1.length + 1) c5)
          have r5 := Whole.far (Whole.below (Whole.below H6.out HB3.out (by omega)) b6 (by omega)) (a := ⟨w.heap.size, 34, none⟩) (by show _ ≠ w.heap.size; omega) (.slice A5 (L1.length + 1) c5)
          have r6 := Whole.far (Whole.below (Whole.below H7.out HB3.out (by omega)) b6 (by omega)) (a := ⟨w.heap.size, 34, none⟩) (by show _ ≠ w.heap.size; omega) (.slice A5 (L1.length + 1) c5)
          have r7 := (HU3.out.trans (b6.mono (by omega))).setCell (p := ⟨w.heap.size, 34, none⟩) (Nat.le_refl _) (.slice A5 (L1.length + 1) c5)
          rw [← hW] at r1 r4 r5 r6 r7
          go_simp
          rw [← hW]
          clear hW
          refine hKK.out _ _ (.inl (by kernel_rfl)) trivial ?_
          clear hKK KK
          (try simp only [sq])
          refine AnyG_done (by kernel_rfl) ?_ _
          go_wp2_with fail
          go_meet
          exact ⟨A5, c5, D, dc, r1, r2, r3, r4, r5, r6, r7⟩
      case rest =>
        obtain ⟨A5, c5, D, dc, hr, hS5, hV, ht, h6, h7, hbw⟩ := hcut
        rename World => wc
        have HS5 := Lib.hid hS5
        have HV := Lib.hid hV
        have hru : ALRow wc.drew w.heap.size a.free a.seed a.fresh (.slice A5 (L1.length + 1) c5) (.slice Ab a.boxes.length cb) := Whole.drew hr
        have h6u : Whole wc.drew (w.heap.size + 1 + 1) 32 zar := Whole.drew h6
        have h7u : Whole wc.drew (w.heap.size + 1 + 1 + 1) 28 ztr := Whole.drew h7
        have htu : TGRow wc.drew w2.heap.size E := Whole.drew ht
        have bbu : Below w.heap.size w wc.drew := hbw.drew
        have kp0 : ∀ b, p.heap.size ≤ b → wc.drew.heap[b]? = wc.heap[b]? := fun b _ => rfl
        have sz0 : wc.heap.size ≤ wc.drew.heap.size := Nat.le_refl _
        clear hS5 hV hr ht h6 h7 hbw
        go_upto_region 12 with fail
        refine wp_region_held_drew (S := fun W => W.rangeAt w.heap.size 0 (alcl a.free a.seed a.fresh (.slice A5 (L1.length + 1) c5) (.slice Ab a.boxes.length cb)) ∧ W.rangeAt w2.heap.size 0 ((E).map byt)) (by kernel_rfl) (⟨Whole.range hru, TGRow.range htu⟩) (fun hHeld => ?_)
        apply wpT (i := 0) rfl (by kernel_rfl)
        case hQ => exact fun _ _ _ h => h
        case hS => exact hHeld
        case hy => exact yieldsIf_load_mid (by rfl) 32 _ rfl w.heap.size (0) rfl (alcl a.free a.seed a.fresh (.slice A5 (L1.length + 1) c5) (.slice Ab a.boxes.length cb)) _ (fun w hS => hS.1) Tryd.underlying32 rfl (by rw [algSize, alcl_length])
        (try simp only [sq])
        apply wpT (i := 1) rfl (by kernel_rfl)
        case hQ => exact fun _ _ _ h => h
        case hS => exact hHeld
        case hy => exact yieldsIf_load_mid (by rfl) 28 _ rfl w2.heap.size (0) rfl ((E).map byt) _ (fun w hS => hS.2) Tryd.underlying28 rfl (by rw [tagSize, tag_len (hEl)])
        (try simp only [sq])
        refine wpAnyH_ready (rs := [2]) (by kernel_rfl) (by simp) ?_
        refine AllReadyH.cons rfl (fun KK hKK => ?_) AllReadyH.nil
        (try simp only [sq])
        obtain ⟨X1, hX1⟩ : ∃ x, x = wc.drew.setRow (w.heap.size + 1 + 1) ((alcl a.free a.seed a.fresh (.slice A5 (L1.length + 1) c5) (.slice Ab a.boxes.length cb)).toArray) := ⟨_, rfl⟩
        have hsX1 : ALRow X1 w.heap.size a.free a.seed a.fresh (.slice A5 (L1.length + 1) c5) (.slice Ab a.boxes.length cb) := by rw [hX1]; exact Whole.setRow_far hru (by omega) _
        have e1 : Whole X1 (w.heap.size + 1 + 1) 32 (alc a.free a.seed a.fresh (.slice A5 (L1.length + 1) c5) (.slice Ab a.boxes.length cb)) := by rw [hX1]; exact Whole.setRow h6u _
        have h7X1 : Whole X1 (w.heap.size + 1 + 1 + 1) 28 ztr := by rw [hX1]; exact Whole.setRow_far h7u (by omega) _
        have bbX1 : Below w.heap.size w X1 := by rw [hX1]; exact below_setRow bbu (by omega) _
        have htX1 : TGRow X1 w2.heap.size (E) := by rw [hX1]; exact Whole.setRow_far htu (by omega) _
        have kpX1 : ∀ b, p.heap.size ≤ b → X1.heap[b]? = wc.heap[b]? := by rw [hX1]; exact fun b hb => (setRow_other _ _ b _ (by omega)).trans (kp0 b hb)
        have szX1 : wc.heap.size ≤ X1.heap.size := by rw [hX1]; exact Nat.le_trans sz0 (below_setRow (B := 0) (Below.refl 0 _) (Nat.zero_le _) _).size
        rw [if_pos (by kernel_rfl)]
        refine wp_store_row 32 _ _ rfl (w.heap.size + 1 + 1) _ rfl rfl 32 _ h6u (by rw [algSize, List.size_toArray, alcl_length]) (by rw [zar_size, List.size_toArray, alcl_length]) (alc_one _ _ _ _ _ _ _ _ _) ?_
        rw [← hX1]
        clear hX1
        refine hKK.out _ _ (⟨Whole.range hsX1, TGRow.range htX1⟩) (fun hHeld => ?_)
        clear hKK KK
        (try simp only [sq])
        refine wpAnyH_ready (rs := [3]) (by kernel_rfl) (by simp) ?_
        refine AllReadyH.cons rfl (fun KK hKK => ?_) AllReadyH.nil
        (try simp only [sq])
        have e1o := e1
        clear e1
        obtain ⟨X2, hX2⟩ : ∃ x, x = X1.setRow (w.heap.size + 1 + 1 + 1) (((E).map byt).toArray) := ⟨_, rfl⟩
        have hsX2 : ALRow X2 w.heap.size a.free a.seed a.fresh (.slice A5 (L1.length + 1) c5) (.slice Ab a.boxes.length cb) := by rw [hX2]; exact Whole.setRow_far hsX1 (by omega) _
        have e1 : Whole X2 (w.heap.size + 1 + 1) 32 (alc a.free a.seed a.fresh (.slice A5 (L1.length + 1) c5) (.slice Ab a.boxes.length cb)) := by rw [hX2]; exact Whole.setRow_far e1o (by omega) _
        have e2 : TGRow X2 (w.heap.size + 1 + 1 + 1) (E) := by rw [hX2]; exact Whole.setRow h7X1 _
        have bbX2 : Below w.heap.size w X2 := by rw [hX2]; exact below_setRow bbX1 (by omega) _
        have htX2 : TGRow X2 w2.heap.size (E) := by rw [hX2]; exact Whole.setRow_far htX1 (by omega) _
        have kpX2 : ∀ b, p.heap.size ≤ b → X2.heap[b]? = wc.heap[b]? := by rw [hX2]; exact fun b hb => (setRow_other _ _ b _ (by omega)).trans (kpX1 b hb)
        have szX2 : wc.heap.size ≤ X2.heap.size := by rw [hX2]; exact Nat.le_trans szX1 (below_setRow (B := 0) (Below.refl 0 _) (Nat.zero_le _) _).size
        rw [if_pos (by kernel_rfl)]
        refine wp_store_row 28 _ _ rfl (w.heap.size + 1 + 1 + 1) _ rfl rfl 28 _ h7X1 (by rw [tagSize, tag_size (hEl)]) (by rw [ztr_size, tag_size (hEl)]) (tag_one _) ?_
        rw [← hX2]
        clear hX2
        refine hKK.out _ _ (⟨Whole.range hsX2, TGRow.range htX2⟩) (fun hHeld => ?_)
        clear hKK KK
        (try simp only [sq])
        apply wpT (i := 4) rfl (by kernel_rfl)
        case hQ => exact fun _ _ _ h => h
        case hS => exact hHeld
        case hy => (refine Or.inl ⟨by rfl, ?_⟩; intro w hSw; (try go_split_ands); go_simp; (try with_reducible rfl))
        (try simp only [sq])
        refine wpAnyH_done (by kernel_rfl) ?_ _
        go_wp2_with fail
        have hbf := bbX2
        refine bodyPost_ret (results_alg3 Tryd.results23 _ rfl rfl _ rfl (alc_size _ _ _ _ _) (tag_size (hEl)) e1 e2) rfl ?_
        show AlgR _ _ _ R ∧ _
        rw [HRR.out, ← HE.out]
        refine ⟨⟨_, rfl, ?_⟩, hbf⟩
        have h := alv_more (a := a) (X := (⟨⟨K, m, E⟩, D, dc⟩ : MeM)) HL1.out (fun x hx => ((HB1.out x hx).below hbf (Nat.le_refl _)).mono fun _ _ h => .inl h) ((HS5.out.keep szX2 fun g _ hq => kpX2 g hq).mono fun g _ h => (by omega : w.heap.size ≤ g)) ((HV.out.keep fun g _ hq => kpX2 g hq).mono fun g _ h => (by omega : w.heap.size ≤ g)) (HBX.out.below hbf (Nat.le_refl _)) HA.out HLN.out
        rw [show (L1 ++ [(⟨⟨K, m, E⟩, D, dc⟩ : MeM)]).length = L1.length + 1 by simp] at h
        exact h
end Go.Proofs.YteekdhcffiaaaaaDoor
namespace Go.Proofs.YteekdhcffiaaaaaDoor
open Go Go.RowKit Sh Leaf
def DalgI (g h G : Nat) (w : World) (k : Nat) (wr : World) : Prop := ∃ (a : Alg) (Am : Option Addr) (cm : Nat) (Ab : Option Addr) (cb : Nat), (a.macs.length + k ≤ 4 ∧ a.boxes.length + k ≤ 4 ∧ a.fresh + (k : Int) ≤ 4 ∧ GoodA a) ∧
  AlV wr (fun b => b ≠ g ∧ b ≠ G ∧ b ≠ h ∧ h ≤ b) (.agg (alc a.free a.seed a.fresh (.slice Am a.macs.length cm) (.slice Ab a.boxes.length cb))) a ∧ ALRow wr G a.free a.seed a.fresh (.slice Am a.macs.length cm) (.slice Ab a.boxes.length cb) ∧ Whole wr h 32 zar ∧ Turn g w wr
theorem DalgI.store {g h G k : Nat} {w w7 : World} {a : Alg} {Am Ab : Option Addr} {cm cb : Nat} {cs : Array Value} (hbd : a.macs.length + k ≤ 4 ∧ a.boxes.length + k ≤ 4 ∧ a.fresh + (k : Int) ≤ 4 ∧ GoodA a)
    (hav : AlV w7 (fun b => b ≠ g ∧ b ≠ G ∧ b ≠ h ∧ h ≤ b) (.agg (alc a.free a.seed a.fresh (.slice Am a.macs.length cm) (.slice Ab a.boxes.length cb))) a) (hr : Whole w7 G 32 cs) (hz : Whole w7 h 32 zar) (ht : Turn g w w7) (hg : g < w.heap.size) (hG : w.heap.size ≤ G) (hh : h ≠ G) :
    DalgI g h G w k (w7.setRow G (alc a.free a.seed a.fresh (.slice Am a.macs.length cm) (.slice Ab a.boxes.length cb))) :=
  ⟨a, Am, cm, Ab, cb, hbd, hav.keep (below_setRow (B := 0) (Below.refl 0 _) (Nat.zero_le _) _).size fun b _ hq => setRow_other _ _ b _ hq.2.1, Whole.setRow hr _, Whole.setRow_far hz hh _,
    ht.below (below_setRow (B := w.heap.size) (Below.refl _ _) hG _) hg (Nat.le_refl _)⟩
theorem aMac_next0 {a : Alg} {k : Nat} {K m : List B8} (hm : m.length ≤ 4096) (h : a.macs.length + (k + 1) ≤ 4 ∧ a.boxes.length + (k + 1) ≤ 4 ∧ a.fresh + ((k + 1 : Nat) : Int) ≤ 4) : (aMac a K m).1.macs.length + k ≤ 4 ∧ (aMac a K m).1.boxes.length + k ≤ 4 ∧ (aMac a K m).1.fresh + (k : Int) ≤ 4 := by
  unfold aMac
  rw [if_neg (by omega)]
  cases fnd a.macs K m with
  | some t => exact ⟨by show a.macs.length + k ≤ 4; omega, by show a.boxes.length + k ≤ 4; omega, by show a.fresh + (k : Int) ≤ 4; omega⟩
  | none =>
    simp only
    rw [if_neg (by omega)]
    exact ⟨by show (a.macs ++ [_]).length + k ≤ 4; rw [List.length_append]; simp only [List.length_singleton]; omega, by show a.boxes.length + k ≤ 4; omega, by show a.fresh + (k : Int) ≤ 4; omega⟩
theorem aMac_next {a : Alg} {k : Nat} {K m : List B8} (hm : m.length ≤ 4096) (h : a.macs.length + (k + 1) ≤ 4 ∧ a.boxes.length + (k + 1) ≤ 4 ∧ a.fresh + ((k + 1 : Nat) : Int) ≤ 4 ∧ GoodA a) : (aMac a K m).1.macs.length + k ≤ 4 ∧ (aMac a K m).1.boxes.length + k ≤ 4 ∧ (aMac a K m).1.fresh + (k : Int) ≤ 4 ∧ GoodA (aMac a K m).1 := by
  obtain ⟨h1, h2, h3⟩ := aMac_next0 hm ⟨h.1, h.2.1, h.2.2.1⟩
  exact ⟨h1, h2, h3, good_mac h.2.2.2⟩
theorem aSeal_next0 {a : Alg} {k : Nat} {K m : List B8} {z : Int} (hm : m.length ≤ 256) (hz : 0 ≤ z ∧ z ≤ 100) (h : a.macs.length + (k + 1) ≤ 4 ∧ a.boxes.length + (k + 1) ≤ 4 ∧ a.fresh + ((k + 1 : Nat) : Int) ≤ 4) : (aSeal a K z m).1.macs.length + k ≤ 4 ∧ (aSeal a K z m).1.boxes.length + k ≤ 4 ∧ (aSeal a K z m).1.fresh + (k : Int) ≤ 4 := by
  unfold aSeal
  rw [if_neg (by omega), if_neg (by omega)]
  cases fndb a.boxes K z m with
  | some t => exact ⟨by show a.macs.length + k ≤ 4; omega, by show a.boxes.length + k ≤ 4; omega, by show a.fresh + (k : Int) ≤ 4; omega⟩
  | none =>
    simp only
    rw [if_neg (by omega)]
    exact ⟨by show a.macs.length + k ≤ 4; omega, by show (a.boxes ++ [_]).length + k ≤ 4; rw [List.length_append]; simp only [List.length_singleton]; omega, by show a.fresh + (k : Int) ≤ 4; omega⟩
theorem aSeal_next {a : Alg} {k : Nat} {K m : List B8} {z : Int} (hm : m.length ≤ 256) (hz : 0 ≤ z ∧ z ≤ 100) (h : a.macs.length + (k + 1) ≤ 4 ∧ a.boxes.length + (k + 1) ≤ 4 ∧ a.fresh + ((k + 1 : Nat) : Int) ≤ 4 ∧ GoodA a) : (aSeal a K z m).1.macs.length + k ≤ 4 ∧ (aSeal a K z m).1.boxes.length + k ≤ 4 ∧ (aSeal a K z m).1.fresh + (k : Int) ≤ 4 ∧ GoodA (aSeal a K z m).1 := by
  obtain ⟨h1, h2, h3⟩ := aSeal_next0 hm hz ⟨h.1, h.2.1, h.2.2.1⟩
  exact ⟨h1, h2, h3, good_seal h.2.2.2⟩
theorem aKey_next0 {a : Alg} {k : Nat} (h : a.macs.length + (k + 1) ≤ 4 ∧ a.boxes.length + (k + 1) ≤ 4 ∧ a.fresh + ((k + 1 : Nat) : Int) ≤ 4) : (aKey a).1.macs.length + k ≤ 4 ∧ (aKey a).1.boxes.length + k ≤ 4 ∧ (aKey a).1.fresh + (k : Int) ≤ 4 := by
  unfold aKey
  rw [if_neg (by omega)]
  exact ⟨by show a.macs.length + k ≤ 4; omega, by show a.boxes.length + k ≤ 4; omega, by show a.fresh + 1 + (k : Int) ≤ 4; omega⟩
theorem aKey_next {a : Alg} {k : Nat} (h : a.macs.length + (k + 1) ≤ 4 ∧ a.boxes.length + (k + 1) ≤ 4 ∧ a.fresh + ((k + 1 : Nat) : Int) ≤ 4 ∧ GoodA a) : (aKey a).1.macs.length + k ≤ 4 ∧ (aKey a).1.boxes.length + k ≤ 4 ∧ (aKey a).1.fresh + (k : Int) ≤ 4 ∧ GoodA (aKey a).1 := by
  obtain ⟨h1, h2, h3⟩ := aKey_next0  ⟨h.1, h.2.1, h.2.2.1⟩
  exact ⟨h1, h2, h3, good_key h.2.2.2⟩
set_option linter.unusedSimpArgs false in
set_option linter.unusedVariables false in
set_option maxRecDepth 100000 in
set_option maxHeartbeats 8000000 in
theorem dalgs (g : Nat) (w : World) (h : Deck g w) :
    Calls Tryd.prog 6 #[.pointer (some ⟨g, 0, none⟩)] w fun e w' => (∃ x a, e = .returned x ∧ AlV w' (fun b => b ≠ g ∧ w.heap.size ≤ b) x a ∧ a.macs.length ≤ 4 ∧ a.boxes.length ≤ 4 ∧ a.fresh ≤ 4 ∧ GoodA a) ∧ Turn g w w' := by
  have hgw := h.lt
  obtain ⟨p, hp⟩ : ∃ p, p = w.alloc (.cells zar 32) := ⟨_, rfl⟩
  have hb : Below w.heap.size w p := by rw [hp]; exact (Below.refl _ _).alloc (Nat.le_refl _) _
  have hz : Whole p w.heap.size 32 zar := by rw [hp]; exact Whole.here _ _ _
  have HTP := Lib.hid (h.here hb)
  have HZ := Lib.hid hz
  have hps : w.heap.size < p.heap.size := hz.lt
  have hnx := dnext 2 (by omega) (by omega) g p (h.below hb hgw)
  clear h hb hz
  go_enter Tryd.func6, Tryd.ntmps6
  go_upto_region 1 with fail
  rw [zar_lit, ← hp]
  clear hp
  go_wp2_with fail
  refine hnx.mono ?_
  rintro e w1 ⟨i, hi, rfl, ht1⟩
  have HT1 := Lib.hid (HTP.out.trans ht1)
  have HZ1 : Hid (Whole w1 w.heap.size 32 zar) := Lib.hid (ht1.2.2.oth _ _ _ (by omega) HZ.out)
  have hdt := dtag g w1 ht1.1
  clear hnx ht1
  go_wp2_with fail
  refine hdt.mono ?_
  rintro e w2 ⟨⟨K, hK, rfl⟩, ht2⟩
  have HT2 := Lib.hid (HT1.out.trans ht2)
  have HZ2 : Hid (Whole w2 w.heap.size 32 zar) := Lib.hid (ht2.2.2.oth _ _ _ (by omega) HZ1.out)
  have hs2 : w.heap.size < w2.heap.size := HZ2.out.lt
  have hnw := rnew ((i : Int) == 0) hK w2 (fun _ => False)
  clear hdt ht2
  go_wp2_with fail
  refine hnw.mono ?_
  rintro e w3 ⟨⟨v, rfl, hv⟩, hb3⟩
  obtain ⟨a, ha⟩ : ∃ a : Alg, a = ⟨((i : Int) == 0), K, 0, [], []⟩ := ⟨_, rfl⟩
  rw [← ha] at hv
  have HAA := Lib.hid ha
  clear ha
  obtain ⟨Am, cm, Ab, cb, rfl, hM, hBx, hA⟩ := hv
  have hs3 : w2.heap.size ≤ w3.heap.size := hb3.size
  clear hnw
  go_upto_region 2 with (with_reducible refine wpList_store_alg rfl _ _ rfl (g := w3.heap.size) rfl rfl (Whole.here w3 _ _) rfl (alc_size _ _ _ _ _) (alc_one _ _ _ _ _ _ _ _ _) ?_)
  rw [zar_lit]
  obtain ⟨w4, hw4⟩ : ∃ x, x = (w3.alloc (.cells zar 32)).setRow w3.heap.size (alc a.free a.seed a.fresh (.slice Am a.macs.length cm) (.slice Ab a.boxes.length cb)) := ⟨_, rfl⟩
  have hb4 : Below w3.heap.size w3 w4 := by rw [hw4]; exact below_setRow ((Below.refl _ _).alloc (Nat.le_refl _) _) (Nat.le_refl _) _
  have hr4 : ALRow w4 w3.heap.size a.free a.seed a.fresh (.slice Am a.macs.length cm) (.slice Ab a.boxes.length cb) := by rw [hw4]; exact Whole.setRow (Whole.here _ _ _) _
  rw [← hw4]
  clear hw4
  simp only [Act.put]
  obtain ⟨G, hG⟩ : ∃ G, G = w3.heap.size := ⟨_, rfl⟩
  rw [← hG] at hr4 ⊢
  have hgG : g < w.heap.size ∧ w.heap.size < G ∧ G < w4.heap.size := by have := hr4.lt; omega
  have HAV : Hid (AlV w4 (fun b => b ≠ g ∧ b ≠ G ∧ b ≠ w.heap.size ∧ w.heap.size ≤ b) (.agg (alc a.free a.seed a.fresh (.slice Am a.macs.length cm) (.slice Ab a.boxes.length cb))) a) := Lib.hid (AlV.mono (AlV.below ⟨Am, cm, Ab, cb, rfl, hM, hBx, hA⟩ hb4 (Nat.le_refl _)) fun _ _ h => h.elim)
  have HT4 : Hid (Turn g w w4) := Lib.hid ((HT2.out.below hb3 (by omega) (by omega)).below hb4 (by omega) (by omega))
  have HR4 := Lib.hid hr4
  have HZ4 : Hid (Whole w4 w.heap.size 32 zar) := Lib.hid (Whole.below (Whole.below HZ2.out hb3 hs2) hb4 (by omega))
  have hn5 := dnext 5 (by omega) (by omega) g w4 HT4.out.1
  have HAS : Hid (a.macs.length = 0 ∧ a.boxes.length = 0 ∧ a.fresh = 0 ∧ GoodA a) := Lib.hid (by rw [HAA.out]; exact ⟨rfl, rfl, rfl, good_new _ _⟩)
  clear hM hBx hA hb3 hb4 hr4 hG
  go_wp2_with fail
  refine hn5.mono ?_
  rintro e w5 ⟨k0, hk0, rfl, ht5⟩
  clear hn5
  have HT5 := Lib.hid (HT4.out.trans ht5)
  have HAV5 := Lib.hid (HAV.out.oth ht5.2.2 ht5.2.1.size fun _ h => h.1)
  have HR5 : Hid (ALRow w5 G a.free a.seed a.fresh (.slice Am a.macs.length cm) (.slice Ab a.boxes.length cb)) := Lib.hid (ht5.2.2.oth _ _ _ (by omega) HR4.out)
  have HZ5 : Hid (Whole w5 w.heap.size 32 zar) := Lib.hid (ht5.2.2.oth _ _ _ (by omega) HZ4.out)
  clear ht5
  have HI5 : Hid (DalgI g w.heap.size G w k0 w5) := Lib.hid ⟨a, Am, cm, Ab, cb, ⟨by have := HAS.out; omega, by have := HAS.out; omega, by have := HAS.out; omega, HAS.out.2.2.2⟩, HAV5.out, HR5.out, HZ5.out, HT5.out⟩
  have hgG2 : g < w.heap.size ∧ w.heap.size < G := ⟨hgG.1, hgG.2.1⟩
  clear HAV5 HR5 HZ5 HT5 HAV HR4 HZ4 HT4 HAS HAA hgG HT2 HZ2 HT1 HZ1
  go_wp2_with fail
  go_loopw [4] (fun v wr => ∃ k : Nat, v = .int .i64 k ∧ k ≤ 4 ∧ DalgI g w.heap.size G w k wr) (fun v _ => (intOf v).toNat)
  case atStart => exact ⟨k0, rfl, by omega, HI5.out⟩
  case round =>
    clear HI5
    obtain ⟨k, rfl, hk, a, Am, cm, Ab, cb, hbd, hav, hr, hz, ht⟩ := hrel
    have HAV := Lib.hid hav
    have HR := Lib.hid hr
    have HZ := Lib.hid hz
    have HT := Lib.hid ht
    have HBD := Lib.hid hbd
    clear hav hr hz ht hbd
    by_cases hk0 : k = 0
    case pos =>
      subst hk0
      have h3 := Whole.setRow HZ.out (alc a.free a.seed a.fresh (.slice Am a.macs.length cm) (.slice Ab a.boxes.length cb))
      have HB3 := Lib.hid (below_setRow (B := w.heap.size) (Below.refl w.heap.size wr) (Nat.le_refl _) (alc a.free a.seed a.fresh (.slice Am a.macs.length cm) (.slice Ab a.boxes.length cb)))
      have HAV3 : Hid (AlV (wr.setRow w.heap.size (alc a.free a.seed a.fresh (.slice Am a.macs.length cm) (.slice Ab a.boxes.length cb))) (fun b => b ≠ g ∧ w.heap.size ≤ b) (.agg (alc a.free a.seed a.fresh (.slice Am a.macs.length cm) (.slice Ab a.boxes.length cb))) a) := Lib.hid ((HAV.out.keep (below_setRow (B := 0) (Below.refl 0 _) (Nat.zero_le _) _).size fun b _ hq => setRow_other _ _ b _ hq.2.2.1).mono fun b _ hq => ⟨hq.1, hq.2.2.2⟩)
      go_wp2_with (first
        | (with_reducible refine wpList_load_alg rfl _ rfl rfl HR.out (alc_size _ _ _ _ _) ?_)
        | (with_reducible refine wpList_store_alg rfl _ _ rfl (g := w.heap.size) rfl rfl HZ.out zar_size (alc_size _ _ _ _ _) (alc_one _ _ _ _ _ _ _ _ _) ?_))
      refine bodyPost_ret (results_cell_row Tryd.results6 _ _ w.heap.size _ _ _ _ rfl h3 Tryd.underlying32 rfl (by rw [algSize, alc_size])) rfl ?_
      exact ⟨⟨_, a, rfl, HAV3.out, by have := HBD.out; omega, by have := HBD.out; omega, by have := HBD.out; omega, HBD.out.2.2.2⟩, HT.out.below HB3.out hgG2.1 (Nat.le_refl _)⟩
    obtain ⟨k1, rfl⟩ : ∃ k1, k = k1 + 1 := ⟨k - 1, by omega⟩
    have hn3 := dnext 3 (by omega) (by omega) g wr HT.out.1
    have hkp : (0 : Int) < (k1 : Int) + 1 := by omega
    go_wp2_with fail
    refine hn3.mono ?_
    rintro e w6 ⟨i3, hi3, rfl, ht6⟩
    clear hn3
    have HT6 := Lib.hid (HT.out.trans ht6)
    have HAV6 := Lib.hid (HAV.out.oth ht6.2.2 ht6.2.1.size fun _ h => h.1)
    have HR6 : Hid (ALRow w6 G a.free a.seed a.fresh (.slice Am a.macs.length cm) (.slice Ab a.boxes.length cb)) := Lib.hid (ht6.2.2.oth _ _ _ (by omega) HR.out)
    have HZ6 : Hid (Whole w6 w.heap.size 32 zar) := Lib.hid (ht6.2.2.oth _ _ _ (by omega) HZ.out)
    have hGs : G < w6.heap.size := HR6.out.lt
    clear ht6 HT HAV HR HZ
    rcases (by omega : i3 = 0 ∨ i3 = 1 ∨ i3 = 2) with rfl | rfl | rfl
    · have hky := rkey HAV6.out
      go_wp2_with (with_reducible refine wpList_load_alg rfl _ rfl rfl HR6.out (alc_size _ _ _ _ _) ?_)
      refine hky.mono ?_
      rintro e w7 ⟨⟨x, rfl, hx⟩, hb7⟩
      clear hky
      obtain ⟨a', ha'⟩ : ∃ a', a' = (aKey a).1 := ⟨_, rfl⟩
      have hbd := aKey_next HBD.out
      rw [← ha'] at hx hbd
      obtain ⟨Am', cm', Ab', cb', rfl, hM, hBx, hA⟩ := hx
      have HE := Lib.hid (DalgI.store hbd ⟨Am', cm', Ab', cb', rfl, hM, hBx, hA⟩ (Whole.below HR6.out hb7 hGs) (Whole.below HZ6.out hb7 (by omega)) (HT6.out.below hb7 (by omega) HT6.out.2.1.size) hgG2.1 (by omega) (by omega))
      have hr7 := Whole.below HR6.out hb7 hGs
      clear hM hBx hA ha' hb7
      go_wp2_with (with_reducible refine wpList_store_alg rfl _ _ rfl (g := G) rfl rfl hr7 (alc_size _ _ _ _ _) (alc_size _ _ _ _ _) (alc_one _ _ _ _ _ _ _ _ _) ?_)
      go_roundw
      case rel => exact ⟨k1, by go_num, by omega, HE.out⟩
      case measure => simp [intOf]
    · skip
      go_upto_region 9 with fail
      have hdk := HT6.out.1.drew
      have HT0 : Hid (Turn g w w6.drew) := Lib.hid (HT6.out.trans ⟨hdk, (Below.refl _ _).drew, (Oth.refl g w6).drew⟩)
      have HAV0 := Lib.hid (HAV6.out.keep (w' := w6.drew) (Nat.le_refl _) fun _ _ _ => rfl)
      have HR0 : Hid (ALRow w6.drew G a.free a.seed a.fresh (.slice Am a.macs.length cm) (.slice Ab a.boxes.length cb)) := Lib.hid (Whole.drew HR6.out)
      have HZ0 : Hid (Whole w6.drew w.heap.size 32 zar) := Lib.hid (Whole.drew HZ6.out)
      clear hdk
      refine wp_region_G (fun W : World => W.rangeAt G 0 (alcl a.free a.seed a.fresh (.slice Am a.macs.length cm) (.slice Ab a.boxes.length cb))) (fun _ => True) [11] (by kernel_rfl) ?_
      generalize w6.drew = U0 at HT0 HAV0 HR0 HZ0 ⊢
      have hHeld : (fun W : World => W.rangeAt G 0 (alcl a.free a.seed a.fresh (.slice Am a.macs.length cm) (.slice Ab a.boxes.length cb))) U0 := Whole.range HR0.out
      apply AnyG_take (i := 0) rfl (by kernel_rfl) (by kernel_rfl) (by kernel_rfl) (by kernel_rfl)
      case hQ => exact fun _ _ _ h => h
      case hB => exact trivial
      case hC => exact hHeld
      case hy => exact yieldsIf_load_mid (by rfl) 32 _ rfl G (0) rfl (alcl a.free a.seed a.fresh (.slice Am a.macs.length cm) (.slice Ab a.boxes.length cb)) _ (fun w hS => hS) Tryd.underlying32 rfl (by rw [algSize, alcl_length])
      (try simp only [sq])
      apply AnyG_pure (i := 1) rfl (by kernel_rfl) (by kernel_rfl) (by kernel_rfl) (by kernel_rfl)
      case hQ => exact fun _ _ _ h => h
      case hB => exact trivial
      case hC => exact .inr hHeld
      case hy => (refine Or.inl ⟨by rfl, ?_⟩; intro w hSw; (try go_split_ands); go_simp; (try with_reducible rfl))
      (try simp only [sq])
      apply AnyG_take (i := 2) rfl (by kernel_rfl) (by kernel_rfl) (by kernel_rfl) (by kernel_rfl)
      case hQ => exact fun _ _ _ h => h
      case hB => exact trivial
      case hC => exact hHeld
      case hy => exact yieldsIf_load_mid (by rfl) 32 _ rfl G (0) rfl (alcl a.free a.seed a.fresh (.slice Am a.macs.length cm) (.slice Ab a.boxes.length cb)) _ (fun w hS => hS) Tryd.underlying32 rfl (by rw [algSize, alcl_length])
      (try simp only [sq])
      apply AnyG_pure (i := 4) rfl (by kernel_rfl) (by kernel_rfl) (by kernel_rfl) (by kernel_rfl)
      case hQ => exact fun _ _ _ h => h
      case hB => exact trivial
      case hC => exact .inr hHeld
      case hy => (refine Or.inl ⟨by rfl, ?_⟩; intro w hSw; (try go_split_ands); go_simp; (try with_reducible rfl))
      (try simp only [sq])
      refine AnyG_one (i := 3) (by kernel_rfl) rfl (fun KK hKK => ?_)
      (try simp only [sq])
      go_simp
      go_at_call 24
      refine (dknown g U0 HT0.out.1 HAV0.out (fun _ h => h.1)).mono ?_
      rintro e U1 ⟨⟨K1, hK1, rfl⟩, ht1⟩
      have HT1 := Lib.hid (HT0.out.trans ht1)
      have HAV1 := Lib.hid (HAV0.out.oth ht1.2.2 ht1.2.1.size fun _ h => h.1)
      have HR1 : Hid (ALRow U1 G a.free a.seed a.fresh (.slice Am a.macs.length cm) (.slice Ab a.boxes.length cb)) := Lib.hid (ht1.2.2.oth _ _ _ (by omega) HR0.out)
      have HZ1 : Hid (Whole U1 w.heap.size 32 zar) := Lib.hid (ht1.2.2.oth _ _ _ (by omega) HZ0.out)
      clear ht1
      clear hHeld
      have hHeld : (fun W : World => W.rangeAt G 0 (alcl a.free a.seed a.fresh (.slice Am a.macs.length cm) (.slice Ab a.boxes.length cb))) U1 := Whole.range HR1.out
      refine hKK.out _ _ (.inr hHeld) trivial ?_
      clear hKK KK
      (try simp only [sq])
      refine AnyG_one (i := 5) (by kernel_rfl) rfl (fun KK hKK => ?_)
      (try simp only [sq])
      go_simp
      go_at_call 25
      refine (dbytes 6 (by omega) g U1 HT1.out.1).mono ?_
      rintro e U2 ⟨⟨B1, cc1, l1, hl1, rfl, hy1⟩, ht2⟩
      have HT2 := Lib.hid (HT1.out.trans ht2)
      have HAV2 := Lib.hid (HAV1.out.oth ht2.2.2 ht2.2.1.size fun _ h => h.1)
      have HR2 : Hid (ALRow U2 G a.free a.seed a.fresh (.slice Am a.macs.length cm) (.slice Ab a.boxes.length cb)) := Lib.hid (ht2.2.2.oth _ _ _ (by omega) HR1.out)
      have HZ2 : Hid (Whole U2 w.heap.size 32 zar) := Lib.hid (ht2.2.2.oth _ _ _ (by omega) HZ1.out)
      clear ht2
      clear hHeld
      have hHeld : (fun W : World => W.rangeAt G 0 (alcl a.free a.seed a.fresh (.slice Am a.macs.length cm) (.slice Ab a.boxes.length cb))) U2 := Whole.range HR2.out
      refine hKK.out _ _ (.inr hHeld) trivial ?_
      clear hKK KK
      (try simp only [sq])
      refine AnyG_one (i := 6) (by kernel_rfl) rfl (fun KK hKK => ?_)
      (try simp only [sq])
      go_simp
      have hgs : G < U2.heap.size := HR2.out.lt
      go_at_call 23
      refine (rmac HAV2.out (by have := HBD.out; omega) hK1 hy1 (by omega)).mono ?_
      rintro e U9 ⟨⟨x, rfl, hx⟩, hb9⟩
      have hx := hx.mono (Q' := fun b => b ≠ g ∧ b ≠ G ∧ b ≠ w.heap.size ∧ w.heap.size ≤ b) fun b _ hq => hq.elim id fun hq => ⟨by omega, by omega, by omega, by omega⟩
      have hbd := aMac_next (K := K1) (m := l1) (by omega) HBD.out
      obtain ⟨a', ha'⟩ : ∃ a', a' = (aMac a K1 l1).1 := ⟨_, rfl⟩
      rw [← ha'] at hx hbd
      clear ha'
      obtain ⟨Am', cm', Ab', cb', rfl, hM, hBx, hA⟩ := hx
      have hr9 := Whole.below HR2.out hb9 hgs
      have HE := Lib.hid (DalgI.store hbd ⟨Am', cm', Ab', cb', rfl, hM, hBx, hA⟩ hr9 (Whole.below HZ2.out hb9 (by omega)) (HT2.out.below hb9 (by omega) HT2.out.2.1.size) hgG2.1 (by omega) (by omega))
      have hrr := Whole.range hr9
      clear hM hBx hA hb9 hbd
      clear hHeld
      have hHeld : (fun W : World => W.rangeAt G 0 (alcl a.free a.seed a.fresh (.slice Am a.macs.length cm) (.slice Ab a.boxes.length cb))) U9 := hrr
      refine hKK.out _ _ (.inr hHeld) trivial ?_
      clear hKK KK
      (try simp only [sq])
      apply AnyG_pure (i := 7) rfl (by kernel_rfl) (by kernel_rfl) (by kernel_rfl) (by kernel_rfl)
      case hQ => exact fun _ _ _ h => h
      case hB => exact trivial
      case hC => exact .inr hHeld
      case hy => (refine Or.inl ⟨by rfl, ?_⟩; intro w hSw; (try go_split_ands); go_simp; (try with_reducible rfl))
      (try simp only [sq])
      apply AnyG_pure (i := 8) rfl (by kernel_rfl) (by kernel_rfl) (by kernel_rfl) (by kernel_rfl)
      case hQ => exact fun _ _ _ h => h
      case hB => exact trivial
      case hC => exact .inr hHeld
      case hy => (refine Or.inl ⟨by rfl, ?_⟩; intro w hSw; (try go_split_ands); go_simp; (try with_reducible rfl))
      (try simp only [sq])
      apply AnyG_pure (i := 9) rfl (by kernel_rfl) (by kernel_rfl) (by kernel_rfl) (by kernel_rfl)
      case hQ => exact fun _ _ _ h => h
      case hB => exact trivial
      case hC => exact .inr hHeld
      case hy => (refine Or.inl ⟨by rfl, ?_⟩; intro w hSw; (try go_split_ands); go_simp; (try with_reducible rfl))
      (try simp only [sq])
      apply AnyG_pure (i := 10) rfl (by kernel_rfl) (by kernel_rfl) (by kernel_rfl) (by kernel_rfl)
      case hQ => exact fun _ _ _ h => h
      case hB => exact trivial
      case hC => exact .inr hHeld
      case hy => (refine Or.inl ⟨by rfl, ?_⟩; intro w hSw; (try go_split_ands); go_simp; (try with_reducible rfl))
      (try simp only [sq])
      refine AnyG_one (i := 11) (by kernel_rfl) rfl (fun KK hKK => ?_)
      (try simp only [sq])
      obtain ⟨W5, hW5⟩ : ∃ x, x = U9.setRow G (alc a'.free a'.seed a'.fresh (.slice Am' a'.macs.length cm') (.slice Ab' a'.boxes.length cb')) := ⟨_, rfl⟩
      rw [← hW5] at HE
      rw [if_pos (by kernel_rfl)]
      refine wp_store_row 32 _ _ rfl G _ rfl rfl 32 _ hr9 (by rw [algSize, alc_size]) (by rw [alc_size, alc_size]) (alc_one _ _ _ _ _ _ _ _ _) ?_
      rw [← hW5]
      clear hW5
      refine hKK.out _ _ (.inl (by kernel_rfl)) trivial ?_
      clear hKK KK
      (try simp only [sq])
      refine AnyG_done (by kernel_rfl) ?_ _
      clear hHeld hrr hr9
      go_wp2_with fail
      go_roundw
      case rel => exact ⟨k1, by go_num, by omega, HE.out⟩
      case measure => simp [intOf]
    · skip
      go_upto_region 11 with fail
      have hdk := HT6.out.1.drew
      have HT0 : Hid (Turn g w w6.drew) := Lib.hid (HT6.out.trans ⟨hdk, (Below.refl _ _).drew, (Oth.refl g w6).drew⟩)
      have HAV0 := Lib.hid (HAV6.out.keep (w' := w6.drew) (Nat.le_refl _) fun _ _ _ => rfl)
      have HR0 : Hid (ALRow w6.drew G a.free a.seed a.fresh (.slice Am a.macs.length cm) (.slice Ab a.boxes.length cb)) := Lib.hid (Whole.drew HR6.out)
      have HZ0 : Hid (Whole w6.drew w.heap.size 32 zar) := Lib.hid (Whole.drew HZ6.out)
      clear hdk
      refine wp_region_G (fun W : World => W.rangeAt G 0 (alcl a.free a.seed a.fresh (.slice Am a.macs.length cm) (.slice Ab a.boxes.length cb))) (fun _ => True) [13] (by kernel_rfl) ?_
      generalize w6.drew = U0 at HT0 HAV0 HR0 HZ0 ⊢
      have hHeld : (fun W : World => W.rangeAt G 0 (alcl a.free a.seed a.fresh (.slice Am a.macs.length cm) (.slice Ab a.boxes.length cb))) U0 := Whole.range HR0.out
      apply AnyG_take (i := 0) rfl (by kernel_rfl) (by kernel_rfl) (by kernel_rfl) (by kernel_rfl)
      case hQ => exact fun _ _ _ h => h
      case hB => exact trivial
      case hC => exact hHeld
      case hy => exact yieldsIf_load_mid (by rfl) 32 _ rfl G (0) rfl (alcl a.free a.seed a.fresh (.slice Am a.macs.length cm) (.slice Ab a.boxes.length cb)) _ (fun w hS => hS) Tryd.underlying32 rfl (by rw [algSize, alcl_length])
      (try simp only [sq])
      apply AnyG_pure (i := 1) rfl (by kernel_rfl) (by kernel_rfl) (by kernel_rfl) (by kernel_rfl)
      case hQ => exact fun _ _ _ h => h
      case hB => exact trivial
      case hC => exact .inr hHeld
      case hy => (refine Or.inl ⟨by rfl, ?_⟩; intro w hSw; (try go_split_ands); go_simp; (try with_reducible rfl))
      (try simp only [sq])
      apply AnyG_take (i := 2) rfl (by kernel_rfl) (by kernel_rfl) (by kernel_rfl) (by kernel_rfl)
      case hQ => exact fun _ _ _ h => h
      case hB => exact trivial
      case hC => exact hHeld
      case hy => exact yieldsIf_load_mid (by rfl) 32 _ rfl G (0) rfl (alcl a.free a.seed a.fresh (.slice Am a.macs.length cm) (.slice Ab a.boxes.length cb)) _ (fun w hS => hS) Tryd.underlying32 rfl (by rw [algSize, alcl_length])
      (try simp only [sq])
      apply AnyG_pure (i := 4) rfl (by kernel_rfl) (by kernel_rfl) (by kernel_rfl) (by kernel_rfl)
      case hQ => exact fun _ _ _ h => h
      case hB => exact trivial
      case hC => exact .inr hHeld
      case hy => (refine Or.inl ⟨by rfl, ?_⟩; intro w hSw; (try go_split_ands); go_simp; (try with_reducible rfl))
      (try simp only [sq])
      apply AnyG_pure (i := 6) rfl (by kernel_rfl) (by kernel_rfl) (by kernel_rfl) (by kernel_rfl)
      case hQ => exact fun _ _ _ h => h
      case hB => exact trivial
      case hC => exact .inr hHeld
      case hy => (refine Or.inl ⟨by rfl, ?_⟩; intro w hSw; (try go_split_ands); go_simp; (try with_reducible rfl))
      (try simp only [sq])
      refine AnyG_one (i := 3) (by kernel_rfl) rfl (fun KK hKK => ?_)
      (try simp only [sq])
      go_simp
      go_at_call 24
      refine (dknown g U0 HT0.out.1 HAV0.out (fun _ h => h.1)).mono ?_
      rintro e U1 ⟨⟨K1, hK1, rfl⟩, ht1⟩
      have HT1 := Lib.hid (HT0.out.trans ht1)
      have HAV1 := Lib.hid (HAV0.out.oth ht1.2.2 ht1.2.1.size fun _ h => h.1)
      have HR1 : Hid (ALRow U1 G a.free a.seed a.fresh (.slice Am a.macs.length cm) (.slice Ab a.boxes.length cb)) := Lib.hid (ht1.2.2.oth _ _ _ (by omega) HR0.out)
      have HZ1 : Hid (Whole U1 w.heap.size 32 zar) := Lib.hid (ht1.2.2.oth _ _ _ (by omega) HZ0.out)
      clear ht1
      clear hHeld
      have hHeld : (fun W : World => W.rangeAt G 0 (alcl a.free a.seed a.fresh (.slice Am a.macs.length cm) (.slice Ab a.boxes.length cb))) U1 := Whole.range HR1.out
      refine hKK.out _ _ (.inr hHeld) trivial ?_
      clear hKK KK
      (try simp only [sq])
      refine AnyG_one (i := 5) (by kernel_rfl) rfl (fun KK hKK => ?_)
      (try simp only [sq])
      go_simp
      go_at_call 15
      refine (dnext 4 (by omega) (by omega) g U1 HT1.out.1).mono ?_
      rintro e U2 ⟨z2, hz2, rfl, ht2⟩
      have HT2 := Lib.hid (HT1.out.trans ht2)
      have HAV2 := Lib.hid (HAV1.out.oth ht2.2.2 ht2.2.1.size fun _ h => h.1)
      have HR2 : Hid (ALRow U2 G a.free a.seed a.fresh (.slice Am a.macs.length cm) (.slice Ab a.boxes.length cb)) := Lib.hid (ht2.2.2.oth _ _ _ (by omega) HR1.out)
      have HZ2 : Hid (Whole U2 w.heap.size 32 zar) := Lib.hid (ht2.2.2.oth _ _ _ (by omega) HZ1.out)
      clear ht2
      clear hHeld
      have hHeld : (fun W : World => W.rangeAt G 0 (alcl a.free a.seed a.fresh (.slice Am a.macs.length cm) (.slice Ab a.boxes.length cb))) U2 := Whole.range HR2.out
      refine hKK.out _ _ (.inr hHeld) trivial ?_
      clear hKK KK
      (try simp only [sq])
      refine AnyG_one (i := 7) (by kernel_rfl) rfl (fun KK hKK => ?_)
      (try simp only [sq])
      go_simp
      go_at_call 25
      refine (dbytes 40 (by omega) g U2 HT2.out.1).mono ?_
      rintro e U3 ⟨⟨B1, cc1, l1, hl1, rfl, hy1⟩, ht3⟩
      have HT3 := Lib.hid (HT2.out.trans ht3)
      have HAV3 := Lib.hid (HAV2.out.oth ht3.2.2 ht3.2.1.size fun _ h => h.1)
      have HR3 : Hid (ALRow U3 G a.free a.seed a.fresh (.slice Am a.macs.length cm) (.slice Ab a.boxes.length cb)) := Lib.hid (ht3.2.2.oth _ _ _ (by omega) HR2.out)
      have HZ3 : Hid (Whole U3 w.heap.size 32 zar) := Lib.hid (ht3.2.2.oth _ _ _ (by omega) HZ2.out)
      clear ht3
      clear hHeld
      have hHeld : (fun W : World => W.rangeAt G 0 (alcl a.free a.seed a.fresh (.slice Am a.macs.length cm) (.slice Ab a.boxes.length cb))) U3 := Whole.range HR3.out
      refine hKK.out _ _ (.inr hHeld) trivial ?_
      clear hKK KK
      (try simp only [sq])
      refine AnyG_one (i := 8) (by kernel_rfl) rfl (fun KK hKK => ?_)
      (try simp only [sq])
      go_simp
      have hgs : G < U3.heap.size := HR3.out.lt
      go_at_call 17
      refine (rseal (z := (z2 : Int)) HAV3.out (by have := HBD.out; omega) hK1 (show i64q (z2 : Int) from ⟨by omega, by omega⟩) hy1 (by omega)).mono ?_
      rintro e U9 ⟨⟨x, vb, rfl, hx, -⟩, hb9⟩
      have hx := hx.mono (Q' := fun b => b ≠ g ∧ b ≠ G ∧ b ≠ w.heap.size ∧ w.heap.size ≤ b) fun b _ hq => hq.elim id fun hq => ⟨by omega, by omega, by omega, by omega⟩
      have hbd := aSeal_next (K := K1) (m := l1) (z := (z2 : Int)) (by omega) ⟨by omega, by omega⟩ HBD.out
      obtain ⟨a', ha'⟩ : ∃ a', a' = (aSeal a K1 (z2 : Int) l1).1 := ⟨_, rfl⟩
      rw [← ha'] at hx hbd
      clear ha'
      obtain ⟨Am', cm', Ab', cb', rfl, hM, hBx, hA⟩ := hx
      have hr9 := Whole.below HR3.out hb9 hgs
      have HE := Lib.hid (DalgI.store hbd ⟨Am', cm', Ab', cb', rfl, hM, hBx, hA⟩ hr9 (Whole.below HZ3.out hb9 (by omega)) (HT3.out.below hb9 (by omega) HT3.out.2.1.size) hgG2.1 (by omega) (by omega))
      have hrr := Whole.range hr9
      clear hM hBx hA hb9 hbd
      clear hHeld
      have hHeld : (fun W : World => W.rangeAt G 0 (alcl a.free a.seed a.fresh (.slice Am a.macs.length cm) (.slice Ab a.boxes.length cb))) U9 := hrr
      refine hKK.out _ _ (.inr hHeld) trivial ?_
      clear hKK KK
      (try simp only [sq])
      apply AnyG_pure (i := 9) rfl (by kernel_rfl) (by kernel_rfl) (by kernel_rfl) (by kernel_rfl)
      case hQ => exact fun _ _ _ h => h
      case hB => exact trivial
      case hC => exact .inr hHeld
      case hy => (refine Or.inl ⟨by rfl, ?_⟩; intro w hSw; (try go_split_ands); go_simp; (try with_reducible rfl))
      (try simp only [sq])
      apply AnyG_pure (i := 10) rfl (by kernel_rfl) (by kernel_rfl) (by kernel_rfl) (by kernel_rfl)
      case hQ => exact fun _ _ _ h => h
      case hB => exact trivial
      case hC => exact .inr hHeld
      case hy => (refine Or.inl ⟨by rfl, ?_⟩; intro w hSw; (try go_split_ands); go_simp; (try with_reducible rfl))
      (try simp only [sq])
      apply AnyG_pure (i := 11) rfl (by kernel_rfl) (by kernel_rfl) (by kernel_rfl) (by kernel_rfl)
      case hQ => exact fun _ _ _ h => h
      case hB => exact trivial
      case hC => exact .inr hHeld
      case hy => (refine Or.inl ⟨by rfl, ?_⟩; intro w hSw; (try go_split_ands); go_simp; (try with_reducible rfl))
      (try simp only [sq])
      apply AnyG_pure (i := 12) rfl (by kernel_rfl) (by kernel_rfl) (by kernel_rfl) (by kernel_rfl)
      case hQ => exact fun _ _ _ h => h
      case hB => exact trivial
      case hC => exact .inr hHeld
      case hy => (refine Or.inl ⟨by rfl, ?_⟩; intro w hSw; (try go_split_ands); go_simp; (try with_reducible rfl))
      (try simp only [sq])
      refine AnyG_one (i := 13) (by kernel_rfl) rfl (fun KK hKK => ?_)
      (try simp only [sq])
      obtain ⟨W5, hW5⟩ : ∃ x, x = U9.setRow G (alc a'.free a'.seed a'.fresh (.slice Am' a'.macs.length cm') (.slice Ab' a'.boxes.length cb')) := ⟨_, rfl⟩
      rw [← hW5] at HE
      rw [if_pos (by kernel_rfl)]
      refine wp_store_row 32 _ _ rfl G _ rfl rfl 32 _ hr9 (by rw [algSize, alc_size]) (by rw [alc_size, alc_size]) (alc_one _ _ _ _ _ _ _ _ _) ?_
      rw [← hW5]
      clear hW5
      refine hKK.out _ _ (.inl (by kernel_rfl)) trivial ?_
      clear hKK KK
      (try simp only [sq])
      refine AnyG_done (by kernel_rfl) ?_ _
      clear hHeld hrr hr9
      go_wp2_with fail
      go_roundw
      case rel => exact ⟨k1, by go_num, by omega, HE.out⟩
      case measure => simp [intOf]
theorem dalg (g : Nat) (w : World) (h : Deck g w) :
    Calls Tryd.prog 6 #[.pointer (some ⟨g, 0, none⟩)] w fun e w' => (∃ x a, e = .returned x ∧ AlV w' (fun b => b ≠ g) x a ∧ a.macs.length ≤ 4 ∧ a.boxes.length ≤ 4 ∧ a.fresh ≤ 4 ∧ GoodA a) ∧ Turn g w w' :=
  (dalgs g w h).mono fun _ _ ⟨⟨x, a, h1, h2, h3⟩, ht⟩ => ⟨⟨x, a, h1, h2.mono fun _ _ hq => hq.1, h3⟩, ht⟩
end Go.Proofs.YteekdhcffiaaaaaDoor
namespace Go.Proofs.YteekdhcffiaaaaaDoor
open Go Go.RowKit Sh Leaf

def ChP (p : World) (T : List B8) (v : Value) (W : World) : Prop := ∃ G, v = .pointer (some ⟨G, 0, none⟩) ∧ TGRow W G T ∧ Below p.heap.size p W
set_option linter.unusedSimpArgs false in
set_option linter.unusedVariables false in
set_option maxRecDepth 100000 in
set_option maxHeartbeats 4000000 in
theorem openc (hC : CombOk) {K m : List B8} (hK : K.length = 32) : OpenC K m := by
  intro w Q2 B d hm hT
  obtain ⟨R, hR⟩ : ∃ R, R = cOpen K m := ⟨_, rfl⟩
  rw [← hR]
  unfold cOpen at hR
  obtain ⟨p, hp⟩ : ∃ p, p = w.alloc (.cells (K.map byt).toArray 28) := ⟨_, rfl⟩
  have hk : TGRow p w.heap.size K := by rw [hp]; exact Whole.here _ _ _
  have hb : Below w.heap.size w p := by rw [hp]; exact (Below.refl _ _).alloc (Nat.le_refl _) _
  have hsp : w.heap.size + 1 ≤ p.heap.size := by rw [hp]; simp
  have hmp := hm.below hb (Nat.le_refl _)
  have HT := Lib.hid hT
  by_cases hlo : m.length < 40 ∨ 296 < m.length
  · skip
    rw [if_pos hlo] at hR
    subst hR
    have HB := Lib.hid hb
    clear hk hb hmp hm hT hC
    go_enter Tryd.func54, Tryd.ntmps54
    by_cases h1 : (m.length : Int) < 40
    · skip
      go_upto_region 1 with fail
      rw [← hp]
      clear hp hlo
      go_wp2_with fail
      go_ret2
      exact ⟨⟨_, rfl, Bytes.nil _ _⟩, HB.out⟩
    · skip
      have h2 : (296 : Int) < m.length := by omega
      go_upto_region 1 with fail
      rw [← hp]
      clear hp hlo
      go_wp2_with fail
      go_ret2
      exact ⟨⟨_, rfl, Bytes.nil _ _⟩, HB.out⟩
  · skip
    rw [if_neg hlo] at hR
    obtain ⟨e, he⟩ : ∃ e, m.length = e + 32 := ⟨m.length - 32, by omega⟩
    have he8 : 8 ≤ e := by omega
    have heu : e ≤ 264 := by omega
    rw [show m.length - 32 = e by omega] at hR
    have hme := hmp.take e (by omega)
    have hmd := hmp.drop e (by omega)
    rw [show m.length - e = 32 by omega] at hmd
    have hm8 := hmp.take 8 (by omega)
    have hm9 := hme.drop 8 (by rw [List.length_take]; omega)
    obtain ⟨Y, hY⟩ : ∃ Y, Y = m.take e := ⟨_, rfl⟩
    obtain ⟨D, hD⟩ : ∃ D, D = m.drop e := ⟨_, rfl⟩
    obtain ⟨N, hN⟩ : ∃ N, N = m.take 8 := ⟨_, rfl⟩
    obtain ⟨M, hM⟩ : ∃ M, M = Y.drop 8 := ⟨_, rfl⟩
    have hYl : Y.length = e := by rw [hY, List.length_take]; omega
    have hNl : N.length = 8 := by rw [hN, List.length_take]; omega
    have hMl : M.length = e - 8 := by rw [hM, List.length_drop, hYl]
    rw [← hY] at hme hR hm9
    rw [← hD] at hmd hR
    rw [← hN] at hm8 hR
    rw [← hM] at hm9 hR
    have h1 : ¬ (m.length : Int) < 40 := by omega
    have h2 : ¬ (296 : Int) < m.length := by omega
    have hcd0 : m.length ≤ d ∧ d ≤ maxLen := by
      obtain ⟨Ax, cx, hvx, h1x, h2x, -⟩ := id hmp
      cases hvx
      exact ⟨h1x, h2x⟩
    obtain ⟨hcd, hcd2⟩ := hcd0
    have hed : e ≤ d := by omega
    have h8d : 8 ≤ d := by omega
    have i1 : (e : Int) ≤ (e : Int) + 32 := by omega
    have i2 : (8 : Int) ≤ (d : Int) := by omega
    have i3 : (8 : Int) ≤ (e : Int) := by omega
    obtain ⟨T, hT0⟩ : ∃ T, T = hmac K (boxw ++ Y) := ⟨_, rfl⟩
    have hlT : T.length = 32 := by rw [hT0]; exact hmac_length _ _
    rw [← hT0] at hR
    have HTT := Lib.hid hT0
    have HY := Lib.hid hme
    clear hT0 hY hD hN hM
    have HYl := Lib.hid hYl
    have HNl := Lib.hid hNl
    have HMl := Lib.hid hMl
    have HR := Lib.hid hR
    have HlT := Lib.hid hlT
    have H1 : Hid (Below w.heap.size w p) := Lib.hid (hb)
    have H2 : Hid (TGRow p w.heap.size K) := Lib.hid (hk)
    have H3 : Hid (Bytes p (fun _ => True) (.slice (if d = e then B else Option.map (fun x => x.add e) B) 32 (d - e)) (D)) := Lib.hid ((hmd.mono (Q' := fun _ => True) fun _ _ _ => trivial))
    have H4 : Hid (Bytes p (fun _ => True) (.slice B 8 d) (N)) := Lib.hid ((hm8.mono (Q' := fun _ => True) fun _ _ _ => trivial))
    have H5 : Hid (Bytes p (fun _ => True) (.slice (if d = 8 then B else Option.map (fun x => x.add 8) B) (e - 8) (d - 8)) (M)) := Lib.hid ((hm9.mono (Q' := fun _ => True) fun _ _ _ => trivial))
    clear hk hb hm hT hmp hme hmd hm8 hm9 hR hlT hMl hNl hYl
    go_enter Tryd.func54, Tryd.ntmps54
    go_upto_region 1 with fail
    rw [← hp]
    clear hp hlo
    go_wp2_with fail
    have hcl : ∀ W, Below p.heap.size p W → Calls Tryd.prog 68 #[.agg (K.map byt).toArray, .slice B e d] W fun x w' => x = .returned (tagv T) ∧ Below W.heap.size W w' := fun W hb => by
      have := checkof_ (m := Y) (d := d) hK (by rw [HYl.out]; exact HY.out.below hb (Nat.le_refl _)) (by have := HYl.out; omega) (Tables.below (Tables.below HT.out (Nat.le_refl _) H1.out) (Nat.le_refl _) hb)
      rw [HYl.out, ← HTT.out] at this
      exact this
    have HCL := Lib.hid hcl
    clear hcl
    (try simp only [Act.put])
    go_cut [7] (fun s7 wx => ChP p T s7 wx)
    case first =>
      have hcl := HCL.out
      have hlT := HlT.out
      have hlK := hK
      have hcc : ∀ W, Below p.heap.size p W → (fun W : World => W.rangeAt w.heap.size 0 (K.map byt)) W := fun W hb => TGRow.range (Whole.below H2.out hb (Whole.lt H2.out))
      have HCC := Lib.hid hcc
      clear hcc
      have hb0 : Below p.heap.size p p.drew := Below.drew (Below.refl _ _)
      refine wp_region_held_drew (S := fun W : World => W.rangeAt w.heap.size 0 (K.map byt)) (by kernel_rfl) (HCC.out _ hb0) (fun hHeld => ?_)
      apply wpAnyH_take (i := 0) rfl (by kernel_rfl) (by kernel_rfl) (by kernel_rfl)
      case hQ => exact fun _ _ _ h => h
      case hS => exact hHeld
      case hy => exact yieldsIf_load_mid (by rfl) 28 _ rfl w.heap.size (0) rfl ((K.map byt)) _ (fun w hS => hS) Tryd.underlying28 rfl (by rw [tagSize, List.length_map, hlK])
      (try simp only [List.getElem_toArray, List.getElem_cons_zero, Act.put, List.setIfInBounds_toArray, List.set_cons_zero, List.set_cons_succ])
      apply wpAnyH_take (i := 1) rfl (by kernel_rfl) (by kernel_rfl) (by kernel_rfl)
      case hQ => exact fun _ _ _ h => h
      case hS => exact hHeld
      case hy => (refine Or.inl ⟨by rfl, ?_⟩; intro w hSw; (try go_split_ands); go_simp; (try with_reducible rfl))
      (try simp only [List.getElem_toArray, List.getElem_cons_succ, List.getElem_cons_zero, Act.put, List.setIfInBounds_toArray, List.set_cons_zero, List.set_cons_succ])
      apply wpAnyH_take (i := 2) rfl (by kernel_rfl) (by kernel_rfl) (by kernel_rfl)
      case hQ => exact fun _ _ _ h => h
      case hS => exact hHeld
      case hy => (refine Or.inl ⟨by rfl, ?_⟩; intro w hSw; (try go_split_ands); go_simp; (try with_reducible rfl))
      (try simp only [List.getElem_toArray, List.getElem_cons_succ, List.getElem_cons_zero, Act.put, List.setIfInBounds_toArray, List.set_cons_zero, List.set_cons_succ])
      apply wpAnyH_take (i := 3) rfl (by kernel_rfl) (by kernel_rfl) (by kernel_rfl)
      case hQ => exact fun _ _ _ h => h
      case hS => exact hHeld
      case hy => (refine Or.inl ⟨by rfl, ?_⟩; intro w hSw; (try go_split_ands); go_simp; (try with_reducible rfl))
      (try simp only [List.getElem_toArray, List.getElem_cons_succ, List.getElem_cons_zero, Act.put, List.setIfInBounds_toArray, List.set_cons_zero, List.set_cons_succ])
      refine wpAnyH_ready (rs := [4, 5]) (by kernel_rfl) (by simp) ?_
      refine AllReadyH.cons rfl (fun KK hKK => ?_) (AllReadyH.cons rfl (fun KK hKK => ?_) AllReadyH.nil)
      · (try simp only [List.getElem_toArray, List.getElem_cons_succ, List.getElem_cons_zero])
        go_simp
        go_at_call 68
        refine (hcl _ hb0).mono ?_
        rintro e V1 ⟨rfl, hv1⟩
        have hb1 := Below.trans hb0 (Below.mono hv1 (Below.size hb0))
        refine hKK.out _ _ (HCC.out _ hb1) (fun hHeld => ?_)
        clear hKK KK
        (try simp only [List.getElem_toArray, List.getElem_cons_succ, List.getElem_cons_zero, Act.put, List.setIfInBounds_toArray, List.set_cons_zero, List.set_cons_succ])
        refine wpAnyH_ready (rs := [5]) (by kernel_rfl) (by simp) ?_
        refine AllReadyH.cons rfl (fun KK hKK => ?_) AllReadyH.nil
        (try simp only [List.getElem_toArray, List.getElem_cons_succ, List.getElem_cons_zero])
        go_simp
        rw [ztr_lit]
        obtain ⟨V2, hV2⟩ : ∃ x, x = (V1).alloc (.cells ztr 28) := ⟨_, rfl⟩
        have hv2 : Below V1.heap.size V1 V2 := by rw [hV2]; exact (Below.refl _ _).alloc (Nat.le_refl _) _
        have hb2 : Below p.heap.size p V2 := Below.trans hb1 (Below.mono hv2 (Below.size hb1))
        have nT2 : Whole V2 V1.heap.size 28 ztr := by rw [hV2]; exact Whole.here _ _ _
        have pT2 : p.heap.size ≤ V1.heap.size := Below.size hb1
        rw [← hV2]
        clear hV2
        refine hKK.out _ _ (HCC.out _ hb2) (fun hHeld => ?_)
        clear hKK KK
        (try simp only [List.getElem_toArray, List.getElem_cons_succ, List.getElem_cons_zero, Act.put, List.setIfInBounds_toArray, List.set_cons_zero, List.set_cons_succ])
        refine wpAnyH_ready (rs := [6]) (by kernel_rfl) (by simp) ?_
        refine AllReadyH.cons rfl (fun KK hKK => ?_) AllReadyH.nil
        obtain ⟨V3, hV3⟩ : ∃ x, x = (V2).setRow (V1.heap.size) (T.map byt).toArray := ⟨_, rfl⟩
        have nT3 : Whole V3 (V1.heap.size) 28 (T.map byt).toArray := by rw [hV3]; exact Whole.setRow nT2 _
        have hb3 : Below p.heap.size p V3 := by rw [hV3]; exact below_setRow hb2 pT2 _
        rw [if_pos (by kernel_rfl)]
        refine wp_store_row 28 _ _ rfl (V1.heap.size) _ rfl rfl 28 _ nT2 (by rw [tagSize, tag_size hlT]) (by rw [ztr_size, tag_size hlT]) (tag_one _) ?_
        rw [← hV3]
        clear hV3
        refine hKK.out _ _ (HCC.out _ hb3) (fun hHeld => ?_)
        clear hKK KK
        (try simp only [List.getElem_toArray, List.getElem_cons_succ, List.getElem_cons_zero, Act.put, List.setIfInBounds_toArray, List.set_cons_zero, List.set_cons_succ])
        refine wpAnyH_done (by kernel_rfl) ?_ _
        go_wp2_with fail
        go_meet
        exact ⟨_, rfl, nT3, hb3⟩
      · (try simp only [List.getElem_toArray, List.getElem_cons_succ, List.getElem_cons_zero])
        go_simp
        rw [ztr_lit]
        obtain ⟨V4, hV4⟩ : ∃ x, x = (p.alloc (.cells ztr 28)).drew := ⟨_, rfl⟩
        have hv4 : Below p.heap.size p V4 := by rw [hV4]; exact ((Below.refl _ _).alloc (Nat.le_refl _) _).drew
        have hb4 : Below p.heap.size p V4 := hv4
        have nT4 : Whole V4 p.heap.size 28 ztr := by rw [hV4]; exact Whole.here _ _ _
        have pT4 : p.heap.size ≤ p.heap.size := Nat.le_refl _
        rw [← hV4]
        clear hV4
        refine hKK.out _ _ (HCC.out _ hb4) (fun hHeld => ?_)
        clear hKK KK
        (try simp only [List.getElem_toArray, List.getElem_cons_succ, List.getElem_cons_zero, Act.put, List.setIfInBounds_toArray, List.set_cons_zero, List.set_cons_succ])
        refine wpAnyH_ready (rs := [4]) (by kernel_rfl) (by simp) ?_
        refine AllReadyH.cons rfl (fun KK hKK => ?_) AllReadyH.nil
        (try simp only [List.getElem_toArray, List.getElem_cons_succ, List.getElem_cons_zero])
        go_simp
        go_at_call 68
        refine (hcl _ hb4).mono ?_
        rintro e V5 ⟨rfl, hv5⟩
        have hb5 := Below.trans hb4 (Below.mono hv5 (Below.size hb4))
        have rT5 := Whole.below nT4 hv5 (Whole.lt nT4)
        refine hKK.out _ _ (HCC.out _ hb5) (fun hHeld => ?_)
        clear hKK KK
        (try simp only [List.getElem_toArray, List.getElem_cons_succ, List.getElem_cons_zero, Act.put, List.setIfInBounds_toArray, List.set_cons_zero, List.set_cons_succ])
        refine wpAnyH_ready (rs := [6]) (by kernel_rfl) (by simp) ?_
        refine AllReadyH.cons rfl (fun KK hKK => ?_) AllReadyH.nil
        obtain ⟨V6, hV6⟩ : ∃ x, x = (V5).setRow (p.heap.size) (T.map byt).toArray := ⟨_, rfl⟩
        have nT6 : Whole V6 (p.heap.size) 28 (T.map byt).toArray := by rw [hV6]; exact Whole.setRow rT5 _
        have hb6 : Below p.heap.size p V6 := by rw [hV6]; exact below_setRow hb5 pT4 _
        rw [if_pos (by kernel_rfl)]
        refine wp_store_row 28 _ _ rfl (p.heap.size) _ rfl rfl 28 _ rT5 (by rw [tagSize, tag_size hlT]) (by rw [ztr_size, tag_size hlT]) (tag_one _) ?_
        rw [← hV6]
        clear hV6
        refine hKK.out _ _ (HCC.out _ hb6) (fun hHeld => ?_)
        clear hKK KK
        (try simp only [List.getElem_toArray, List.getElem_cons_succ, List.getElem_cons_zero, Act.put, List.setIfInBounds_toArray, List.set_cons_zero, List.set_cons_succ])
        refine wpAnyH_done (by kernel_rfl) ?_ _
        go_wp2_with fail
        go_meet
        exact ⟨_, rfl, nT6, hb6⟩
    case rest =>
      obtain ⟨GT, rfl, hr, hbu⟩ := hcut
      clear HCL
      rename World => wc
      have hswc : p.heap.size ≤ wc.heap.size := hbu.size
      have H6 : Hid (Below w.heap.size w wc) := Lib.hid ((Below.trans H1.out (Below.mono hbu (Below.size H1.out))))
      have H7 : Hid (TGRow wc w.heap.size K) := Lib.hid ((Whole.below H2.out hbu (Whole.lt H2.out)))
      have H8 : Hid (Bytes wc (fun _ => True) (.slice (if d = e then B else Option.map (fun x => x.add e) B) 32 (d - e)) (D)) := Lib.hid ((Bytes.below H3.out hbu (Nat.le_refl _)))
      have H9 : Hid (Bytes wc (fun _ => True) (.slice B 8 d) (N)) := Lib.hid ((Bytes.below H4.out hbu (Nat.le_refl _)))
      have H10 : Hid (Bytes wc (fun _ => True) (.slice (if d = 8 then B else Option.map (fun x => x.add 8) B) (e - 8) (d - 8)) (M)) := Lib.hid ((Bytes.below H5.out hbu (Nat.le_refl _)))
      clear H1 H2 H3 H4 H5
      have H11 : Hid (TGRow wc GT T) := Lib.hid (hr)
      clear hr hbu
      obtain ⟨q, hq⟩ : ∃ q, q = decide (T = D) := ⟨_, rfl⟩
      have hst := fun g W => run_sliceAt_whole (P := Tryd.prog) (t := 28) (e := 5) (n := 32) Tryd.underlying28 (by kernel_rfl) g W
      have hcl : ∀ W, Below wc.heap.size wc W → Calls Tryd.prog 72 #[.slice (some ⟨GT, 0, none⟩) 32 32, .slice (if d = e then B else Option.map (fun x => x.add e) B) 32 (d - e)] W fun x w' => x = .returned (.bool q) ∧ Below W.heap.size W w' := fun W hb => by
        have hby := Whole.bytes (Whole.below H11.out hb (Whole.lt H11.out)) (by have := HlT.out; omega)
        rw [HlT.out] at hby
        have := equal_ _ _ T D _ _ W hby (H8.out.below hb (Nat.le_refl _)) (by have := HlT.out; omega)
        rw [← hq] at this
        exact this
      have HCL := Lib.hid hcl
      have HQ := Lib.hid hq
      clear hcl hq
      go_upto_region 5 with fail
      have hcc : ∀ W, Below wc.heap.size wc W → (fun W : World => True) W := fun W hb => trivial
      have HCC := Lib.hid hcc
      clear hcc
      have hb0 : Below wc.heap.size wc wc.drew := Below.drew (Below.refl _ _)
      refine wp_region_held_drew (S := fun W : World => True) (by kernel_rfl) (HCC.out _ hb0) (fun hHeld => ?_)
      apply wpAnyH_take (i := 0) rfl (by kernel_rfl) (by kernel_rfl) (by kernel_rfl)
      case hQ => exact fun _ _ _ h => h
      case hS => exact hHeld
      case hy => (refine Or.inl ⟨by rfl, ?_⟩; intro w hSw; (try go_split_ands); go_simp; (try with_reducible rfl))
      (try simp only [List.getElem_toArray, List.getElem_cons_zero, Act.put, List.setIfInBounds_toArray, List.set_cons_zero, List.set_cons_succ])
      apply wpAnyH_take (i := 1) rfl (by kernel_rfl) (by kernel_rfl) (by kernel_rfl)
      case hQ => exact fun _ _ _ h => h
      case hS => exact hHeld
      case hy => (refine Or.inl ⟨by rfl, ?_⟩; intro w hSw; (try go_split_ands); go_simp; (try with_reducible rfl))
      (try simp only [List.getElem_toArray, List.getElem_cons_succ, List.getElem_cons_zero, Act.put, List.setIfInBounds_toArray, List.set_cons_zero, List.set_cons_succ])
      apply wpAnyH_take (i := 2) rfl (by kernel_rfl) (by kernel_rfl) (by kernel_rfl)
      case hQ => exact fun _ _ _ h => h
      case hS => exact hHeld
      case hy => (refine Or.inl ⟨by rfl, ?_⟩; intro w hSw; (try go_split_ands); go_simp; (try with_reducible rfl))
      (try simp only [List.getElem_toArray, List.getElem_cons_succ, List.getElem_cons_zero, Act.put, List.setIfInBounds_toArray, List.set_cons_zero, List.set_cons_succ])
      apply wpAnyH_take (i := 3) rfl (by kernel_rfl) (by kernel_rfl) (by kernel_rfl)
      case hQ => exact fun _ _ _ h => h
      case hS => exact hHeld
      case hy => (refine Or.inl ⟨by rfl, ?_⟩; intro w hSw; (try go_split_ands); go_simp; (try with_reducible rfl))
      (try simp only [List.getElem_toArray, List.getElem_cons_succ, List.getElem_cons_zero, Act.put, List.setIfInBounds_toArray, List.set_cons_zero, List.set_cons_succ])
      refine wpAnyH_ready (rs := [4]) (by kernel_rfl) (by simp) ?_
      refine AllReadyH.cons rfl (fun KK hKK => ?_) AllReadyH.nil
      (try simp only [List.getElem_toArray, List.getElem_cons_succ, List.getElem_cons_zero])
      go_simp
      go_at_call 72
      refine (HCL.out _ hb0).mono ?_
      rintro x V1 ⟨rfl, hv1⟩
      have hv1t := Below.trans hb0 (Below.mono hv1 (Below.size hb0))
      clear hv1
      refine hKK.out _ _ (HCC.out _ hv1t) (fun hHeld => ?_)
      clear hKK KK
      (try simp only [List.getElem_toArray, List.getElem_cons_succ, List.getElem_cons_zero, Act.put, List.setIfInBounds_toArray, List.set_cons_zero, List.set_cons_succ])
      apply wpAnyH_take (i := 5) rfl (by kernel_rfl) (by kernel_rfl) (by kernel_rfl)
      case hQ => exact fun _ _ _ h => h
      case hS => exact hHeld
      case hy => (refine Or.inl ⟨by rfl, ?_⟩; intro w hSw; (try go_split_ands); go_simp; (try with_reducible rfl))
      (try simp only [List.getElem_toArray, List.getElem_cons_succ, List.getElem_cons_zero, Act.put, List.setIfInBounds_toArray, List.set_cons_zero, List.set_cons_succ])
      refine wpAnyH_done (by kernel_rfl) ?_ _
      clear hst HCL
      have hsv1 : wc.heap.size ≤ V1.heap.size := Below.size hv1t
      have H12 : Hid (Below w.heap.size w V1) := Lib.hid ((Below.trans H6.out (Below.mono hv1t (Below.size H6.out))))
      have H13 : Hid (TGRow V1 w.heap.size K) := Lib.hid ((Whole.below H7.out hv1t (Whole.lt H7.out)))
      have H14 : Hid (Bytes V1 (fun _ => True) (.slice (if d = e then B else Option.map (fun x => x.add e) B) 32 (d - e)) (D)) := Lib.hid ((Bytes.below H8.out hv1t (Nat.le_refl _)))
      have H15 : Hid (Bytes V1 (fun _ => True) (.slice B 8 d) (N)) := Lib.hid ((Bytes.below H9.out hv1t (Nat.le_refl _)))
      have H16 : Hid (Bytes V1 (fun _ => True) (.slice (if d = 8 then B else Option.map (fun x => x.add 8) B) (e - 8) (d - 8)) (M)) := Lib.hid ((Bytes.below H10.out hv1t (Nat.le_refl _)))
      have H17 : Hid (TGRow V1 GT T) := Lib.hid ((Whole.below H11.out hv1t (Whole.lt H11.out)))
      clear H6 H7 H8 H9 H10 H11
      clear hv1t
      clear H17
      clear H14
      cases q
      · skip
        have hRR : R = ([], 14) := by rw [HR.out]; exact if_neg (by have := HQ.out; simpa using this)
        subst hRR
        clear HR HQ HTT HY
        go_wp2_with fail
        go_ret2
        exact ⟨⟨_, rfl, Bytes.nil _ _⟩, H12.out⟩
      · skip
        have hRR : R = (strm K (beval N) M, 0) := by rw [HR.out]; exact if_pos (by have := HQ.out; simpa using this)
        obtain ⟨Z, hZ⟩ : ∃ Z, Z = strm K (beval N) M := ⟨_, rfl⟩
        have hlK := hK
        have hcl : ∀ W, Below V1.heap.size V1 W → Calls Tryd.prog 67 #[.agg (K.map byt).toArray, .slice B 8 d, .slice (if d = 8 then B else Option.map (fun x => x.add 8) B) (e - 8) (d - 8)] W fun x w' => (∃ v, x = .returned v ∧ Bytes w' (fun g => W.heap.size ≤ g) v Z) ∧ Below W.heap.size W w' := fun W hb => by
          have := hC W _ _ K N M B (if d = 8 then B else Option.map (fun x => x.add 8) B) d (d - 8) hK HNl.out (by rw [HNl.out]; exact H15.out.below hb (Nat.le_refl _)) (by rw [HMl.out]; exact H16.out.below hb (Nat.le_refl _)) (by have := HMl.out; omega) (Tables.below (Tables.below HT.out (Nat.le_refl _) H12.out) (Nat.le_refl _) hb)
          rw [HNl.out, HMl.out, ← hZ] at this
          exact this
        have HCL := Lib.hid hcl
        rw [← hZ] at hRR
        subst hRR
        clear hcl hZ HR HQ HTT HY
        go_upto_region 7 with fail
        have hcc : ∀ W, Below V1.heap.size V1 W → (fun W : World => W.rangeAt w.heap.size 0 (K.map byt)) W := fun W hb => TGRow.range (Whole.below H13.out hb (Whole.lt H13.out))
        have HCC := Lib.hid hcc
        clear hcc
        have hb0 : Below V1.heap.size V1 V1.drew := Below.drew (Below.refl _ _)
        refine wp_region_held_drew (S := fun W : World => W.rangeAt w.heap.size 0 (K.map byt)) (by kernel_rfl) (HCC.out _ hb0) (fun hHeld => ?_)
        apply wpAnyH_take (i := 0) rfl (by kernel_rfl) (by kernel_rfl) (by kernel_rfl)
        case hQ => exact fun _ _ _ h => h
        case hS => exact hHeld
        case hy => exact yieldsIf_load_mid (by rfl) 28 _ rfl w.heap.size (0) rfl ((K.map byt)) _ (fun w hS => hS) Tryd.underlying28 rfl (by rw [tagSize, List.length_map, hlK])
        (try simp only [List.getElem_toArray, List.getElem_cons_zero, Act.put, List.setIfInBounds_toArray, List.set_cons_zero, List.set_cons_succ])
        apply wpAnyH_take (i := 1) rfl (by kernel_rfl) (by kernel_rfl) (by kernel_rfl)
        case hQ => exact fun _ _ _ h => h
        case hS => exact hHeld
        case hy => (refine Or.inl ⟨by rfl, ?_⟩; intro w hSw; (try go_split_ands); go_simp; (try with_reducible rfl))
        (try simp only [List.getElem_toArray, List.getElem_cons_succ, List.getElem_cons_zero, Act.put, List.setIfInBounds_toArray, List.set_cons_zero, List.set_cons_succ])
        apply wpAnyH_take (i := 2) rfl (by kernel_rfl) (by kernel_rfl) (by kernel_rfl)
        case hQ => exact fun _ _ _ h => h
        case hS => exact hHeld
        case hy => (refine Or.inl ⟨by rfl, ?_⟩; intro w hSw; (try go_split_ands); go_simp; (try with_reducible rfl))
        (try simp only [List.getElem_toArray, List.getElem_cons_succ, List.getElem_cons_zero, Act.put, List.setIfInBounds_toArray, List.set_cons_zero, List.set_cons_succ])
        apply wpAnyH_take (i := 3) rfl (by kernel_rfl) (by kernel_rfl) (by kernel_rfl)
        case hQ => exact fun _ _ _ h => h
        case hS => exact hHeld
        case hy => (refine Or.inl ⟨by rfl, ?_⟩; intro w hSw; (try go_split_ands); go_simp; (try with_reducible rfl))
        (try simp only [List.getElem_toArray, List.getElem_cons_succ, List.getElem_cons_zero, Act.put, List.setIfInBounds_toArray, List.set_cons_zero, List.set_cons_succ])
        apply wpAnyH_take (i := 4) rfl (by kernel_rfl) (by kernel_rfl) (by kernel_rfl)
        case hQ => exact fun _ _ _ h => h
        case hS => exact hHeld
        case hy => (refine Or.inl ⟨by rfl, ?_⟩; intro w hSw; (try go_split_ands); go_simp; (try with_reducible rfl))
        (try simp only [List.getElem_toArray, List.getElem_cons_succ, List.getElem_cons_zero, Act.put, List.setIfInBounds_toArray, List.set_cons_zero, List.set_cons_succ])
        apply wpAnyH_take (i := 5) rfl (by kernel_rfl) (by kernel_rfl) (by kernel_rfl)
        case hQ => exact fun _ _ _ h => h
        case hS => exact hHeld
        case hy => (refine Or.inl ⟨by rfl, ?_⟩; intro w hSw; (try go_split_ands); go_simp; (try with_reducible rfl))
        (try simp only [List.getElem_toArray, List.getElem_cons_succ, List.getElem_cons_zero, Act.put, List.setIfInBounds_toArray, List.set_cons_zero, List.set_cons_succ])
        refine wpAnyH_ready (rs := [6]) (by kernel_rfl) (by simp) ?_
        refine AllReadyH.cons rfl (fun KK hKK => ?_) AllReadyH.nil
        (try simp only [List.getElem_toArray, List.getElem_cons_succ, List.getElem_cons_zero])
        go_simp
        go_at_call 67
        refine (HCL.out _ hb0).mono ?_
        rintro x V2 ⟨⟨v2, rfl, hvz⟩, hv2⟩
        have hv2t := Below.trans hb0 (Below.mono hv2 (Below.size hb0))
        have HV := Lib.hid (hvz.mono (Q' := fun g => w.heap.size ≤ g) fun q _ hq => by have := Below.size hb0; omega)
        clear hvz
        clear hv2
        refine hKK.out _ _ (HCC.out _ hv2t) (fun hHeld => ?_)
        clear hKK KK
        (try simp only [List.getElem_toArray, List.getElem_cons_succ, List.getElem_cons_zero, Act.put, List.setIfInBounds_toArray, List.set_cons_zero, List.set_cons_succ])
        apply wpAnyH_take (i := 7) rfl (by kernel_rfl) (by kernel_rfl) (by kernel_rfl)
        case hQ => exact fun _ _ _ h => h
        case hS => exact hHeld
        case hy => (refine Or.inl ⟨by rfl, ?_⟩; intro w hSw; (try go_split_ands); go_simp; (try with_reducible rfl))
        (try simp only [List.getElem_toArray, List.getElem_cons_succ, List.getElem_cons_zero, Act.put, List.setIfInBounds_toArray, List.set_cons_zero, List.set_cons_succ])
        apply wpAnyH_take (i := 8) rfl (by kernel_rfl) (by kernel_rfl) (by kernel_rfl)
        case hQ => exact fun _ _ _ h => h
        case hS => exact hHeld
        case hy => (refine Or.inl ⟨by rfl, ?_⟩; intro w hSw; (try go_split_ands); go_simp; (try with_reducible rfl))
        (try simp only [List.getElem_toArray, List.getElem_cons_succ, List.getElem_cons_zero, Act.put, List.setIfInBounds_toArray, List.set_cons_zero, List.set_cons_succ])
        refine wpAnyH_done (by kernel_rfl) ?_ _
        have H18 : Hid (Below w.heap.size w V2) := Lib.hid ((Below.trans H12.out (Below.mono hv2t (Below.size H12.out))))
        have H19 : Hid (TGRow V2 w.heap.size K) := Lib.hid ((Whole.below H13.out hv2t (Whole.lt H13.out)))
        have H20 : Hid (Bytes V2 (fun _ => True) (.slice B 8 d) (N)) := Lib.hid ((Bytes.below H15.out hv2t (Nat.le_refl _)))
        have H21 : Hid (Bytes V2 (fun _ => True) (.slice (if d = 8 then B else Option.map (fun x => x.add 8) B) (e - 8) (d - 8)) (M)) := Lib.hid ((Bytes.below H16.out hv2t (Nat.le_refl _)))
        clear H12 H13 H15 H16
        clear hv2t
        go_wp2_with fail
        go_ret2
        exact ⟨⟨_, rfl, HV.out⟩, H18.out⟩
end Go.Proofs.YteekdhcffiaaaaaDoor
