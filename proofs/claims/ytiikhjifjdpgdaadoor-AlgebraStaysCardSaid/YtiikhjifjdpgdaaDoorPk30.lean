/-
  Mac (the program).
  The law s' awake of stage 10.
  Mac (the reference).
  The reference's stream.
-/
import Derived.Deep.RegionHeld3
import Derived.Deep.CutBlock
import Derived.Deep.DeepCutAuto
import Derived.Test.YtiikhjifjdpgdaaDoorKSq
import Derived.Test.YtiikhjifjdpgdaaDoorPk24
import Derived.Test.YtiikhjifjdpgdaaDoorPk18
import Derived.Test.YtiikhjifjdpgdaaDoorPk19
import Derived.Test.YtiikhjifjdpgdaaDoorPk3
import Derived.Test.YtiikhjifjdpgdaaDoorPk28
import Derived.Test.YtiikhjifjdpgdaaDoorPk31
import Derived.Test.YtiikhjifjdpgdaaDoorPk20
import Derived.Test.YtiikhjifjdpgdaaDoorPk26
import Derived.Laws.CopyOwn
import Derived.Test.YtiikhjifjdpgdaaDoorPk22
import Derived.Test.YtiikhjifjdpgdaaDoorPk6
import Derived.Test.YtiikhjifjdpgdaaDoorKAnyG
namespace Go.Proofs.YtiikhjifjdpgdaaDoor
open Go Go.RowKit Sh Leaf

theorem wpList_buildSlice_mac {w : World} {ops : Array Oper} {rest : List Oper} {o : Oper} {a : Act} {Q : Exit → Act → World → Prop} (hg : o.guard = none) (x : Operand) (ho : o.op = .buildSlice 29 1 #[(0, x)])
    (N : Nat) (hN : w.heap.size = N) (dst : Option Tmp) (hdst : o.dst = dst) {X : MeM} (hx : a.eval x = .agg (mcl X).toArray)
    (h : wpList Tryd.prog ops Q rest (a.put dst (.slice (some ⟨N, 0, none⟩) 1 1)) (w.alloc (.cells (mcl X).toArray 90))) : wpList Tryd.prog ops Q (o :: rest) a w := by
  refine Great.wpList_buildSliceTo hg 29 90 1 _ ho N hN dst hdst Tryd.underlying29 _ ?_ h
  have e1 : (#[(0, x)].map fun (i, x) => (i, a.eval x)).toList = [(0, .agg (mcl X).toArray)] := by simp [hx]
  rw [e1]
  exact bs_mac X
theorem wpList_load_mac {w : World} {g : Nat} {ops : Array Oper} {rest : List Oper} {o : Oper} {a : Act} {Q : Exit → Act → World → Prop} (hgd : o.guard = none) (x : Operand) (ho : o.op = .load 90 x)
    (hx : a.eval x = .pointer (some ⟨g, 0, none⟩)) {cs : Array Value} (hg : Whole w g 90 cs) (h8 : cs.size = 65) (h : wpList Tryd.prog ops Q rest (a.put o.dst (.agg cs)) w) : wpList Tryd.prog ops Q (o :: rest) a w :=
  wpList_load_row hgd 90 x ho g hx 90 _ (0, 0) _ hg Tryd.underlying90 rfl (by rw [macSize, h8]) h
theorem mcl_size (X : MeM) : (mcl X).toArray.size = 65 := by rw [List.size_toArray, mcl_len]
/-- The algebra with one more entry. -/
theorem alv_more {w W : World} {Q : Nat → Prop} {a : Alg} {Ab A5 : Option Addr} {cb c5 : Nat} {L1 : List MeM} {X : MeM} (hL : L1.map (·.e) = a.macs) (hB1 : ∀ x ∈ L1, Bytes W (fun g => Q g ∨ w.heap.size ≤ g) (.slice x.A x.e.msg.length x.c) x.e.msg)
    (hS : Seq mcl mok W (fun g => w.heap.size ≤ g) A5 c5 (L1 ++ [X])) (hX : Bytes W (fun g => w.heap.size ≤ g) (.slice X.A X.e.msg.length X.c) X.e.msg) (hBx : Bxs W Q Ab cb a.boxes) (hA : Aok a) (hlen : a.macs.length < 1000) :
    AlV W (fun g => Q g ∨ w.heap.size ≤ g) (.agg (alc a.free a.seed a.fresh (.slice A5 (L1 ++ [X]).length c5) (.slice Ab a.boxes.length cb))) { a with macs := a.macs ++ [X.e] } := by
  have hl : (a.macs ++ [X.e]).length = (L1 ++ [X]).length := by rw [← hL]; simp
  refine ⟨A5, c5, Ab, cb, by rw [← hl], ⟨L1 ++ [X], by rw [← hL]; simp, hS.mono fun _ _ h => .inr h, fun x hx => ?_⟩, hBx.mono fun _ _ h => .inl h, ⟨hA.seed, hA.lo, hA.hi, by show (a.macs ++ [X.e]).length ≤ 1000; rw [List.length_append]; simp; omega, hA.boxes⟩⟩
  rcases List.mem_append.1 hx with h | h
  · exact hB1 x h
  · rw [List.mem_singleton.1 h]
    exact hX.mono fun _ _ h => .inr h
theorem tag_len {l : List B8} (h : l.length = 32) : (l.map byt).length = 32 := by rw [List.length_map, h]
set_option linter.unusedSimpArgs false in
set_option maxRecDepth 100000 in
set_option maxHeartbeats 8000000 in
theorem pmac {w : World} {Q Q2 : Nat → Prop} {x : Value} {B : Option Addr} {d : Nat} {a : Alg} {K m : List B8} (hx : AlV w Q x a) (hlen : a.macs.length < 1000) (hK : K.length = 32) (hm : Bytes w Q2 (.slice B m.length d) m) (hml : m.length ≤ 100000) (hT : Tables w) :
    Calls Tryd.prog 12 #[x, .agg (K.map byt).toArray, .slice B m.length d] w fun e w' => AlgR w' (fun g => Q g ∨ w.heap.size ≤ g) e (aMac a K m) ∧ Below w.heap.size w w' := by
  have hx0 := hx
  obtain ⟨Am, cm, Ab, cb, rfl, hM, hBx, hA⟩ := hx
  obtain ⟨p, hp⟩ : ∃ p, p = (((w.alloc (.cells (alc a.free a.seed a.fresh (.slice Am a.macs.length cm) (.slice Ab a.boxes.length cb)) 32)).alloc (.cells (K.map byt).toArray 28)).alloc (.cells zar 32)).alloc (.cells ztr 28) := ⟨_, rfl⟩
  have hr : ALRow p w.heap.size a.free a.seed a.fresh (.slice Am a.macs.length cm) (.slice Ab a.boxes.length cb) := by rw [hp]; exact (((Whole.here _ _ _).alloc _).alloc _).alloc _
  have hk : TGRow p (w.heap.size + 1) K := by rw [hp]; exact ((Whole.at_ _ _ _ _ (by simp)).alloc _).alloc _
  have h6 : Whole p (w.heap.size + 1 + 1) 32 zar := by rw [hp]; exact (Whole.at_ _ _ _ _ (by simp)).alloc _
  have h7 : Whole p (w.heap.size + 1 + 1 + 1) 28 ztr := by rw [hp]; exact Whole.at_ _ _ _ _ (by simp)
  have hb : Below w.heap.size w p := by rw [hp]; exact ((((Below.refl _ _).alloc (Nat.le_refl _) _).alloc (by simp) _).alloc (by simp; omega) _).alloc (by simp; omega) _
  have hps : (w.heap.size + 1 + 1 + 1) < p.heap.size := h7.lt
  have HX := Lib.hid hx0
  have HMC := Lib.hid hM
  have HBX := Lib.hid hBx
  have HA := Lib.hid hA
  have HM := Lib.hid hm
  have HR := Lib.hid hr
  have HK := Lib.hid hk
  have H6 := Lib.hid h6
  have H7 := Lib.hid h7
  have HB := Lib.hid hb
  have HLEN := Lib.hid hlen
  clear hx0 hM hBx hA hm hr hk h6 h7 hb
  obtain ⟨R, hR⟩ : ∃ R, R = aMac a K m := ⟨_, rfl⟩
  have hRR := hR
  unfold aMac at hRR
  rw [← hR]
  clear hR
  by_cases hbig : 4096 < m.length
  · skip
    rw [if_pos hbig] at hRR
    have HRR := Lib.hid hRR
    have hb1 : (4096 : Int) < (m.length : Int) := by omega
    clear hRR hbig
    go_enter Tryd.func12, Tryd.ntmps12
    go_upto_region 1 with fail
    rw [zar_lit, ztr_lit, ← hp]
    clear hp
    go_wp2_with (first
      | (with_reducible refine wpList_store_alg rfl _ _ rfl (g := (w.heap.size + 1 + 1)) rfl rfl H6.out zar_size rfl (by with_unfolding_all rfl) ?_)
      | (with_reducible refine wpList_store_tag rfl _ _ rfl (g := (w.heap.size + 1 + 1 + 1)) rfl rfl (Whole.setRow_far H7.out (by omega) _) ztr_size rfl (by with_unfolding_all rfl) ?_))
    rw [zar_lit, ztr_lit]
    have e1 := Whole.setRow_far (Whole.setRow H6.out zar) (g' := (w.heap.size + 1 + 1 + 1)) (by omega) ztr
    have e2 := Whole.setRow (Whole.setRow_far H7.out (g' := (w.heap.size + 1 + 1)) (by omega) zar) ztr
    refine bodyPost_ret (results_alg3 Tryd.results12 _ rfl rfl _ rfl zar_size ztr_size e1 e2) rfl ?_
    show AlgR _ _ _ R ∧ _
    rw [HRR.out]
    exact ⟨⟨_, by rw [ztr_eq]; rfl, alv_zero _ _⟩, below_setRow (below_setRow HB.out (by omega) _) (by omega) _⟩
  rw [if_neg hbig] at hRR
  have hb1 : ¬ (4096 : Int) < (m.length : Int) := by omega
  obtain ⟨f, hf⟩ : ∃ f, f = fnd a.macs K m := ⟨_, rfl⟩
  rw [← hf] at hRR
  have hfl : (f.getD ztag).length = 32 := by
    cases hq : f with
    | none => rfl
    | some t => exact fnd_len (hf.symm.trans hq) (Macs.tags HMC.out)
  have hcl := arecorded (HMC.out.below HB.out (Nat.le_refl _)) HA.out.macs hK (HM.out.below HB.out (Nat.le_refl _))
  rw [← hf] at hcl
  unfold fres at hcl
  obtain ⟨E0, hE0⟩ : ∃ E, E = f.getD ztag := ⟨_, rfl⟩
  rw [← hE0] at hcl hfl
  have hr0 := HR.out
  obtain ⟨c0, c33, c34, c35⟩ := ALRow.cells hr0
  have HE0 := Lib.hid hE0
  have HRR0 := Lib.hid hRR
  clear hf hr0 c0 c33 c35 hE0 hRR
  go_enter Tryd.func12, Tryd.ntmps12
  go_upto_region 1 with fail
  rw [zar_lit, ztr_lit, ← hp]
  clear hp
  go_wp2_with (first
    | (with_reducible refine wpList_load_alg rfl _ rfl rfl HR.out (alc_size _ _ _ _ _) ?_)
    | (with_reducible refine wpList_load_tag rfl _ rfl rfl HK.out (tag_size hK) ?_))
  refine hcl.mono ?_
  rintro e w1 ⟨rfl, hb1'⟩
  clear hcl c34
  have hpw : p.heap.size ≤ w1.heap.size := hb1'.size
  go_upto_region 4 with (with_reducible refine wpList_store_tag rfl _ _ rfl (g := w1.heap.size) rfl rfl (Whole.here w1 _ _) rfl (tag_size hfl) (tag_one _) ?_)
  rw [ztr_lit]
  obtain ⟨u, hu⟩ : ∃ x, x = (w1.alloc (.cells ztr 28)).setRow w1.heap.size (E0.map byt).toArray := ⟨_, rfl⟩
  have ht : TGRow u w1.heap.size E0 := by rw [hu]; exact Whole.setRow (Whole.here _ _ _) _
  have hbu : Below w1.heap.size w1 u := by rw [hu]; exact below_setRow ((Below.refl _ _).alloc (Nat.le_refl _) _) (Nat.le_refl _) _
  rw [← hu]
  clear hu
  have hwu : w1.heap.size < u.heap.size := ht.lt
  have HBU : Hid (Below p.heap.size p u) := Lib.hid (hb1'.trans (hbu.mono hpw))
  have HTU := Lib.hid ht
  clear hb1' hbu ht
  obtain ⟨c0, c33, c34, c35⟩ := ALRow.cells (Whole.below HR.out HBU.out (by omega))
  clear c0 c33 c35
  cases f with
  | some t0 =>
    have hE : E0 = t0 := HE0.out
    have HRR : Hid (R = (a, E0, 0)) := Lib.hid (by rw [HRR0.out, hE])
    clear hE c34
    go_upto_region 5 with fail
    have hru : ALRow u.drew w.heap.size a.free a.seed a.fresh (.slice Am a.macs.length cm) (.slice Ab a.boxes.length cb) := Whole.drew (Whole.below HR.out HBU.out (by omega))
    have h6u : Whole u.drew (w.heap.size + 1 + 1) 32 zar := Whole.drew (Whole.below H6.out HBU.out (by omega))
    have h7u : Whole u.drew (w.heap.size + 1 + 1 + 1) 28 ztr := Whole.drew (Whole.below H7.out HBU.out (by omega))
    have htu : TGRow u.drew w1.heap.size E0 := Whole.drew HTU.out
    have bbu : Below w.heap.size w u.drew := (HB.out.trans (HBU.out.mono (by omega))).drew
    refine wp_region_held_drew (S := fun W => W.rangeAt w.heap.size 0 (alcl a.free a.seed a.fresh (.slice Am a.macs.length cm) (.slice Ab a.boxes.length cb)) ∧ W.rangeAt w1.heap.size 0 ((E0).map byt)) (by kernel_rfl) (⟨Whole.range hru, TGRow.range htu⟩) (fun hHeld => ?_)
    apply wpT (i := 0) rfl (by kernel_rfl)
    case hQ => exact fun _ _ _ h => h
    case hS => exact hHeld
    case hy => exact yieldsIf_load_mid (by rfl) 32 _ rfl w.heap.size (0) rfl (alcl a.free a.seed a.fresh (.slice Am a.macs.length cm) (.slice Ab a.boxes.length cb)) _ (fun w hS => hS.1) Tryd.underlying32 rfl (by rw [algSize, alcl_length])
    (try simp only [sq])
    apply wpT (i := 1) rfl (by kernel_rfl)
    case hQ => exact fun _ _ _ h => h
    case hS => exact hHeld
    case hy => exact yieldsIf_load_mid (by rfl) 28 _ rfl w1.heap.size (0) rfl ((E0).map byt) _ (fun w hS => hS.2) Tryd.underlying28 rfl (by rw [tagSize, tag_len (hfl)])
    (try simp only [sq])
    refine wpAnyH_ready (rs := [2]) (by kernel_rfl) (by simp) ?_
    refine AllReadyH.cons rfl (fun KK hKK => ?_) AllReadyH.nil
    (try simp only [sq])
    obtain ⟨X1, hX1⟩ : ∃ x, x = u.drew.setRow (w.heap.size + 1 + 1) ((alcl a.free a.seed a.fresh (.slice Am a.macs.length cm) (.slice Ab a.boxes.length cb)).toArray) := ⟨_, rfl⟩
    have hsX1 : ALRow X1 w.heap.size a.free a.seed a.fresh (.slice Am a.macs.length cm) (.slice Ab a.boxes.length cb) := by rw [hX1]; exact Whole.setRow_far hru (by omega) _
    have e1 : Whole X1 (w.heap.size + 1 + 1) 32 (alc a.free a.seed a.fresh (.slice Am a.macs.length cm) (.slice Ab a.boxes.length cb)) := by rw [hX1]; exact Whole.setRow h6u _
    have h7X1 : Whole X1 (w.heap.size + 1 + 1 + 1) 28 ztr := by rw [hX1]; exact Whole.setRow_far h7u (by omega) _
    have bbX1 : Below w.heap.size w X1 := by rw [hX1]; exact below_setRow bbu (by omega) _
    have htX1 : TGRow X1 w1.heap.size (E0) := by rw [hX1]; exact Whole.setRow_far htu (by omega) _
    rw [if_pos (by kernel_rfl)]
    refine wp_store_row 32 _ _ rfl (w.heap.size + 1 + 1) _ rfl rfl 32 _ h6u (by rw [algSize, List.size_toArray, alcl_length]) (by rw [zar_size, List.size_toArray, alcl_length]) (alc_one _ _ _ _ _ _ _ _ _) ?_
    rw [← hX1]
    clear hX1
    refine hKK.out _ _ (⟨Whole.range hsX1, TGRow.range htX1⟩) (fun hHeld => ?_)
    clear hKK KK
    (try simp only [sq])
    refine wpAnyH_ready (rs := [3]) (by kernel_rfl) (by simp) ?_
    refine AllReadyH.cons rfl (fun KK hKK => ?_) AllReadyH.nil
    (try simp only [sq])
    have e1o := e1
    clear e1
    obtain ⟨X2, hX2⟩ : ∃ x, x = X1.setRow (w.heap.size + 1 + 1 + 1) (((E0).map byt).toArray) := ⟨_, rfl⟩
    have hsX2 : ALRow X2 w.heap.size a.free a.seed a.fresh (.slice Am a.macs.length cm) (.slice Ab a.boxes.length cb) := by rw [hX2]; exact Whole.setRow_far hsX1 (by omega) _
    have e1 : Whole X2 (w.heap.size + 1 + 1) 32 (alc a.free a.seed a.fresh (.slice Am a.macs.length cm) (.slice Ab a.boxes.length cb)) := by rw [hX2]; exact Whole.setRow_far e1o (by omega) _
    have e2 : TGRow X2 (w.heap.size + 1 + 1 + 1) (E0) := by rw [hX2]; exact Whole.setRow h7X1 _
    have bbX2 : Below w.heap.size w X2 := by rw [hX2]; exact below_setRow bbX1 (by omega) _
    have htX2 : TGRow X2 w1.heap.size (E0) := by rw [hX2]; exact Whole.setRow_far htX1 (by omega) _
    rw [if_pos (by kernel_rfl)]
    refine wp_store_row 28 _ _ rfl (w.heap.size + 1 + 1 + 1) _ rfl rfl 28 _ h7X1 (by rw [tagSize, tag_size (hfl)]) (by rw [ztr_size, tag_size (hfl)]) (tag_one _) ?_
    rw [← hX2]
    clear hX2
    refine hKK.out _ _ (⟨Whole.range hsX2, TGRow.range htX2⟩) (fun hHeld => ?_)
    clear hKK KK
    (try simp only [sq])
    apply wpT (i := 4) rfl (by kernel_rfl)
    case hQ => exact fun _ _ _ h => h
    case hS => exact hHeld
    case hy => (refine Or.inl ⟨by rfl, ?_⟩; intro w hSw; (try go_split_ands); go_simp; (try with_reducible rfl))
    (try simp only [sq])
    refine wpAnyH_done (by kernel_rfl) ?_ _
    go_wp2_with fail
    have hbf := bbX2
    refine bodyPost_ret (results_alg3 Tryd.results12 _ rfl rfl _ rfl (alc_size _ _ _ _ _) (tag_size (hfl)) e1 e2) rfl ?_
    show AlgR _ _ _ R ∧ _
    rw [HRR.out]
    exact ⟨⟨_, rfl, AlV.mono ⟨Am, cm, Ab, cb, rfl, HMC.out.below hbf (Nat.le_refl _), HBX.out.below hbf (Nat.le_refl _), HA.out⟩ fun _ _ h => .inl h⟩, hbf⟩
  | none =>
    obtain ⟨E, hE⟩ : ∃ E, E = ntag a K m := ⟨_, rfl⟩
    have hEl : E.length = 32 := by rw [hE]; exact ntag_length _ _ _
    have hng : ¬ 65536 ≤ a.macs.length := by omega
    have hRR : R = ({ a with macs := a.macs ++ [⟨K, m, E⟩] }, E, 0) := by
      have := HRR0.out
      simp only [if_neg hng] at this
      rw [this, hE]
    have HRR := Lib.hid hRR
    have hnt := antag (HX.out.below (HB.out.trans (HBU.out.mono (by omega))) (Nat.le_refl _)) hK (HM.out.below (HB.out.trans (HBU.out.mono (by omega))) (Nat.le_refl _)) hml (hT.below (Nat.le_refl _) (HB.out.trans (HBU.out.mono (by omega))))
    rw [← hE] at hnt
    have HLN := Lib.hid hlen
    have hru := Whole.below HR.out HBU.out (by omega)
    have hku := Whole.below HK.out HBU.out (by omega)
    have HRU := Lib.hid hru
    have HKU := Lib.hid hku
    have hln2 : ¬ (65536 : Int) ≤ (a.macs.length : Int) := by omega
    clear hE hRR hru hku hlen hng
    go_wp2_with (first
      | (with_reducible refine wpList_load_alg rfl _ rfl rfl HRU.out (alc_size _ _ _ _ _) ?_)
      | (with_reducible refine wpList_load_tag rfl _ rfl rfl HKU.out (tag_size hK) ?_))
    refine hnt.mono ?_
    rintro e w2 ⟨rfl, hb2⟩
    clear hnt c34
    have hpw2 : u.heap.size ≤ w2.heap.size := hb2.size
    have hpu2 : p.heap.size ≤ u.heap.size := HBU.out.size
    go_upto_region 9 with (first
      | (with_reducible refine wpList_store_tag rfl _ _ rfl (g := w2.heap.size) rfl rfl (Whole.here w2 _ _) rfl (tag_size hEl) (tag_one _) ?_))
    rw [ztr_lit]
    obtain ⟨u2, hu⟩ : ∃ x, x = (w2.alloc (.cells ztr 28)).setRow w2.heap.size (E.map byt).toArray := ⟨_, rfl⟩
    have ht : TGRow u2 w2.heap.size E := by rw [hu]; exact Whole.setRow (Whole.here _ _ _) _
    have hbu : Below w2.heap.size w2 u2 := by rw [hu]; exact below_setRow ((Below.refl _ _).alloc (Nat.le_refl _) _) (Nat.le_refl _) _
    rw [← hu]
    clear hu
    have hwu2 : w2.heap.size < u2.heap.size := ht.lt
    have HB2 : Hid (Below p.heap.size p u2) := Lib.hid (HBU.out.trans ((hb2.mono hpu2).trans (hbu.mono (by omega))))
    have HT2 := Lib.hid ht
    have HM2 := Lib.hid (HM.out.below (HB.out.trans (HB2.out.mono (by omega))) (Nat.le_refl _))
    clear hb2 hbu ht
    have hKl : (K.map byt).length = 32 := tag_len hK
    have hEl2 : (E.map byt).length = 32 := tag_len hEl
    have HCC : Hid (∀ W, Below u2.heap.size u2 W → W.rangeAt (w.heap.size + 1) 0 (K.map byt) ∧ W.rangeAt w2.heap.size 0 (E.map byt)) := Lib.hid fun W hb => ⟨TGRow.range (Whole.below (Whole.below HK.out HB2.out (by omega)) hb (by omega)), TGRow.range (Whole.below HT2.out hb (by omega))⟩
    simp only [Act.put]
    go_cut [12] (fun s wx => ∃ (g12 : Nat) (D : Option Addr) (dc : Nat), s = .pointer (some ⟨g12, 0, none⟩) ∧ Whole wx g12 90 (mcl ⟨⟨K, m, E⟩, D, dc⟩).toArray ∧ Bytes wx (fun b => p.heap.size ≤ b) (.slice D m.length dc) m ∧ Below u2.heap.size u2 wx)
    case first =>
      have bU0 : Below u2.heap.size u2 u2.drew := (Below.refl _ _).drew
      refine wp_region_held_drew (S := fun W => W.rangeAt (w.heap.size + 1) 0 (K.map byt) ∧ W.rangeAt w2.heap.size 0 (E.map byt)) (by kernel_rfl) (HCC.out _ bU0) (fun hHeld => ?_)
      generalize u2.drew = U0 at bU0 hHeld ⊢
      have bU := bU0
      apply wpT (i := 0) rfl (by kernel_rfl)
      case hQ => exact fun _ _ _ h => h
      case hS => exact hHeld
      case hy => exact yieldsIf_load_mid (by rfl) 28 _ rfl (w.heap.size + 1) (0) rfl (K.map byt) _ (fun w hS => hS.1) Tryd.underlying28 rfl (by rw [tagSize, hKl])
      (try simp only [sq])
      apply wpT (i := 1) rfl (by kernel_rfl)
      case hQ => exact fun _ _ _ h => h
      case hS => exact hHeld
      case hy => (refine Or.inl ⟨by rfl, ?_⟩; intro w hSw; (try go_split_ands); go_simp; (try with_reducible rfl))
      (try simp only [sq])
      apply wpT (i := 3) rfl (by kernel_rfl)
      case hQ => exact fun _ _ _ h => h
      case hS => exact hHeld
      case hy => exact yieldsIf_load_mid (by rfl) 28 _ rfl w2.heap.size (0) rfl (E.map byt) _ (fun w hS => hS.2) Tryd.underlying28 rfl (by rw [tagSize, hEl2])
      (try simp only [sq])
      refine wpAnyH_ready (rs := [2, 5]) (by kernel_rfl) (by simp) ?_
      refine AllReadyH.cons rfl (fun KK hKK => ?_) (AllReadyH.cons rfl (fun KK hKK => ?_) AllReadyH.nil)
      · (try simp only [sq])
        go_simp
        go_at_call 40
        refine (clone _ m _ U0 (HM2.out.below bU (Nat.le_refl _)) (by omega)).mono ?_
        rintro e V1 ⟨vc, rfl, hv, hbv⟩
        obtain ⟨D, dc, rfl, -⟩ := id hv
        have bC : Below u2.heap.size u2 V1 := bU.trans (hbv.mono bU.size)
        have hsV : U0.heap.size ≤ V1.heap.size := hbv.size
        refine hKK.out _ _ (HCC.out _ bC) (fun hHeld => ?_)
        clear hKK KK
        (try simp only [sq])
        apply wpT (i := 4) rfl (by kernel_rfl)
        case hQ => exact fun _ _ _ h => h
        case hS => exact hHeld
        case hy => exact yieldsIf_build_mac (by rfl) _ _ _ rfl (e := ⟨K, m, E⟩) hK hEl rfl rfl rfl
        (try simp only [sq])
        refine wpAnyH_ready (rs := [5]) (by kernel_rfl) (by simp) ?_
        refine AllReadyH.cons rfl (fun KK hKK => ?_) AllReadyH.nil
        (try simp only [sq])
        obtain ⟨g12, hg12⟩ : ∃ g, g = V1.heap.size := ⟨_, rfl⟩
        obtain ⟨V0, hV0⟩ : ∃ x, x = V1.alloc (.cells zmr 90) := ⟨_, rfl⟩
        have hz0 : Whole V0 g12 90 zmr := by rw [hV0, hg12]; exact Whole.here _ _ _
        have bA : Below u2.heap.size u2 V0 := by rw [hV0]; exact bC.alloc bC.size _
        have hgl : u2.heap.size ≤ g12 := by rw [hg12]; exact bC.size
        have hv2 : Bytes V0 (fun b => b ≠ g12 ∧ p.heap.size ≤ b) (.slice D m.length dc) m := by rw [hV0]; exact (hv.mono (Q' := fun b => b ≠ g12 ∧ p.heap.size ≤ b) fun b hb hq => ⟨by omega, by have := bU.size; omega⟩).alloc _
        go_simp
        change KK _ (World.alloc _ (.cells zmr 90))
        rw [← hg12, ← hV0]
        clear hV0 hg12
        refine hKK.out _ _ (HCC.out _ bA) (fun hHeld => ?_)
        clear hKK KK
        (try simp only [sq])
        refine wpAnyH_ready (rs := [6]) (by kernel_rfl) (by simp) ?_
        refine AllReadyH.cons rfl (fun KK hKK => ?_) AllReadyH.nil
        (try simp only [sq])
        obtain ⟨V2, hV2⟩ : ∃ x, x = V0.setRow g12 (mcl ⟨⟨K, m, E⟩, D, dc⟩).toArray := ⟨_, rfl⟩
        have hr2 : Whole V2 g12 90 (mcl ⟨⟨K, m, E⟩, D, dc⟩).toArray := by rw [hV2]; exact Whole.setRow hz0 _
        have bD : Below u2.heap.size u2 V2 := by rw [hV2]; exact below_setRow bA hgl _
        have hv3 : Bytes V2 (fun b => b ≠ g12 ∧ p.heap.size ≤ b) (.slice D m.length dc) m := by rw [hV2]; exact Bytes.setRow hv2 (fun _ h => h.1) _
        rw [if_pos (by kernel_rfl)]
        refine wp_store_row 90 _ _ rfl g12 _ rfl rfl 90 _ hz0 (by rw [macSize, mcl_size]) (by rw [zmr_size, mcl_size]) (all_oneCell_toArray (mcl_one _)) ?_
        rw [← hV2]
        clear hV2
        refine hKK.out _ _ (HCC.out _ bD) (fun hHeld => ?_)
        clear hKK KK
        (try simp only [sq])
        refine wpAnyH_done (by kernel_rfl) ?_ _
        go_wp2_with fail
        go_meet
        exact ⟨g12, D, dc, rfl, hr2, hv3.mono fun _ _ h => h.2, bD⟩
      · (try simp only [sq])
        obtain ⟨g12, hg12⟩ : ∃ g, g = U0.heap.size := ⟨_, rfl⟩
        obtain ⟨V0, hV0⟩ : ∃ x, x = U0.alloc (.cells zmr 90) := ⟨_, rfl⟩
        have hz0 : Whole V0 g12 90 zmr := by rw [hV0, hg12]; exact Whole.here _ _ _
        have bA : Below u2.heap.size u2 V0 := by rw [hV0]; exact bU.alloc bU.size _
        have hgl : u2.heap.size ≤ g12 := by rw [hg12]; exact bU.size
        go_simp
        change KK _ (World.alloc _ (.cells zmr 90))
        rw [← hg12, ← hV0]
        clear hV0 hg12
        refine hKK.out _ _ (HCC.out _ bA) (fun hHeld => ?_)
        clear hKK KK
        (try simp only [sq])
        refine wpAnyH_ready (rs := [2]) (by kernel_rfl) (by simp) ?_
        refine AllReadyH.cons rfl (fun KK hKK => ?_) AllReadyH.nil
        (try simp only [sq])
        go_simp
        go_at_call 40
        refine (clone _ m _ V0 (HM2.out.below bA (Nat.le_refl _)) (by omega)).mono ?_
        rintro e V1 ⟨vc, rfl, hv, hbv⟩
        obtain ⟨D, dc, rfl, -⟩ := id hv
        have bC : Below u2.heap.size u2 V1 := bA.trans (hbv.mono bA.size)
        have hz1 : Whole V1 g12 90 zmr := Whole.below hz0 hbv hz0.lt
        have hv2 : Bytes V1 (fun b => b ≠ g12 ∧ p.heap.size ≤ b) (.slice D m.length dc) m := hv.mono fun b _ hb => ⟨by have := hz0.lt; omega, by have := bA.size; omega⟩
        refine hKK.out _ _ (HCC.out _ bC) (fun hHeld => ?_)
        clear hKK KK
        (try simp only [sq])
        apply wpT (i := 4) rfl (by kernel_rfl)
        case hQ => exact fun _ _ _ h => h
        case hS => exact hHeld
        case hy => exact yieldsIf_build_mac (by rfl) _ _ _ rfl (e := ⟨K, m, E⟩) hK hEl rfl rfl rfl
        (try simp only [sq])
        refine wpAnyH_ready (rs := [6]) (by kernel_rfl) (by simp) ?_
        refine AllReadyH.cons rfl (fun KK hKK => ?_) AllReadyH.nil
        (try simp only [sq])
        obtain ⟨V2, hV2⟩ : ∃ x, x = V1.setRow g12 (mcl ⟨⟨K, m, E⟩, D, dc⟩).toArray := ⟨_, rfl⟩
        have hr2 : Whole V2 g12 90 (mcl ⟨⟨K, m, E⟩, D, dc⟩).toArray := by rw [hV2]; exact Whole.setRow hz1 _
        have bD : Below u2.heap.size u2 V2 := by rw [hV2]; exact below_setRow bC hgl _
        have hv3 : Bytes V2 (fun b => b ≠ g12 ∧ p.heap.size ≤ b) (.slice D m.length dc) m := by rw [hV2]; exact Bytes.setRow hv2 (fun _ h => h.1) _
        rw [if_pos (by kernel_rfl)]
        refine wp_store_row 90 _ _ rfl g12 _ rfl rfl 90 _ hz1 (by rw [macSize, mcl_size]) (by rw [zmr_size, mcl_size]) (all_oneCell_toArray (mcl_one _)) ?_
        rw [← hV2]
        clear hV2
        refine hKK.out _ _ (HCC.out _ bD) (fun hHeld => ?_)
        clear hKK KK
        (try simp only [sq])
        refine wpAnyH_done (by kernel_rfl) ?_ _
        go_wp2_with fail
        go_meet
        exact ⟨g12, D, dc, rfl, hr2, hv3.mono fun _ _ h => h.2, bD⟩
    case rest =>
      obtain ⟨g12, D, dc, rfl, hrow, hv, hb3⟩ := hcut
      rename World => wc
      have hpu3 : p.heap.size ≤ u2.heap.size := HB2.out.size
      have HB3 : Hid (Below p.heap.size p wc) := Lib.hid (HB2.out.trans (hb3.mono hpu3))
      have hpc : p.heap.size ≤ wc.heap.size := HB3.out.size
      have HT3 : Hid (TGRow wc w2.heap.size E) := Lib.hid (Whole.below HT2.out hb3 (by omega))
      obtain ⟨L1, hL1, hS1, hB1⟩ := HMC.out
      have hL1l : L1.length = a.macs.length := by rw [← hL1, List.length_map]
      obtain ⟨X, hX⟩ : ∃ X : MeM, X = ⟨⟨K, m, E⟩, D, dc⟩ := ⟨_, rfl⟩
      have hXm : m.length ≤ 4096 := by omega
      have hXok : mok X := by rw [hX]; exact ⟨hK, hEl, by show m.length ≤ 5000; omega⟩
      have hXe : X.e = ⟨K, m, E⟩ := by rw [hX]
      have hv' : Bytes wc (fun b => p.heap.size ≤ b) (.slice X.A X.e.msg.length X.c) X.e.msg := by rw [hX]; exact hv
      rw [← hX] at hrow
      obtain ⟨W5, hW5⟩ : ∃ x, x = (wc.alloc (.cells (mcl X).toArray 90)).alloc (.cells #[.slice Am a.macs.length cm, .slice (some ⟨wc.heap.size, 0, none⟩) 1 1] 29) := ⟨_, rfl⟩
      have hb5 : Below wc.heap.size wc W5 := by rw [hW5]; exact ((Below.refl _ _).alloc (Nat.le_refl _) _).alloc (by simp) _
      have hx1 : Whole W5 wc.heap.size 90 (mcl X).toArray := by rw [hW5]; exact (Whole.here _ _ _).alloc _
      have hx2 : Whole W5 (wc.heap.size + 1) 29 #[.slice Am a.macs.length cm, .slice (some ⟨wc.heap.size, 0, none⟩) 1 1] := by rw [hW5]; exact Whole.at_ _ _ _ _ (by simp)
      have HB5 : Hid (Below p.heap.size p W5) := Lib.hid (HB3.out.trans (hb5.mono hpc))
      have hcl := concatm (wc.heap.size + 1) Am (some ⟨wc.heap.size, 0, none⟩) cm 1 L1 [X] Q _ W5 (by rw [hL1l]; exact hx2.cell 0) (hx2.cell 1) (hS1.below (HB.out.trans (HB5.out.mono (by omega))) (Nat.le_refl _)) (seq_one hx1 rfl hXok) (by simp) (by have := HLN.out; simp only [List.length_singleton]; omega)
      have HROW := Lib.hid hrow
      have HBC := Lib.hid hb5
      have hcs : wc.heap.size ≤ W5.heap.size := hb5.size
      have hw2c : w2.heap.size < wc.heap.size := Whole.lt HT3.out
      have HV := Lib.hid (hv'.below hb5 (Nat.le_refl _))
      obtain ⟨c0, c33, c34, c35⟩ := ALRow.cells (Whole.below HR.out HB3.out (by omega))
      have HL1 := Lib.hid hL1
      have HB1 := Lib.hid hB1
      have HOK : Hid (∀ x ∈ L1 ++ [X], mok x) := Lib.hid fun x hx => by
        rcases List.mem_append.1 hx with h | h
        · exact hS1.2.2.2.1 x h
        · rw [List.mem_singleton.1 h]; exact hXok
      have hp5 : p.heap.size ≤ W5.heap.size := HB5.out.size
      have HXE := Lib.hid hXe
      clear c0 c33 c35 hL1 hB1 hS1 hL1l hX hXok hXe hv hv' hrow hb5 hx1 hx2 hXm hb3
      go_wp2_with (first
        | (with_reducible refine wpList_load_mac rfl _ rfl rfl HROW.out (mcl_size _) ?_)
        | (with_reducible refine wpList_buildSlice_mac rfl _ rfl wc.heap.size rfl _ rfl rfl ?_))
      rw [← hW5]
      clear hW5
      refine hcl.mono ?_
      rintro e w4 ⟨v', rfl, ho, hb4⟩
      obtain ⟨A5, c5, rfl, hS5⟩ := OwnS.seq ho HOK.out
      obtain ⟨n5, hn5⟩ : ∃ n, n = (L1 ++ [X]).length := ⟨_, rfl⟩
      rw [← hn5]
      have HN5 := Lib.hid hn5
      have HB4 : Hid (Below p.heap.size p w4) := Lib.hid (HB5.out.trans (hb4.mono hp5))
      have HS5 := Lib.hid (hS5.mono (Q' := fun g => p.heap.size ≤ g) fun g _ h => Nat.le_trans hp5 h)
      have HV4 := Lib.hid (HV.out.below hb4 (Nat.le_refl _))
      have hp4 : p.heap.size ≤ w4.heap.size := HB4.out.size
      have hr4 := Whole.below HR.out HB4.out (by omega)
      have HR4 := Lib.hid hr4
      obtain ⟨d0, d33, d34, d35⟩ := ALRow.cells hr4
      have f34 := ALRow.frees hr4 34
      have HT4 : Hid (TGRow w4 w2.heap.size E) := Lib.hid (Whole.below (Whole.below HT3.out HBC.out (by omega)) hb4 (by omega))
      clear hcl c34 ho hn5 hS5 hr4 d0 d33 d35 hb4
      go_upto_region 11 with fail
      obtain ⟨u5, hu⟩ : ∃ x, x = w4.setCell ⟨w.heap.size, 34, none⟩ (.slice A5 n5 c5) := ⟨_, rfl⟩
      have hru : ALRow u5.drew w.heap.size a.free a.seed a.fresh (.slice A5 n5 c5) (.slice Ab a.boxes.length cb) := by rw [hu]; exact Whole.drew (ALRow.set34 HR4.out _)
      have h6u : Whole u5.drew (w.heap.size + 1 + 1) 32 zar := by rw [hu]; exact Whole.drew (Whole.far (Whole.below H6.out HB4.out (by omega)) (by show _ ≠ w.heap.size; omega) _)
      have h7u : Whole u5.drew (w.heap.size + 1 + 1 + 1) 28 ztr := by rw [hu]; exact Whole.drew (Whole.far (Whole.below H7.out HB4.out (by omega)) (by show _ ≠ w.heap.size; omega) _)
      have htu : TGRow u5.drew w2.heap.size E := by rw [hu]; exact Whole.drew (Whole.far HT4.out (by show _ ≠ w.heap.size; omega) _)
      have bbu : Below w.heap.size w u5.drew := by rw [hu]; exact ((HB.out.trans (HB4.out.mono (by omega))).setCell (p := ⟨w.heap.size, 34, none⟩) (Nat.le_refl _) _).drew
      have kp0 : ∀ b, p.heap.size ≤ b → u5.drew.heap[b]? = w4.heap[b]? := by rw [hu]; exact fun b hb => heap_setCell_other w4 ⟨w.heap.size, 34, none⟩ b _ (by show b ≠ w.heap.size; omega)
      have sz0 : w4.heap.size ≤ u5.drew.heap.size := by rw [hu]; exact ((Below.refl 0 w4).setCell (p := ⟨w.heap.size, 34, none⟩) (Nat.zero_le _) _).size
      rw [← hu]
      clear hu d34 f34
      refine wp_region_held_drew (S := fun W => W.rangeAt w.heap.size 0 (alcl a.free a.seed a.fresh (.slice A5 n5 c5) (.slice Ab a.boxes.length cb)) ∧ W.rangeAt w2.heap.size 0 ((E).map byt)) (by kernel_rfl) (⟨Whole.range hru, TGRow.range htu⟩) (fun hHeld => ?_)
      apply wpT (i := 0) rfl (by kernel_rfl)
      case hQ => exact fun _ _ _ h => h
      case hS => exact hHeld
      case hy => exact yieldsIf_load_mid (by rfl) 32 _ rfl w.heap.size (0) rfl (alcl a.free a.seed a.fresh (.slice A5 n5 c5) (.slice Ab a.boxes.length cb)) _ (fun w hS => hS.1) Tryd.underlying32 rfl (by rw [algSize, alcl_length])
      (try simp only [sq])
      apply wpT (i := 1) rfl (by kernel_rfl)
      case hQ => exact fun _ _ _ h => h
      case hS => exact hHeld
      case hy => exact yieldsIf_load_mid (by rfl) 28 _ rfl w2.heap.size (0) rfl ((E).map byt) _ (fun w hS => hS.2) Tryd.underlying28 rfl (by rw [tagSize, tag_len (hEl)])
      (try simp only [sq])
      refine wpAnyH_ready (rs := [2]) (by kernel_rfl) (by simp) ?_
      refine AllReadyH.cons rfl (fun KK hKK => ?_) AllReadyH.nil
      (try simp only [sq])
      obtain ⟨X1, hX1⟩ : ∃ x, x = u5.drew.setRow (w.heap.size + 1 + 1) ((alcl a.free a.seed a.fresh (.slice A5 n5 c5) (.slice Ab a.boxes.length cb)).toArray) := ⟨_, rfl⟩
      have hsX1 : ALRow X1 w.heap.size a.free a.seed a.fresh (.slice A5 n5 c5) (.slice Ab a.boxes.length cb) := by rw [hX1]; exact Whole.setRow_far hru (by omega) _
      have e1 : Whole X1 (w.heap.size + 1 + 1) 32 (alc a.free a.seed a.fresh (.slice A5 n5 c5) (.slice Ab a.boxes.length cb)) := by rw [hX1]; exact Whole.setRow h6u _
      have h7X1 : Whole X1 (w.heap.size + 1 + 1 + 1) 28 ztr := by rw [hX1]; exact Whole.setRow_far h7u (by omega) _
      have bbX1 : Below w.heap.size w X1 := by rw [hX1]; exact below_setRow bbu (by omega) _
      have htX1 : TGRow X1 w2.heap.size (E) := by rw [hX1]; exact Whole.setRow_far htu (by omega) _
      have kpX1 : ∀ b, p.heap.size ≤ b → X1.heap[b]? = w4.heap[b]? := by rw [hX1]; exact fun b hb => (setRow_other _ _ b _ (by omega)).trans (kp0 b hb)
      have szX1 : w4.heap.size ≤ X1.heap.size := by rw [hX1]; exact Nat.le_trans sz0 (below_setRow (B := 0) (Below.refl 0 _) (Nat.zero_le _) _).size
      rw [if_pos (by kernel_rfl)]
      refine wp_store_row 32 _ _ rfl (w.heap.size + 1 + 1) _ rfl rfl 32 _ h6u (by rw [algSize, List.size_toArray, alcl_length]) (by rw [zar_size, List.size_toArray, alcl_length]) (alc_one _ _ _ _ _ _ _ _ _) ?_
      rw [← hX1]
      clear hX1
      refine hKK.out _ _ (⟨Whole.range hsX1, TGRow.range htX1⟩) (fun hHeld => ?_)
      clear hKK KK
      (try simp only [sq])
      refine wpAnyH_ready (rs := [3]) (by kernel_rfl) (by simp) ?_
      refine AllReadyH.cons rfl (fun KK hKK => ?_) AllReadyH.nil
      (try simp only [sq])
      have e1o := e1
      clear e1
      obtain ⟨X2, hX2⟩ : ∃ x, x = X1.setRow (w.heap.size + 1 + 1 + 1) (((E).map byt).toArray) := ⟨_, rfl⟩
      have hsX2 : ALRow X2 w.heap.size a.free a.seed a.fresh (.slice A5 n5 c5) (.slice Ab a.boxes.length cb) := by rw [hX2]; exact Whole.setRow_far hsX1 (by omega) _
      have e1 : Whole X2 (w.heap.size + 1 + 1) 32 (alc a.free a.seed a.fresh (.slice A5 n5 c5) (.slice Ab a.boxes.length cb)) := by rw [hX2]; exact Whole.setRow_far e1o (by omega) _
      have e2 : TGRow X2 (w.heap.size + 1 + 1 + 1) (E) := by rw [hX2]; exact Whole.setRow h7X1 _
      have bbX2 : Below w.heap.size w X2 := by rw [hX2]; exact below_setRow bbX1 (by omega) _
      have htX2 : TGRow X2 w2.heap.size (E) := by rw [hX2]; exact Whole.setRow_far htX1 (by omega) _
      have kpX2 : ∀ b, p.heap.size ≤ b → X2.heap[b]? = w4.heap[b]? := by rw [hX2]; exact fun b hb => (setRow_other _ _ b _ (by omega)).trans (kpX1 b hb)
      have szX2 : w4.heap.size ≤ X2.heap.size := by rw [hX2]; exact Nat.le_trans szX1 (below_setRow (B := 0) (Below.refl 0 _) (Nat.zero_le _) _).size
      rw [if_pos (by kernel_rfl)]
      refine wp_store_row 28 _ _ rfl (w.heap.size + 1 + 1 + 1) _ rfl rfl 28 _ h7X1 (by rw [tagSize, tag_size (hEl)]) (by rw [ztr_size, tag_size (hEl)]) (tag_one _) ?_
      rw [← hX2]
      clear hX2
      refine hKK.out _ _ (⟨Whole.range hsX2, TGRow.range htX2⟩) (fun hHeld => ?_)
      clear hKK KK
      (try simp only [sq])
      apply wpT (i := 4) rfl (by kernel_rfl)
      case hQ => exact fun _ _ _ h => h
      case hS => exact hHeld
      case hy => (refine Or.inl ⟨by rfl, ?_⟩; intro w hSw; (try go_split_ands); go_simp; (try with_reducible rfl))
      (try simp only [sq])
      refine wpAnyH_done (by kernel_rfl) ?_ _
      go_wp2_with fail
      have hbf := bbX2
      refine bodyPost_ret (results_alg3 Tryd.results12 _ rfl rfl _ rfl (alc_size _ _ _ _ _) (tag_size (hEl)) e1 e2) rfl ?_
      show AlgR _ _ _ R ∧ _
      rw [HRR.out]
      refine ⟨⟨_, rfl, ?_⟩, hbf⟩
      rw [HN5.out]
      have h := alv_more (a := a) (X := X) HL1.out (fun x hx => ((HB1.out x hx).below hbf (Nat.le_refl _)).mono fun _ _ h => .inl h) ((HS5.out.keep szX2 fun g _ hq => kpX2 g hq).mono fun g _ h => (by omega : w.heap.size ≤ g)) ((HV4.out.keep fun g _ hq => kpX2 g hq).mono fun g _ h => (by omega : w.heap.size ≤ g)) (HBX.out.below hbf (Nat.le_refl _)) HA.out HLN.out
      rw [HXE.out] at h
      exact h
end Go.Proofs.YtiikhjifjdpgdaaDoor
namespace Go.Proofs.YtiikhjifjdpgdaaDoor
open Go Go.RowKit Sh Leaf

set_option linter.unusedSimpArgs false in
set_option linter.unusedVariables false in
set_option maxRecDepth 100000 in
set_option maxHeartbeats 8000000 in
theorem aawk (w : World) (hT : Tables w) : Calls Tryd.prog 16 #[] w fun e w' => e = .returned (.bool true) ∧ Below w.heap.size w w' := by
  have HT := Lib.hid hT
  clear hT
  go_enter Tryd.func16, Tryd.ntmps16
  have H1 : Hid (Below w.heap.size w w) := Lib.hid (Below.refl _ _)
  go_wp2_with (with_reducible refine wpList_build_tag0 rfl rfl ?_)
  refine (anew true (K := ztag) rfl w (Off [])).mono ?_
  rintro e u0 ⟨⟨v, rfl, hv⟩, hb1⟩
  obtain ⟨a, ha⟩ : ∃ a, a = (⟨true, ztag, 0, [], []⟩ : Alg) := ⟨_, rfl⟩
  rw [← ha] at hv
  have HA := Lib.hid ha
  clear ha
  obtain ⟨Ama, cma, Aba, cba, rfl, hM, hBx, hA⟩ := hv
  have hsu0 : w.heap.size ≤ u0.heap.size := hb1.size
  have H2 : Hid (Below w.heap.size w u0) := Lib.hid ((Below.trans H1.out (Below.mono hb1 (Below.size H1.out))))
  clear H1
  have H3 : Hid (AlV u0 (Off []) (.agg (alc a.free a.seed a.fresh (.slice Ama a.macs.length cma) (.slice Aba a.boxes.length cba))) a) := Lib.hid (⟨Ama, cma, Aba, cba, rfl, hM, hBx, hA⟩)
  clear hM hBx hA hb1
  have hna : a.macs.length ≤ 0 := by rw [HA.out]; exact Nat.zero_le _
  have hcv := conv_const #[.int .u8 120] 1 1 u0
  have hby := one_const u0 120#8 120 byt120
  have hbm := below_mark u0 #[.int .u8 120] 5 (1, 2)
  go_wp2_with (with_reducible refine wpList_build_tag1 rfl _ rfl 1#8 byt1 rfl ?_)
  obtain ⟨p1, hp⟩ : ∃ p, p = u0.alloc (.cells #[.int .u8 120] 5 (1, 2)) := ⟨_, rfl⟩
  rw [← hp] at hby hbm ⊢
  have hsp1 : u0.heap.size + 1 ≤ p1.heap.size := by rw [hp]; simp
  clear hp hcv
  have H4 : Hid (Below w.heap.size w p1) := Lib.hid ((Below.trans H2.out (Below.mono hbm (Below.size H2.out))))
  have H5 : Hid (AlV p1 (Off []) (.agg (alc a.free a.seed a.fresh (.slice Ama a.macs.length cma) (.slice Aba a.boxes.length cba))) a) := Lib.hid ((AlV.below H3.out hbm (Nat.le_refl _)))
  clear H2 H3
  clear hbm
  have hcl := pmac (m := [120#8]) H5.out (by omega) (tg1_len 1#8) hby (by simp) (Tables.below HT.out (Nat.le_refl _) H4.out)
  obtain ⟨R, hR⟩ : ∃ R, R = aMac a (tg1 1#8) [120#8] := ⟨_, rfl⟩
  have hlT : R.2.1.length = 32 := by rw [hR]; exact AlV.mac_len H5.out _ _
  rw [← hR] at hcl
  obtain ⟨b, T, er⟩ := R
  have HEb := Lib.hid hR
  clear hR
  dsimp only [AlgR] at hcl hlT
  clear hby
  refine hcl.mono ?_
  rintro e u2 ⟨⟨x, rfl, hx⟩, hbu⟩
  clear hcl
  obtain ⟨Amb, cmb, Abb, cbb, rfl, hM, hBx, hA⟩ := hx
  have hsu2 : p1.heap.size ≤ u2.heap.size := hbu.size
  have hlast : ∀ y ∈ ([] : List Nat), y < p1.heap.size := by intro y hy; cases hy
  have H6 : Hid (Below w.heap.size w u2) := Lib.hid ((Below.trans H4.out (Below.mono hbu (Below.size H4.out))))
  have H7 : Hid (AlV u2 (Off []) (.agg (alc a.free a.seed a.fresh (.slice Ama a.macs.length cma) (.slice Aba a.boxes.length cba))) a) := Lib.hid ((AlV.below H5.out hbu (Nat.le_refl _)))
  clear H4 H5
  have H8 : Hid (AlV u2 (Off []) (.agg (alc b.free b.seed b.fresh (.slice Amb b.macs.length cmb) (.slice Abb b.boxes.length cbb))) b) := Lib.hid (AlV.fresh ⟨Amb, cmb, Abb, cbb, rfl, hM, hBx, hA⟩ hlast)
  clear hM hBx hA hbu hlast
  have hnb : b.macs.length ≤ 1 := by have := mac_le a (tg1 1#8) [120#8]; rw [← HEb.out] at this; simp only at this; omega
  have ks0 : ∀ z0 z1 : Array Value, Whole ((u2.alloc (.cells z0 32)).alloc (.cells z1 28)) u2.heap.size 32 z0 := fun _ _ => (Whole.alloc (Whole.here _ _ _) _)
  have ks1 : ∀ z0 z1 : Array Value, Whole (((u2.alloc (.cells z0 32)).alloc (.cells z1 28)).setRow u2.heap.size (alc b.free b.seed b.fresh (.slice Amb b.macs.length cmb) (.slice Abb b.boxes.length cbb))) (u2.heap.size + 1) 28 z1 := fun _ _ => (Whole.setRow_far (Whole.at_ _ _ _ _ (by simp)) (by omega) _)
  go_upto_region 2 with (first
    | (with_reducible refine wpList_store_alg rfl _ _ rfl (g := u2.heap.size) rfl rfl (ks0 _ _) rfl (alc_size _ _ _ _ _) (alc_one _ _ _ _ _ _ _ _ _) ?_)
    | (with_reducible refine wpList_store_tag rfl _ _ rfl (g := (u2.heap.size + 1)) rfl rfl (ks1 _ _) rfl (tag_size hlT) (tag_one _) ?_))
  clear ks0 ks1
  rw [zar_lit]
  rw [ztr_lit]
  obtain ⟨q3, hq⟩ : ∃ q, q = ((((u2.alloc (.cells zar 32)).alloc (.cells ztr 28)).setRow u2.heap.size (alc b.free b.seed b.fresh (.slice Amb b.macs.length cmb) (.slice Abb b.boxes.length cbb))).setRow (u2.heap.size + 1) (T.map byt).toArray) := ⟨_, rfl⟩
  rw [← hq]
  have hsq3 : u2.heap.size + 2 ≤ q3.heap.size := by rw [hq]; simp
  have H9 : Hid (Below w.heap.size w q3) := Lib.hid (by rw [hq]; exact (below_setRow (below_setRow (Below.trans H6.out (Below.mono (Below.alloc (Below.alloc (Below.refl _ _) (Nat.le_refl _) _) (by simp) _) (Below.size H6.out))) (by omega) _) (by omega) _))
  have H10 : Hid (AlV q3 (Off [(u2.heap.size + 1), u2.heap.size]) (.agg (alc a.free a.seed a.fresh (.slice Ama a.macs.length cma) (.slice Aba a.boxes.length cba))) a) := Lib.hid (by rw [hq]; exact (AlV.store (AlV.store (AlV.below (AlV.grow (AlV.grow H7.out (by omega)) (by omega)) (Below.alloc (Below.alloc (Below.refl _ _) (Nat.le_refl _) _) (by simp) _) (Nat.le_refl _)) (by simp) _) (by simp) _))
  have H11 : Hid (AlV q3 (Off [(u2.heap.size + 1), u2.heap.size]) (.agg (alc b.free b.seed b.fresh (.slice Amb b.macs.length cmb) (.slice Abb b.boxes.length cbb))) b) := Lib.hid (by rw [hq]; exact (AlV.store (AlV.store (AlV.below (AlV.grow (AlV.grow H8.out (by omega)) (by omega)) (Below.alloc (Below.alloc (Below.refl _ _) (Nat.le_refl _) _) (by simp) _) (Nat.le_refl _)) (by simp) _) (by simp) _))
  clear H6 H7 H8
  have H12 : Hid (ALRow q3 u2.heap.size b.free b.seed b.fresh (.slice Amb b.macs.length cmb) (.slice Abb b.boxes.length cbb)) := Lib.hid (by rw [hq]; exact (Whole.setRow_far (Whole.setRow (Whole.alloc (Whole.here _ _ _) _) _) (by omega) _))
  have H13 : Hid (TGRow q3 (u2.heap.size + 1) T) := Lib.hid (by rw [hq]; exact (Whole.setRow (Whole.setRow_far (Whole.at_ _ _ _ _ (by simp)) (by omega) _) _))
  clear hq
  clear H10
  have hcv := conv_const #[.int .u8 120] 1 1 q3
  have hby := one_const q3 120#8 120 byt120
  have hbm := below_mark q3 #[.int .u8 120] 5 (1, 2)
  go_wp2_with (first
    | (with_reducible refine wpList_load_alg rfl _ rfl rfl H12.out (alc_size _ _ _ _ _) ?_)
    | (with_reducible refine wpList_build_tag1 rfl _ rfl 1#8 byt1 rfl ?_))
  obtain ⟨p4, hp⟩ : ∃ p, p = q3.alloc (.cells #[.int .u8 120] 5 (1, 2)) := ⟨_, rfl⟩
  rw [← hp] at hby hbm ⊢
  have hsp4 : q3.heap.size + 1 ≤ p4.heap.size := by rw [hp]; simp
  clear hp hcv
  have H14 : Hid (Below w.heap.size w p4) := Lib.hid ((Below.trans H9.out (Below.mono hbm (Below.size H9.out))))
  have H15 : Hid (AlV p4 (Off [(u2.heap.size + 1), u2.heap.size]) (.agg (alc b.free b.seed b.fresh (.slice Amb b.macs.length cmb) (.slice Abb b.boxes.length cbb))) b) := Lib.hid ((AlV.below H11.out hbm (Nat.le_refl _)))
  have H16 : Hid (ALRow p4 u2.heap.size b.free b.seed b.fresh (.slice Amb b.macs.length cmb) (.slice Abb b.boxes.length cbb)) := Lib.hid ((Whole.below H12.out hbm (Whole.lt H12.out)))
  have H17 : Hid (TGRow p4 (u2.heap.size + 1) T) := Lib.hid ((Whole.below H13.out hbm (Whole.lt H13.out)))
  clear H9 H11 H12 H13
  clear hbm
  have hcl := pmac (m := [120#8]) H15.out (by omega) (tg1_len 1#8) hby (by simp) (Tables.below HT.out (Nat.le_refl _) H14.out)
  obtain ⟨R, hR⟩ : ∃ R, R = aMac b (tg1 1#8) [120#8] := ⟨_, rfl⟩
  have hlU : R.2.1.length = 32 := by rw [hR]; exact AlV.mac_len H15.out _ _
  rw [← hR] at hcl
  obtain ⟨c, U, es⟩ := R
  have HEc := Lib.hid hR
  clear hR
  dsimp only [AlgR] at hcl hlU
  clear hby
  refine hcl.mono ?_
  rintro e u5 ⟨⟨x, rfl, hx⟩, hbu⟩
  clear hcl
  obtain ⟨Amc, cmc, Abc, cbc, rfl, hM, hBx, hA⟩ := hx
  have hsu5 : p4.heap.size ≤ u5.heap.size := hbu.size
  have hlast : ∀ y ∈ ([(u2.heap.size + 1), u2.heap.size] : List Nat), y < p4.heap.size := by intro y hy; simp at hy; have := (Whole.lt H17.out); omega
  have H18 : Hid (Below w.heap.size w u5) := Lib.hid ((Below.trans H14.out (Below.mono hbu (Below.size H14.out))))
  have H19 : Hid (AlV u5 (Off [(u2.heap.size + 1), u2.heap.size]) (.agg (alc b.free b.seed b.fresh (.slice Amb b.macs.length cmb) (.slice Abb b.boxes.length cbb))) b) := Lib.hid ((AlV.below H15.out hbu (Nat.le_refl _)))
  have H20 : Hid (ALRow u5 u2.heap.size b.free b.seed b.fresh (.slice Amb b.macs.length cmb) (.slice Abb b.boxes.length cbb)) := Lib.hid ((Whole.below H16.out hbu (Whole.lt H16.out)))
  have H21 : Hid (TGRow u5 (u2.heap.size + 1) T) := Lib.hid ((Whole.below H17.out hbu (Whole.lt H17.out)))
  clear H14 H15 H16 H17
  have H22 : Hid (AlV u5 (Off [(u2.heap.size + 1), u2.heap.size]) (.agg (alc c.free c.seed c.fresh (.slice Amc c.macs.length cmc) (.slice Abc c.boxes.length cbc))) c) := Lib.hid (AlV.fresh ⟨Amc, cmc, Abc, cbc, rfl, hM, hBx, hA⟩ hlast)
  clear hM hBx hA hbu hlast
  have ks0 : ∀ z0 z1 : Array Value, Whole ((u5.alloc (.cells z0 32)).alloc (.cells z1 28)) u5.heap.size 32 z0 := fun _ _ => (Whole.alloc (Whole.here _ _ _) _)
  have ks1 : ∀ z0 z1 : Array Value, Whole (((u5.alloc (.cells z0 32)).alloc (.cells z1 28)).setRow u5.heap.size (alc c.free c.seed c.fresh (.slice Amc c.macs.length cmc) (.slice Abc c.boxes.length cbc))) (u5.heap.size + 1) 28 z1 := fun _ _ => (Whole.setRow_far (Whole.at_ _ _ _ _ (by simp)) (by omega) _)
  go_upto_region 3 with (first
    | (with_reducible refine wpList_store_alg rfl _ _ rfl (g := u5.heap.size) rfl rfl (ks0 _ _) rfl (alc_size _ _ _ _ _) (alc_one _ _ _ _ _ _ _ _ _) ?_)
    | (with_reducible refine wpList_store_tag rfl _ _ rfl (g := (u5.heap.size + 1)) rfl rfl (ks1 _ _) rfl (tag_size hlU) (tag_one _) ?_))
  clear ks0 ks1
  rw [zar_lit]
  rw [ztr_lit]
  obtain ⟨q6, hq⟩ : ∃ q, q = ((((u5.alloc (.cells zar 32)).alloc (.cells ztr 28)).setRow u5.heap.size (alc c.free c.seed c.fresh (.slice Amc c.macs.length cmc) (.slice Abc c.boxes.length cbc))).setRow (u5.heap.size + 1) (U.map byt).toArray) := ⟨_, rfl⟩
  rw [← hq]
  have hsq6 : u5.heap.size + 2 ≤ q6.heap.size := by rw [hq]; simp
  have H23 : Hid (Below w.heap.size w q6) := Lib.hid (by rw [hq]; exact (below_setRow (below_setRow (Below.trans H18.out (Below.mono (Below.alloc (Below.alloc (Below.refl _ _) (Nat.le_refl _) _) (by simp) _) (Below.size H18.out))) (by omega) _) (by omega) _))
  have H24 : Hid (AlV q6 (Off [(u5.heap.size + 1), u5.heap.size, (u2.heap.size + 1), u2.heap.size]) (.agg (alc b.free b.seed b.fresh (.slice Amb b.macs.length cmb) (.slice Abb b.boxes.length cbb))) b) := Lib.hid (by rw [hq]; exact (AlV.store (AlV.store (AlV.below (AlV.grow (AlV.grow H19.out (by omega)) (by omega)) (Below.alloc (Below.alloc (Below.refl _ _) (Nat.le_refl _) _) (by simp) _) (Nat.le_refl _)) (by simp) _) (by simp) _))
  have H25 : Hid (ALRow q6 u2.heap.size b.free b.seed b.fresh (.slice Amb b.macs.length cmb) (.slice Abb b.boxes.length cbb)) := Lib.hid (by rw [hq]; exact (Whole.setRow_far (Whole.setRow_far (Whole.below H20.out (Below.alloc (Below.alloc (Below.refl _ _) (Nat.le_refl _) _) (by simp) _) (Whole.lt H20.out)) (by omega) _) (by omega) _))
  have H26 : Hid (TGRow q6 (u2.heap.size + 1) T) := Lib.hid (by rw [hq]; exact (Whole.setRow_far (Whole.setRow_far (Whole.below H21.out (Below.alloc (Below.alloc (Below.refl _ _) (Nat.le_refl _) _) (by simp) _) (Whole.lt H21.out)) (by omega) _) (by omega) _))
  have H27 : Hid (AlV q6 (Off [(u5.heap.size + 1), u5.heap.size, (u2.heap.size + 1), u2.heap.size]) (.agg (alc c.free c.seed c.fresh (.slice Amc c.macs.length cmc) (.slice Abc c.boxes.length cbc))) c) := Lib.hid (by rw [hq]; exact (AlV.store (AlV.store (AlV.below (AlV.grow (AlV.grow H22.out (by omega)) (by omega)) (Below.alloc (Below.alloc (Below.refl _ _) (Nat.le_refl _) _) (by simp) _) (Nat.le_refl _)) (by simp) _) (by simp) _))
  clear H18 H19 H20 H21 H22
  have H28 : Hid (ALRow q6 u5.heap.size c.free c.seed c.fresh (.slice Amc c.macs.length cmc) (.slice Abc c.boxes.length cbc)) := Lib.hid (by rw [hq]; exact (Whole.setRow_far (Whole.setRow (Whole.alloc (Whole.here _ _ _) _) _) (by omega) _))
  have H29 : Hid (TGRow q6 (u5.heap.size + 1) U) := Lib.hid (by rw [hq]; exact (Whole.setRow (Whole.setRow_far (Whole.at_ _ _ _ _ (by simp)) (by omega) _) _))
  clear hq
  clear H24
  have hcv := conv_const #[.int .u8 121] 1 1 q6
  have hby := one_const q6 121#8 121 byt121
  have hbm := below_mark q6 #[.int .u8 121] 5 (1, 2)
  go_wp2_with (first
    | (with_reducible refine wpList_load_alg rfl _ rfl rfl H28.out (alc_size _ _ _ _ _) ?_)
    | (with_reducible refine wpList_build_tag1 rfl _ rfl 1#8 byt1 rfl ?_))
  obtain ⟨p7, hp⟩ : ∃ p, p = q6.alloc (.cells #[.int .u8 121] 5 (1, 2)) := ⟨_, rfl⟩
  rw [← hp] at hby hbm ⊢
  have hsp7 : q6.heap.size + 1 ≤ p7.heap.size := by rw [hp]; simp
  clear hp hcv
  have H30 : Hid (Below w.heap.size w p7) := Lib.hid ((Below.trans H23.out (Below.mono hbm (Below.size H23.out))))
  have H31 : Hid (ALRow p7 u2.heap.size b.free b.seed b.fresh (.slice Amb b.macs.length cmb) (.slice Abb b.boxes.length cbb)) := Lib.hid ((Whole.below H25.out hbm (Whole.lt H25.out)))
  have H32 : Hid (TGRow p7 (u2.heap.size + 1) T) := Lib.hid ((Whole.below H26.out hbm (Whole.lt H26.out)))
  have H33 : Hid (AlV p7 (Off [(u5.heap.size + 1), u5.heap.size, (u2.heap.size + 1), u2.heap.size]) (.agg (alc c.free c.seed c.fresh (.slice Amc c.macs.length cmc) (.slice Abc c.boxes.length cbc))) c) := Lib.hid ((AlV.below H27.out hbm (Nat.le_refl _)))
  have H34 : Hid (ALRow p7 u5.heap.size c.free c.seed c.fresh (.slice Amc c.macs.length cmc) (.slice Abc c.boxes.length cbc)) := Lib.hid ((Whole.below H28.out hbm (Whole.lt H28.out)))
  have H35 : Hid (TGRow p7 (u5.heap.size + 1) U) := Lib.hid ((Whole.below H29.out hbm (Whole.lt H29.out)))
  clear H23 H25 H26 H27 H28 H29
  clear hbm
  have hcl := plook (m := [121#8]) H33.out (tg1_len 1#8) hby (by simp) (Tables.below HT.out (Nat.le_refl _) H30.out)
  obtain ⟨R, hR⟩ : ∃ R, R = aLook c (tg1 1#8) [121#8] := ⟨_, rfl⟩
  have hlV : R.1.length = 32 := by rw [hR]; exact AlV.look_len H33.out _ _
  rw [← hR] at hcl
  obtain ⟨V, ok⟩ := R
  have HEV := Lib.hid hR
  clear hR hby
  dsimp only [lres] at hcl hlV
  refine hcl.mono ?_
  rintro e u9 ⟨rfl, hbu⟩
  clear hcl
  have hsu9 : p7.heap.size ≤ u9.heap.size := hbu.size
  have H36 : Hid (Below w.heap.size w u9) := Lib.hid ((Below.trans H30.out (Below.mono hbu (Below.size H30.out))))
  have H37 : Hid (ALRow u9 u2.heap.size b.free b.seed b.fresh (.slice Amb b.macs.length cmb) (.slice Abb b.boxes.length cbb)) := Lib.hid ((Whole.below H31.out hbu (Whole.lt H31.out)))
  have H38 : Hid (TGRow u9 (u2.heap.size + 1) T) := Lib.hid ((Whole.below H32.out hbu (Whole.lt H32.out)))
  have H39 : Hid (AlV u9 (Off [(u5.heap.size + 1), u5.heap.size, (u2.heap.size + 1), u2.heap.size]) (.agg (alc c.free c.seed c.fresh (.slice Amc c.macs.length cmc) (.slice Abc c.boxes.length cbc))) c) := Lib.hid ((AlV.below H33.out hbu (Nat.le_refl _)))
  have H40 : Hid (ALRow u9 u5.heap.size c.free c.seed c.fresh (.slice Amc c.macs.length cmc) (.slice Abc c.boxes.length cbc)) := Lib.hid ((Whole.below H34.out hbu (Whole.lt H34.out)))
  have H41 : Hid (TGRow u9 (u5.heap.size + 1) U) := Lib.hid ((Whole.below H35.out hbu (Whole.lt H35.out)))
  clear H30 H31 H32 H33 H34 H35
  clear hbu
  have ks0 : ∀ z0 : Array Value, Whole (u9.alloc (.cells z0 28)) u9.heap.size 28 z0 := fun _ => (Whole.here _ _ _)
  go_upto_region 4 with (with_reducible refine wpList_store_tag rfl _ _ rfl (g := u9.heap.size) rfl rfl (ks0 _) rfl (tag_size hlV) (tag_one _) ?_)
  clear ks0
  rw [ztr_lit]
  obtain ⟨q8, hq⟩ : ∃ q, q = ((u9.alloc (.cells ztr 28)).setRow u9.heap.size (V.map byt).toArray) := ⟨_, rfl⟩
  rw [← hq]
  have hsq8 : u9.heap.size + 1 ≤ q8.heap.size := by rw [hq]; simp
  have H42 : Hid (Below w.heap.size w q8) := Lib.hid (by rw [hq]; exact (below_setRow (Below.trans H36.out (Below.mono (Below.alloc (Below.refl _ _) (Nat.le_refl _) _) (Below.size H36.out))) (by omega) _))
  have H43 : Hid (ALRow q8 u2.heap.size b.free b.seed b.fresh (.slice Amb b.macs.length cmb) (.slice Abb b.boxes.length cbb)) := Lib.hid (by rw [hq]; exact (Whole.setRow_far (Whole.below H37.out (Below.alloc (Below.refl _ _) (Nat.le_refl _) _) (Whole.lt H37.out)) (by omega) _))
  have H44 : Hid (TGRow q8 (u2.heap.size + 1) T) := Lib.hid (by rw [hq]; exact (Whole.setRow_far (Whole.below H38.out (Below.alloc (Below.refl _ _) (Nat.le_refl _) _) (Whole.lt H38.out)) (by omega) _))
  have H45 : Hid (AlV q8 (Off [u9.heap.size, (u5.heap.size + 1), u5.heap.size, (u2.heap.size + 1), u2.heap.size]) (.agg (alc c.free c.seed c.fresh (.slice Amc c.macs.length cmc) (.slice Abc c.boxes.length cbc))) c) := Lib.hid (by rw [hq]; exact (AlV.store (AlV.below (AlV.grow H39.out (by omega)) (Below.alloc (Below.refl _ _) (Nat.le_refl _) _) (Nat.le_refl _)) (by simp) _))
  have H46 : Hid (ALRow q8 u5.heap.size c.free c.seed c.fresh (.slice Amc c.macs.length cmc) (.slice Abc c.boxes.length cbc)) := Lib.hid (by rw [hq]; exact (Whole.setRow_far (Whole.below H40.out (Below.alloc (Below.refl _ _) (Nat.le_refl _) _) (Whole.lt H40.out)) (by omega) _))
  have H47 : Hid (TGRow q8 (u5.heap.size + 1) U) := Lib.hid (by rw [hq]; exact (Whole.setRow_far (Whole.below H41.out (Below.alloc (Below.refl _ _) (Nat.le_refl _) _) (Whole.lt H41.out)) (by omega) _))
  clear H36 H37 H38 H39 H40 H41
  have H48 : Hid (TGRow q8 u9.heap.size V) := Lib.hid (by rw [hq]; exact (Whole.setRow (Whole.here _ _ _) _))
  clear hq
  have hF : b = ⟨true, ztag, 0, [⟨tg1 1#8, [120#8], sym 109#8 1⟩], []⟩ ∧ T = sym 109#8 1 ∧ er = 0 ∧ c = b ∧ U = T ∧ es = 0 ∧ ok = false := by
    have h1 := HEb.out
    rw [HA.out] at h1
    have h2 : aMac (⟨true, ztag, 0, [], []⟩ : Alg) (tg1 1#8) [120#8] = (⟨true, ztag, 0, [⟨tg1 1#8, [120#8], sym 109#8 1⟩], []⟩, sym 109#8 1, 0) := rfl
    rw [h2] at h1
    injection h1 with e1 h1
    injection h1 with e2 e3
    have h3 := HEc.out
    have h4 : aMac b (tg1 1#8) [120#8] = (b, sym 109#8 1, 0) := by
      rw [e1]
      unfold aMac
      rw [if_neg (by simp)]
      have : fnd [(⟨tg1 1#8, [120#8], sym 109#8 1⟩ : Me)] (tg1 1#8) [120#8] = some (sym 109#8 1) := by unfold fnd; simp
      simp only [this]
    rw [h4] at h3
    injection h3 with e4 h3
    injection h3 with e5 e6
    have h5 := HEV.out
    have h6 : aLook c (tg1 1#8) [121#8] = (ztag, false) := by
      rw [e4, e1]
      unfold aLook
      have : fnd [(⟨tg1 1#8, [120#8], sym 109#8 1⟩ : Me)] (tg1 1#8) [121#8] = none := by unfold fnd; simp
      simp only [this, if_true]
    rw [h6] at h5
    injection h5 with e7 e8
    exact ⟨e1, e2, e3, e4, by rw [e5, e2], e6, e8⟩
  obtain ⟨e1, e2, rfl, e4, e5, rfl, rfl⟩ := hF
  subst e4 e5
  have hcc : c.macs.length = 1 := by rw [e1]; rfl
  have HT2 := Lib.hid e2
  have HCC1 := Lib.hid hcc
  clear e1 e2 hcc
  have hsy : ∀ W, Calls Tryd.prog 48 #[.int .u8 109, .int .i64 1] W fun e w' => e = .returned (tagv (sym 109#8 1)) ∧ Below W.heap.size W w' := fun W => by have h := symbol 109#8 1 W; rw [show bv 109#8 = 109 from bv_lit 109 (by omega)] at h; exact h
  have HSY := Lib.hid hsy
  clear hsy
  have hq1 := fun W => eql_tag hlU hlU (decide_eq_true rfl) W
  clear hnb hlT hlV hna
  have hcc : ∀ W, Below q8.heap.size q8 W → (fun W : World => W.rangeAt (u2.heap.size + 1) 0 (U.map byt) ∧ W.rangeAt (u5.heap.size + 1) 0 (U.map byt) ∧ W.cell? ⟨u5.heap.size, 34, none⟩ = some (.slice Amc 1 cmc)) W := fun W hb => ⟨TGRow.range (Whole.below H44.out hb (Whole.lt H44.out)), TGRow.range (Whole.below H47.out hb (Whole.lt H47.out)), by have h := (ALRow.cells (Whole.below H46.out hb (Whole.lt H46.out))).2.2.1; rw [HCC1.out] at h; exact h⟩
  have HCC := Lib.hid hcc
  clear hcc
  have hb0 : Below q8.heap.size q8 q8.drew := Below.drew (Below.refl _ _)
  refine wp_region_held_drew (S := fun W : World => W.rangeAt (u2.heap.size + 1) 0 (U.map byt) ∧ W.rangeAt (u5.heap.size + 1) 0 (U.map byt) ∧ W.cell? ⟨u5.heap.size, 34, none⟩ = some (.slice Amc 1 cmc)) (by kernel_rfl) (HCC.out _ hb0) (fun hHeld => ?_)
  apply wpAnyH_take (i := 0) rfl (by kernel_rfl) (by kernel_rfl) (by kernel_rfl)
  case hQ => exact fun _ _ _ h => h
  case hS => exact hHeld
  case hy => (refine Or.inl ⟨by rfl, ?_⟩; intro w hSw; (try go_split_ands); go_simp; (try with_reducible rfl))
  (try simp only [List.getElem_toArray, List.getElem_cons_zero, Act.put, List.setIfInBounds_toArray, List.set_cons_zero, List.set_cons_succ])
  apply wpAnyH_take (i := 1) rfl (by kernel_rfl) (by kernel_rfl) (by kernel_rfl)
  case hQ => exact fun _ _ _ h => h
  case hS => exact hHeld
  case hy => (refine Or.inl ⟨by rfl, ?_⟩; intro w hSw; (try go_split_ands); go_simp; (try with_reducible rfl))
  (try simp only [List.getElem_toArray, List.getElem_cons_succ, List.getElem_cons_zero, Act.put, List.setIfInBounds_toArray, List.set_cons_zero, List.set_cons_succ])
  apply wpAnyH_take (i := 2) rfl (by kernel_rfl) (by kernel_rfl) (by kernel_rfl)
  case hQ => exact fun _ _ _ h => h
  case hS => exact hHeld
  case hy => (refine Or.inl ⟨by rfl, ?_⟩; intro w hSw; (try go_split_ands); go_simp; (try with_reducible rfl))
  (try simp only [List.getElem_toArray, List.getElem_cons_succ, List.getElem_cons_zero, Act.put, List.setIfInBounds_toArray, List.set_cons_zero, List.set_cons_succ])
  apply wpAnyH_take (i := 3) rfl (by kernel_rfl) (by kernel_rfl) (by kernel_rfl)
  case hQ => exact fun _ _ _ h => h
  case hS => exact hHeld
  case hy => (refine Or.inl ⟨by rfl, ?_⟩; intro w hSw; (try go_split_ands); go_simp; (try with_reducible rfl))
  (try simp only [List.getElem_toArray, List.getElem_cons_succ, List.getElem_cons_zero, Act.put, List.setIfInBounds_toArray, List.set_cons_zero, List.set_cons_succ])
  apply wpAnyH_take (i := 4) rfl (by kernel_rfl) (by kernel_rfl) (by kernel_rfl)
  case hQ => exact fun _ _ _ h => h
  case hS => exact hHeld
  case hy => (refine Or.inl ⟨by rfl, ?_⟩; intro w hSw; (try go_split_ands); go_simp; (try with_reducible rfl))
  (try simp only [List.getElem_toArray, List.getElem_cons_succ, List.getElem_cons_zero, Act.put, List.setIfInBounds_toArray, List.set_cons_zero, List.set_cons_succ])
  apply wpAnyH_take (i := 5) rfl (by kernel_rfl) (by kernel_rfl) (by kernel_rfl)
  case hQ => exact fun _ _ _ h => h
  case hS => exact hHeld
  case hy => (refine Or.inl ⟨by rfl, ?_⟩; intro w hSw; (try go_split_ands); go_simp; (try with_reducible rfl))
  (try simp only [List.getElem_toArray, List.getElem_cons_succ, List.getElem_cons_zero, Act.put, List.setIfInBounds_toArray, List.set_cons_zero, List.set_cons_succ])
  apply wpAnyH_take (i := 6) rfl (by kernel_rfl) (by kernel_rfl) (by kernel_rfl)
  case hQ => exact fun _ _ _ h => h
  case hS => exact hHeld
  case hy => (refine Or.inl ⟨by rfl, ?_⟩; intro w hSw; (try go_split_ands); go_simp; (try with_reducible rfl))
  (try simp only [List.getElem_toArray, List.getElem_cons_succ, List.getElem_cons_zero, Act.put, List.setIfInBounds_toArray, List.set_cons_zero, List.set_cons_succ])
  apply wpAnyH_take (i := 7) rfl (by kernel_rfl) (by kernel_rfl) (by kernel_rfl)
  case hQ => exact fun _ _ _ h => h
  case hS => exact hHeld
  case hy => exact yieldsIf_load_mid (by rfl) 28 _ rfl (u2.heap.size + 1) (0) rfl ((U.map byt)) _ (fun w hS => hS.1) Tryd.underlying28 rfl (by rw [tagSize, List.length_map, hlU])
  (try simp only [List.getElem_toArray, List.getElem_cons_succ, List.getElem_cons_zero, Act.put, List.setIfInBounds_toArray, List.set_cons_zero, List.set_cons_succ])
  apply wpAnyH_take (i := 8) rfl (by kernel_rfl) (by kernel_rfl) (by kernel_rfl)
  case hQ => exact fun _ _ _ h => h
  case hS => exact hHeld
  case hy => exact yieldsIf_load_mid (by rfl) 28 _ rfl (u5.heap.size + 1) (0) rfl ((U.map byt)) _ (fun w hS => hS.2.1) Tryd.underlying28 rfl (by rw [tagSize, List.length_map, hlU])
  (try simp only [List.getElem_toArray, List.getElem_cons_succ, List.getElem_cons_zero, Act.put, List.setIfInBounds_toArray, List.set_cons_zero, List.set_cons_succ])
  apply wpAnyH_take (i := 9) rfl (by kernel_rfl) (by kernel_rfl) (by kernel_rfl)
  case hQ => exact fun _ _ _ h => h
  case hS => exact hHeld
  case hy => (refine Or.inl ⟨by rfl, ?_⟩; intro w hSw; (try go_split_ands); go_simp; (try with_reducible rfl))
  (try simp only [List.getElem_toArray, List.getElem_cons_succ, List.getElem_cons_zero, Act.put, List.setIfInBounds_toArray, List.set_cons_zero, List.set_cons_succ])
  apply wpAnyH_take (i := 10) rfl (by kernel_rfl) (by kernel_rfl) (by kernel_rfl)
  case hQ => exact fun _ _ _ h => h
  case hS => exact hHeld
  case hy => (refine Or.inl ⟨by rfl, ?_⟩; intro w hSw; (try go_split_ands); go_simp; (try with_reducible rfl))
  (try simp only [List.getElem_toArray, List.getElem_cons_succ, List.getElem_cons_zero, Act.put, List.setIfInBounds_toArray, List.set_cons_zero, List.set_cons_succ])
  apply wpAnyH_take (i := 11) rfl (by kernel_rfl) (by kernel_rfl) (by kernel_rfl)
  case hQ => exact fun _ _ _ h => h
  case hS => exact hHeld
  case hy => (refine Or.inl ⟨by rfl, ?_⟩; intro w hSw; (try go_split_ands); go_simp; (try with_reducible rfl))
  (try simp only [List.getElem_toArray, List.getElem_cons_succ, List.getElem_cons_zero, Act.put, List.setIfInBounds_toArray, List.set_cons_zero, List.set_cons_succ])
  apply wpAnyH_take (i := 12) rfl (by kernel_rfl) (by kernel_rfl) (by kernel_rfl)
  case hQ => exact fun _ _ _ h => h
  case hS => exact hHeld
  case hy => exact yieldsIf_load_mid (by rfl) 28 _ rfl (u2.heap.size + 1) (0) rfl ((U.map byt)) _ (fun w hS => hS.1) Tryd.underlying28 rfl (by rw [tagSize, List.length_map, hlU])
  (try simp only [List.getElem_toArray, List.getElem_cons_succ, List.getElem_cons_zero, Act.put, List.setIfInBounds_toArray, List.set_cons_zero, List.set_cons_succ])
  refine wpAnyH_ready (rs := [13]) (by kernel_rfl) (by simp) ?_
  refine AllReadyH.cons rfl (fun KK hKK => ?_) AllReadyH.nil
  (try simp only [List.getElem_toArray, List.getElem_cons_succ, List.getElem_cons_zero])
  go_simp
  go_at_call 48
  refine (HSY.out _).mono ?_
  rintro e w1 ⟨rfl, b1⟩
  have b1t := Below.trans hb0 (Below.mono b1 (Below.size hb0))
  clear b1
  rw [← HT2.out]
  refine hKK.out _ _ (HCC.out _ b1t) (fun hHeld => ?_)
  clear hKK KK
  (try simp only [List.getElem_toArray, List.getElem_cons_succ, List.getElem_cons_zero, Act.put, List.setIfInBounds_toArray, List.set_cons_zero, List.set_cons_succ])
  apply wpAnyH_take (i := 14) rfl (by kernel_rfl) (by kernel_rfl) (by kernel_rfl)
  case hQ => exact fun _ _ _ h => h
  case hS => exact hHeld
  case hy => (refine Or.inl ⟨by rfl, ?_⟩; intro w hSw; (try go_split_ands); go_simp; (try with_reducible rfl))
  (try simp only [List.getElem_toArray, List.getElem_cons_succ, List.getElem_cons_zero, Act.put, List.setIfInBounds_toArray, List.set_cons_zero, List.set_cons_succ])
  apply wpAnyH_take (i := 15) rfl (by kernel_rfl) (by kernel_rfl) (by kernel_rfl)
  case hQ => exact fun _ _ _ h => h
  case hS => exact hHeld
  case hy => (refine Or.inl ⟨by rfl, ?_⟩; intro w hSw; (try go_split_ands); go_simp; (try with_reducible rfl))
  (try simp only [List.getElem_toArray, List.getElem_cons_succ, List.getElem_cons_zero, Act.put, List.setIfInBounds_toArray, List.set_cons_zero, List.set_cons_succ])
  apply wpAnyH_take (i := 16) rfl (by kernel_rfl) (by kernel_rfl) (by kernel_rfl)
  case hQ => exact fun _ _ _ h => h
  case hS => exact hHeld
  case hy => (refine Or.inl ⟨by rfl, ?_⟩; intro w hSw; (try go_split_ands); go_simp; (try with_reducible rfl))
  (try simp only [List.getElem_toArray, List.getElem_cons_succ, List.getElem_cons_zero, Act.put, List.setIfInBounds_toArray, List.set_cons_zero, List.set_cons_succ])
  apply wpAnyH_take (i := 17) rfl (by kernel_rfl) (by kernel_rfl) (by kernel_rfl)
  case hQ => exact fun _ _ _ h => h
  case hS => exact hHeld
  case hy => (refine Or.inl ⟨by rfl, ?_⟩; intro w hSw; (try go_split_ands); go_simp; (try with_reducible rfl))
  (try simp only [List.getElem_toArray, List.getElem_cons_succ, List.getElem_cons_zero, Act.put, List.setIfInBounds_toArray, List.set_cons_zero, List.set_cons_succ])
  apply wpAnyH_take (i := 18) rfl (by kernel_rfl) (by kernel_rfl) (by kernel_rfl)
  case hQ => exact fun _ _ _ h => h
  case hS => exact hHeld
  case hy => (refine Or.inl ⟨by rfl, ?_⟩; intro w hSw; (try go_split_ands); go_simp; (try with_reducible rfl))
  (try simp only [List.getElem_toArray, List.getElem_cons_succ, List.getElem_cons_zero, Act.put, List.setIfInBounds_toArray, List.set_cons_zero, List.set_cons_succ])
  apply wpAnyH_take (i := 19) rfl (by kernel_rfl) (by kernel_rfl) (by kernel_rfl)
  case hQ => exact fun _ _ _ h => h
  case hS => exact hHeld
  case hy => (refine Or.inl ⟨by rfl, ?_⟩; intro w hSw; (try go_split_ands); go_simp; (try with_reducible rfl))
  (try simp only [List.getElem_toArray, List.getElem_cons_succ, List.getElem_cons_zero, Act.put, List.setIfInBounds_toArray, List.set_cons_zero, List.set_cons_succ])
  apply wpAnyH_take (i := 20) rfl (by kernel_rfl) (by kernel_rfl) (by kernel_rfl)
  case hQ => exact fun _ _ _ h => h
  case hS => exact hHeld
  case hy => (refine Or.inl ⟨by rfl, ?_⟩; intro w hSw; (try go_split_ands); go_simp; (try with_reducible rfl))
  (try simp only [List.getElem_toArray, List.getElem_cons_succ, List.getElem_cons_zero, Act.put, List.setIfInBounds_toArray, List.set_cons_zero, List.set_cons_succ])
  apply wpAnyH_take (i := 21) rfl (by kernel_rfl) (by kernel_rfl) (by kernel_rfl)
  case hQ => exact fun _ _ _ h => h
  case hS => exact hHeld
  case hy => (refine Or.inl ⟨by rfl, ?_⟩; intro w hSw; (try go_split_ands); go_simp; (try with_reducible rfl))
  (try simp only [List.getElem_toArray, List.getElem_cons_succ, List.getElem_cons_zero, Act.put, List.setIfInBounds_toArray, List.set_cons_zero, List.set_cons_succ])
  apply wpAnyH_take (i := 22) rfl (by kernel_rfl) (by kernel_rfl) (by kernel_rfl)
  case hQ => exact fun _ _ _ h => h
  case hS => exact hHeld
  case hy => (refine Or.inl ⟨by rfl, ?_⟩; intro w hSw; (try go_split_ands); go_simp; (try with_reducible rfl))
  (try simp only [List.getElem_toArray, List.getElem_cons_succ, List.getElem_cons_zero, Act.put, List.setIfInBounds_toArray, List.set_cons_zero, List.set_cons_succ])
  apply wpAnyH_take (i := 23) rfl (by kernel_rfl) (by kernel_rfl) (by kernel_rfl)
  case hQ => exact fun _ _ _ h => h
  case hS => exact hHeld
  case hy => (refine Or.inl ⟨by rfl, ?_⟩; intro w hSw; (try go_split_ands); go_simp; (try with_reducible rfl))
  (try simp only [List.getElem_toArray, List.getElem_cons_succ, List.getElem_cons_zero, Act.put, List.setIfInBounds_toArray, List.set_cons_zero, List.set_cons_succ])
  apply wpAnyH_take (i := 24) rfl (by kernel_rfl) (by kernel_rfl) (by kernel_rfl)
  case hQ => exact fun _ _ _ h => h
  case hS => exact hHeld
  case hy => (refine Or.inl ⟨by rfl, ?_⟩; intro w hSw; (try go_split_ands); go_simp; (try with_reducible rfl))
  (try simp only [List.getElem_toArray, List.getElem_cons_succ, List.getElem_cons_zero, Act.put, List.setIfInBounds_toArray, List.set_cons_zero, List.set_cons_succ])
  apply wpAnyH_take (i := 25) rfl (by kernel_rfl) (by kernel_rfl) (by kernel_rfl)
  case hQ => exact fun _ _ _ h => h
  case hS => exact hHeld
  case hy => (refine Or.inl ⟨by rfl, ?_⟩; intro w hSw; (try go_split_ands); go_simp; (try with_reducible rfl))
  (try simp only [List.getElem_toArray, List.getElem_cons_succ, List.getElem_cons_zero, Act.put, List.setIfInBounds_toArray, List.set_cons_zero, List.set_cons_succ])
  apply wpAnyH_take (i := 26) rfl (by kernel_rfl) (by kernel_rfl) (by kernel_rfl)
  case hQ => exact fun _ _ _ h => h
  case hS => exact hHeld
  case hy => (refine Or.inl ⟨by rfl, ?_⟩; intro w hSw; (try go_split_ands); go_simp; (try with_reducible rfl))
  (try simp only [List.getElem_toArray, List.getElem_cons_succ, List.getElem_cons_zero, Act.put, List.setIfInBounds_toArray, List.set_cons_zero, List.set_cons_succ])
  refine wpAnyH_done (by kernel_rfl) ?_ _
  have HG := Lib.hid (Below.trans H42.out (Below.mono b1t (Below.size H42.out)))
  go_wp2
  go_ret
  exact ⟨rfl, HG.out⟩
end Go.Proofs.YtiikhjifjdpgdaaDoor
namespace Go.Proofs.YtiikhjifjdpgdaaDoor
open Go Go.RowKit Sh Leaf

set_option linter.unusedSimpArgs false in
set_option maxRecDepth 100000 in
set_option maxHeartbeats 8000000 in
theorem rmac {w : World} {Q Q2 : Nat → Prop} {x : Value} {B : Option Addr} {d : Nat} {a : Alg} {K m : List B8} (hx : AlV w Q x a) (hlen : a.macs.length < 1000) (hK : K.length = 32) (hm : Bytes w Q2 (.slice B m.length d) m) (hml : m.length ≤ 100000) :
    Calls Tryd.prog 14 #[x, .agg (K.map byt).toArray, .slice B m.length d] w fun e w' => AlgR w' (fun g => Q g ∨ w.heap.size ≤ g) e (aMac a K m) ∧ Below w.heap.size w w' := by
  have hx0 := hx
  obtain ⟨Am, cm, Ab, cb, rfl, hM, hBx, hA⟩ := hx
  obtain ⟨p, hp⟩ : ∃ p, p = (((w.alloc (.cells (alc a.free a.seed a.fresh (.slice Am a.macs.length cm) (.slice Ab a.boxes.length cb)) 32)).alloc (.cells (K.map byt).toArray 28)).alloc (.cells zar 32)).alloc (.cells ztr 28) := ⟨_, rfl⟩
  have hr : ALRow p w.heap.size a.free a.seed a.fresh (.slice Am a.macs.length cm) (.slice Ab a.boxes.length cb) := by rw [hp]; exact (((Whole.here _ _ _).alloc _).alloc _).alloc _
  have hk : TGRow p (w.heap.size + 1) K := by rw [hp]; exact ((Whole.at_ _ _ _ _ (by simp)).alloc _).alloc _
  have h6 : Whole p (w.heap.size + 1 + 1) 32 zar := by rw [hp]; exact (Whole.at_ _ _ _ _ (by simp)).alloc _
  have h7 : Whole p (w.heap.size + 1 + 1 + 1) 28 ztr := by rw [hp]; exact Whole.at_ _ _ _ _ (by simp)
  have hb : Below w.heap.size w p := by rw [hp]; exact ((((Below.refl _ _).alloc (Nat.le_refl _) _).alloc (by simp) _).alloc (by simp; omega) _).alloc (by simp; omega) _
  have hps : (w.heap.size + 1 + 1 + 1) < p.heap.size := h7.lt
  have HX := Lib.hid hx0
  have HMC := Lib.hid hM
  have HBX := Lib.hid hBx
  have HA := Lib.hid hA
  have HM := Lib.hid hm
  have HR := Lib.hid hr
  have HK := Lib.hid hk
  have H6 := Lib.hid h6
  have H7 := Lib.hid h7
  have HB := Lib.hid hb
  have HLEN := Lib.hid hlen
  clear hx0 hM hBx hA hm hr hk h6 h7 hb
  obtain ⟨R, hR⟩ : ∃ R, R = aMac a K m := ⟨_, rfl⟩
  have hRR := hR
  unfold aMac at hRR
  rw [← hR]
  clear hR
  by_cases hbig : 4096 < m.length
  · skip
    rw [if_pos hbig] at hRR
    have HRR := Lib.hid hRR
    have hb1 : (4096 : Int) < (m.length : Int) := by omega
    clear hRR hbig
    go_enter Tryd.func14, Tryd.ntmps14
    go_upto_region 1 with fail
    rw [zar_lit, ztr_lit, ← hp]
    clear hp
    go_wp2_with (first
      | (with_reducible refine wpList_store_alg rfl _ _ rfl (g := (w.heap.size + 1 + 1)) rfl rfl H6.out zar_size rfl (by with_unfolding_all rfl) ?_)
      | (with_reducible refine wpList_store_tag rfl _ _ rfl (g := (w.heap.size + 1 + 1 + 1)) rfl rfl (Whole.setRow_far H7.out (by omega) _) ztr_size rfl (by with_unfolding_all rfl) ?_))
    rw [zar_lit, ztr_lit]
    have e1 := Whole.setRow_far (Whole.setRow H6.out zar) (g' := (w.heap.size + 1 + 1 + 1)) (by omega) ztr
    have e2 := Whole.setRow (Whole.setRow_far H7.out (g' := (w.heap.size + 1 + 1)) (by omega) zar) ztr
    refine bodyPost_ret (results_alg3 Tryd.results14 _ rfl rfl _ rfl zar_size ztr_size e1 e2) rfl ?_
    show AlgR _ _ _ R ∧ _
    rw [HRR.out]
    exact ⟨⟨_, by rw [ztr_eq]; rfl, alv_zero _ _⟩, below_setRow (below_setRow HB.out (by omega) _) (by omega) _⟩
  rw [if_neg hbig] at hRR
  have hb1 : ¬ (4096 : Int) < (m.length : Int) := by omega
  obtain ⟨f, hf⟩ : ∃ f, f = fnd a.macs K m := ⟨_, rfl⟩
  rw [← hf] at hRR
  have hfl : (f.getD ztag).length = 32 := by
    cases hq : f with
    | none => rfl
    | some t => exact fnd_len (hf.symm.trans hq) (Macs.tags HMC.out)
  have hcl := rentry (HX.out.below HB.out (Nat.le_refl _)) hK (HM.out.below HB.out (Nat.le_refl _)) hml
  rw [← hf] at hcl
  unfold fres at hcl
  obtain ⟨E0, hE0⟩ : ∃ E, E = f.getD ztag := ⟨_, rfl⟩
  rw [← hE0] at hcl hfl
  have hr0 := HR.out
  obtain ⟨c0, c33, c34, c35⟩ := ALRow.cells hr0
  have HE0 := Lib.hid hE0
  have HRR0 := Lib.hid hRR
  clear hf hr0 c0 c33 c35 hE0 hRR
  go_enter Tryd.func14, Tryd.ntmps14
  go_upto_region 1 with fail
  rw [zar_lit, ztr_lit, ← hp]
  clear hp
  go_wp2_with (first
    | (with_reducible refine wpList_load_alg rfl _ rfl rfl HR.out (alc_size _ _ _ _ _) ?_)
    | (with_reducible refine wpList_load_tag rfl _ rfl rfl HK.out (tag_size hK) ?_))
  refine hcl.mono ?_
  rintro e w1 ⟨rfl, hb1'⟩
  clear hcl c34
  have hpw : p.heap.size ≤ w1.heap.size := hb1'.size
  go_upto_region 4 with (with_reducible refine wpList_store_tag rfl _ _ rfl (g := w1.heap.size) rfl rfl (Whole.here w1 _ _) rfl (tag_size hfl) (tag_one _) ?_)
  rw [ztr_lit]
  obtain ⟨u, hu⟩ : ∃ x, x = (w1.alloc (.cells ztr 28)).setRow w1.heap.size (E0.map byt).toArray := ⟨_, rfl⟩
  have ht : TGRow u w1.heap.size E0 := by rw [hu]; exact Whole.setRow (Whole.here _ _ _) _
  have hbu : Below w1.heap.size w1 u := by rw [hu]; exact below_setRow ((Below.refl _ _).alloc (Nat.le_refl _) _) (Nat.le_refl _) _
  rw [← hu]
  clear hu
  have hwu : w1.heap.size < u.heap.size := ht.lt
  have HBU : Hid (Below p.heap.size p u) := Lib.hid (hb1'.trans (hbu.mono hpw))
  have HTU := Lib.hid ht
  clear hb1' hbu ht
  obtain ⟨c0, c33, c34, c35⟩ := ALRow.cells (Whole.below HR.out HBU.out (by omega))
  clear c0 c33 c35
  cases f with
  | some t0 =>
    have hE : E0 = t0 := HE0.out
    have HRR : Hid (R = (a, E0, 0)) := Lib.hid (by rw [HRR0.out, hE])
    clear hE c34
    go_upto_region 5 with fail
    have hru : ALRow u.drew w.heap.size a.free a.seed a.fresh (.slice Am a.macs.length cm) (.slice Ab a.boxes.length cb) := Whole.drew (Whole.below HR.out HBU.out (by omega))
    have h6u : Whole u.drew (w.heap.size + 1 + 1) 32 zar := Whole.drew (Whole.below H6.out HBU.out (by omega))
    have h7u : Whole u.drew (w.heap.size + 1 + 1 + 1) 28 ztr := Whole.drew (Whole.below H7.out HBU.out (by omega))
    have htu : TGRow u.drew w1.heap.size E0 := Whole.drew HTU.out
    have bbu : Below w.heap.size w u.drew := (HB.out.trans (HBU.out.mono (by omega))).drew
    refine wp_region_held_drew (S := fun W => W.rangeAt w.heap.size 0 (alcl a.free a.seed a.fresh (.slice Am a.macs.length cm) (.slice Ab a.boxes.length cb)) ∧ W.rangeAt w1.heap.size 0 ((E0).map byt)) (by kernel_rfl) (⟨Whole.range hru, TGRow.range htu⟩) (fun hHeld => ?_)
    apply wpT (i := 0) rfl (by kernel_rfl)
    case hQ => exact fun _ _ _ h => h
    case hS => exact hHeld
    case hy => exact yieldsIf_load_mid (by rfl) 32 _ rfl w.heap.size (0) rfl (alcl a.free a.seed a.fresh (.slice Am a.macs.length cm) (.slice Ab a.boxes.length cb)) _ (fun w hS => hS.1) Tryd.underlying32 rfl (by rw [algSize, alcl_length])
    (try simp only [sq])
    apply wpT (i := 1) rfl (by kernel_rfl)
    case hQ => exact fun _ _ _ h => h
    case hS => exact hHeld
    case hy => exact yieldsIf_load_mid (by rfl) 28 _ rfl w1.heap.size (0) rfl ((E0).map byt) _ (fun w hS => hS.2) Tryd.underlying28 rfl (by rw [tagSize, tag_len (hfl)])
    (try simp only [sq])
    refine wpAnyH_ready (rs := [2]) (by kernel_rfl) (by simp) ?_
    refine AllReadyH.cons rfl (fun KK hKK => ?_) AllReadyH.nil
    (try simp only [sq])
    obtain ⟨X1, hX1⟩ : ∃ x, x = u.drew.setRow (w.heap.size + 1 + 1) ((alcl a.free a.seed a.fresh (.slice Am a.macs.length cm) (.slice Ab a.boxes.length cb)).toArray) := ⟨_, rfl⟩
    have hsX1 : ALRow X1 w.heap.size a.free a.seed a.fresh (.slice Am a.macs.length cm) (.slice Ab a.boxes.length cb) := by rw [hX1]; exact Whole.setRow_far hru (by omega) _
    have e1 : Whole X1 (w.heap.size + 1 + 1) 32 (alc a.free a.seed a.fresh (.slice Am a.macs.length cm) (.slice Ab a.boxes.length cb)) := by rw [hX1]; exact Whole.setRow h6u _
    have h7X1 : Whole X1 (w.heap.size + 1 + 1 + 1) 28 ztr := by rw [hX1]; exact Whole.setRow_far h7u (by omega) _
    have bbX1 : Below w.heap.size w X1 := by rw [hX1]; exact below_setRow bbu (by omega) _
    have htX1 : TGRow X1 w1.heap.size (E0) := by rw [hX1]; exact Whole.setRow_far htu (by omega) _
    rw [if_pos (by kernel_rfl)]
    refine wp_store_row 32 _ _ rfl (w.heap.size + 1 + 1) _ rfl rfl 32 _ h6u (by rw [algSize, List.size_toArray, alcl_length]) (by rw [zar_size, List.size_toArray, alcl_length]) (alc_one _ _ _ _ _ _ _ _ _) ?_
    rw [← hX1]
    clear hX1
    refine hKK.out _ _ (⟨Whole.range hsX1, TGRow.range htX1⟩) (fun hHeld => ?_)
    clear hKK KK
    (try simp only [sq])
    refine wpAnyH_ready (rs := [3]) (by kernel_rfl) (by simp) ?_
    refine AllReadyH.cons rfl (fun KK hKK => ?_) AllReadyH.nil
    (try simp only [sq])
    have e1o := e1
    clear e1
    obtain ⟨X2, hX2⟩ : ∃ x, x = X1.setRow (w.heap.size + 1 + 1 + 1) (((E0).map byt).toArray) := ⟨_, rfl⟩
    have hsX2 : ALRow X2 w.heap.size a.free a.seed a.fresh (.slice Am a.macs.length cm) (.slice Ab a.boxes.length cb) := by rw [hX2]; exact Whole.setRow_far hsX1 (by omega) _
    have e1 : Whole X2 (w.heap.size + 1 + 1) 32 (alc a.free a.seed a.fresh (.slice Am a.macs.length cm) (.slice Ab a.boxes.length cb)) := by rw [hX2]; exact Whole.setRow_far e1o (by omega) _
    have e2 : TGRow X2 (w.heap.size + 1 + 1 + 1) (E0) := by rw [hX2]; exact Whole.setRow h7X1 _
    have bbX2 : Below w.heap.size w X2 := by rw [hX2]; exact below_setRow bbX1 (by omega) _
    have htX2 : TGRow X2 w1.heap.size (E0) := by rw [hX2]; exact Whole.setRow_far htX1 (by omega) _
    rw [if_pos (by kernel_rfl)]
    refine wp_store_row 28 _ _ rfl (w.heap.size + 1 + 1 + 1) _ rfl rfl 28 _ h7X1 (by rw [tagSize, tag_size (hfl)]) (by rw [ztr_size, tag_size (hfl)]) (tag_one _) ?_
    rw [← hX2]
    clear hX2
    refine hKK.out _ _ (⟨Whole.range hsX2, TGRow.range htX2⟩) (fun hHeld => ?_)
    clear hKK KK
    (try simp only [sq])
    apply wpT (i := 4) rfl (by kernel_rfl)
    case hQ => exact fun _ _ _ h => h
    case hS => exact hHeld
    case hy => (refine Or.inl ⟨by rfl, ?_⟩; intro w hSw; (try go_split_ands); go_simp; (try with_reducible rfl))
    (try simp only [sq])
    refine wpAnyH_done (by kernel_rfl) ?_ _
    go_wp2_with fail
    have hbf := bbX2
    refine bodyPost_ret (results_alg3 Tryd.results14 _ rfl rfl _ rfl (alc_size _ _ _ _ _) (tag_size (hfl)) e1 e2) rfl ?_
    show AlgR _ _ _ R ∧ _
    rw [HRR.out]
    exact ⟨⟨_, rfl, AlV.mono ⟨Am, cm, Ab, cb, rfl, HMC.out.below hbf (Nat.le_refl _), HBX.out.below hbf (Nat.le_refl _), HA.out⟩ fun _ _ h => .inl h⟩, hbf⟩
  | none =>
    obtain ⟨H, hH⟩ : ∃ E, E = hmac K m := ⟨_, rfl⟩
    have hHl : H.length = 32 := by rw [hH]; exact hmac_length _ _
    have hng : ¬ 65536 ≤ a.macs.length := by omega
    have hRR : R = ({ a with macs := a.macs ++ [⟨K, m, ntag a K m⟩] }, ntag a K m, 0) := by
      have := HRR0.out
      simp only [if_neg hng] at this
      exact this
    have HRR := Lib.hid hRR
    have hMu := HM.out.below (HB.out.trans (HBU.out.mono (by omega))) (Nat.le_refl _)
    have hby := Whole.bytes (Whole.below HK.out HBU.out (by omega)) (by omega)
    rw [hK] at hby
    have hnt := ref_hmac _ _ K m _ _ u hby hMu (by omega) (by omega)
    rw [← hH] at hnt
    have hst := fun g W => run_sliceAt_whole (P := Tryd.prog) (t := 28) (e := 5) (n := 32) Tryd.underlying28 (by kernel_rfl) g W
    have HLN := Lib.hid hlen
    have hln2 : ¬ (65536 : Int) ≤ (a.macs.length : Int) := by omega
    have HH := Lib.hid hH
    clear hH hRR hlen hng hMu hby
    go_wp2_with fail
    refine hnt.mono ?_
    rintro e w2 ⟨rfl, hb2⟩
    clear hnt c34 hst
    have hpw2 : u.heap.size ≤ w2.heap.size := hb2.size
    have hpu2 : p.heap.size ≤ u.heap.size := HBU.out.size
    go_upto_region 9 with (first
      | (with_reducible refine wpList_store_tag rfl _ _ rfl (g := w2.heap.size) rfl rfl (Whole.here w2 _ _) rfl (tag_size hHl) (tag_one _) ?_))
    rw [ztr_lit]
    obtain ⟨u2, hu⟩ : ∃ x, x = (w2.alloc (.cells ztr 28)).setRow w2.heap.size (H.map byt).toArray := ⟨_, rfl⟩
    have ht : TGRow u2 w2.heap.size H := by rw [hu]; exact Whole.setRow (Whole.here _ _ _) _
    have hbu : Below w2.heap.size w2 u2 := by rw [hu]; exact below_setRow ((Below.refl _ _).alloc (Nat.le_refl _) _) (Nat.le_refl _) _
    rw [← hu]
    clear hu
    simp only [Act.put]
    have hwu2 : w2.heap.size < u2.heap.size := ht.lt
    have HB2 : Hid (Below p.heap.size p u2) := Lib.hid (HBU.out.trans ((hb2.mono hpu2).trans (hbu.mono (by omega))))
    have HT2 := Lib.hid ht
    clear hb2 hbu ht
    have hKl : (K.map byt).length = 32 := tag_len hK
    obtain ⟨L1, hL1, hS1, hB1⟩ := HMC.out
    have hL1l : L1.length = a.macs.length := by rw [← hL1, List.length_map]
    have HL1 := Lib.hid hL1
    have HS1 := Lib.hid hS1
    have HB1 := Lib.hid hB1
    have HL1L := Lib.hid hL1l
    clear hL1 hS1 hB1 hL1l
    obtain ⟨E, hE⟩ : ∃ E, E = ntag a K m := ⟨_, rfl⟩
    have hEl : E.length = 32 := by rw [hE]; exact ntag_length _ _ _
    have HE := Lib.hid hE
    clear hE
    have hEl2 : (E.map byt).length = 32 := tag_len hEl
    obtain ⟨c0, c33, c34, c35⟩ := ALRow.cells (Whole.below HR.out HB2.out (by omega))
    clear c33 c35
    cases hF : a.free
    · skip
      rw [hF] at c0
      have hEH : E = H := by rw [HE.out, HH.out]; unfold ntag; rw [hF]; rfl
      have HFF := Lib.hid hF
      obtain ⟨u3, hu3⟩ : ∃ x, x = u2 := ⟨_, rfl⟩
      have HB3 : Hid (Below p.heap.size p u3) := Lib.hid (by rw [hu3]; exact HB2.out)
      have HT3 : Hid (TGRow u3 w2.heap.size E) := Lib.hid (by rw [hu3, hEH]; exact HT2.out)
      have hw23 : w2.heap.size < u3.heap.size := by rw [hu3]; exact hwu2
      clear hF hEH
      go_upto_region 11 with fail
      rw [← hu3]
      clear hu3 c0 c34
      try simp only [Act.put]
      have hp3 : p.heap.size ≤ u3.heap.size := HB3.out.size
      have HU3 : Hid (Below w.heap.size w u3) := Lib.hid (HB.out.trans (HB3.out.mono (by omega)))
      have HRU := Lib.hid (Whole.below HR.out HB3.out (by omega))
      have HCC : Hid (∀ W, Below u3.heap.size u3 W → W.cell? ⟨w.heap.size, 34, none⟩ = some (.slice Am a.macs.length cm) ∧ W.rangeAt (w.heap.size + 1) 0 (K.map byt) ∧ W.rangeAt w2.heap.size 0 (E.map byt)) := Lib.hid fun W hb => ⟨(ALRow.cells (Whole.below HRU.out hb (by omega))).2.2.1, TGRow.range (Whole.below (Whole.below HK.out HB3.out (by omega)) hb (by omega)), TGRow.range (Whole.below HT3.out hb (by omega))⟩
      go_cut [] (fun wx => ∃ (A5 : Option Addr) (c5 : Nat) (D : Option Addr) (dc : Nat), ALRow wx w.heap.size a.free a.seed a.fresh (.slice A5 (L1.length + 1) c5) (.slice Ab a.boxes.length cb) ∧ Seq mcl mok wx (fun g => p.heap.size ≤ g) A5 c5 (L1 ++ [⟨⟨K, m, E⟩, D, dc⟩]) ∧ Bytes wx (fun b => p.heap.size ≤ b) (.slice D m.length dc) m ∧ TGRow wx w2.heap.size E ∧ Whole wx (w.heap.size + 1 + 1) 32 zar ∧ Whole wx (w.heap.size + 1 + 1 + 1) 28 ztr ∧ Below w.heap.size w wx)
      case first =>
        have b0 : Below u3.heap.size u3 u3.drew := (Below.refl _ _).drew
        refine wp_region_G (fun W : World => W.cell? ⟨w.heap.size, 34, none⟩ = some (.slice Am a.macs.length cm) ∧ W.rangeAt (w.heap.size + 1) 0 (K.map byt) ∧ W.rangeAt w2.heap.size 0 (E.map byt)) (fun _ => True) [13] (by kernel_rfl) ?_
        generalize u3.drew = W0 at b0 ⊢
        have hHeld : (fun W : World => W.cell? ⟨w.heap.size, 34, none⟩ = some (.slice Am a.macs.length cm) ∧ W.rangeAt (w.heap.size + 1) 0 (K.map byt) ∧ W.rangeAt w2.heap.size 0 (E.map byt)) W0 := HCC.out _ b0
        apply AnyG_pure (i := 1) rfl (by kernel_rfl) (by kernel_rfl) (by kernel_rfl) (by kernel_rfl)
        case hQ => exact fun _ _ _ h => h
        case hB => exact trivial
        case hC => exact .inr hHeld
        case hy => (refine Or.inl ⟨by rfl, ?_⟩; intro w hSw; (try go_split_ands); go_simp; (try with_reducible rfl))
        (try simp only [sq])
        apply AnyG_take (i := 2) rfl (by kernel_rfl) (by kernel_rfl) (by kernel_rfl) (by kernel_rfl)
        case hQ => exact fun _ _ _ h => h
        case hB => exact trivial
        case hC => exact hHeld
        case hy => (refine Or.inl ⟨by rfl, ?_⟩; intro w hSw; (try go_split_ands); go_simp; (try with_reducible rfl))
        (try simp only [sq])
        apply AnyG_take (i := 4) rfl (by kernel_rfl) (by kernel_rfl) (by kernel_rfl) (by kernel_rfl)
        case hQ => exact fun _ _ _ h => h
        case hB => exact trivial
        case hC => exact hHeld
        case hy => exact yieldsIf_load_mid (by rfl) 28 _ rfl (w.heap.size + 1) (0) rfl (K.map byt) _ (fun w hS => hS.2.1) Tryd.underlying28 rfl (by rw [tagSize, hKl])
        (try simp only [sq])
        apply AnyG_pure (i := 6) rfl (by kernel_rfl) (by kernel_rfl) (by kernel_rfl) (by kernel_rfl)
        case hQ => exact fun _ _ _ h => h
        case hB => exact trivial
        case hC => exact .inr hHeld
        case hy => (refine Or.inl ⟨by rfl, ?_⟩; intro w hSw; (try go_split_ands); go_simp; (try with_reducible rfl))
        (try simp only [sq])
        apply AnyG_take (i := 8) rfl (by kernel_rfl) (by kernel_rfl) (by kernel_rfl) (by kernel_rfl)
        case hQ => exact fun _ _ _ h => h
        case hB => exact trivial
        case hC => exact hHeld
        case hy => exact yieldsIf_load_mid (by rfl) 28 _ rfl w2.heap.size (0) rfl (E.map byt) _ (fun w hS => hS.2.2) Tryd.underlying28 rfl (by rw [tagSize, hEl2])
        (try simp only [sq])
        refine AnyG_two (i := 0) (j := 5) (by kernel_rfl) rfl rfl (fun KK hKK => ?_) (fun KK hKK => ?_)
        · skip
          (try simp only [sq])
          obtain ⟨g0, hg⟩ : ∃ g, g = W0.heap.size := ⟨_, rfl⟩
          obtain ⟨W1, hW⟩ : ∃ x, x = W0.alloc (.cells #[] 90) := ⟨_, rfl⟩
          have b1 : Below u3.heap.size u3 W1 := by rw [hW]; exact b0.alloc b0.size _
          have oM1 : OwnMc W1 u3.heap.size (.slice (some ⟨g0, 0, none⟩) 0 0) [] := owns_empty (by rw [hW, hg]; exact heap_alloc_new _ _) (by rw [hg]; exact b0.size)
          go_simp
          rw [← hg, ← hW]
          clear hg hW
          clear hHeld
          have hHeld : (fun W : World => W.cell? ⟨w.heap.size, 34, none⟩ = some (.slice Am a.macs.length cm) ∧ W.rangeAt (w.heap.size + 1) 0 (K.map byt) ∧ W.rangeAt w2.heap.size 0 (E.map byt)) W1 := HCC.out _ b1
          refine hKK.out _ _ (.inr hHeld) trivial ?_
          clear hKK KK
          (try simp only [sq])
          refine AnyG_two (i := 3) (j := 5) (by kernel_rfl) rfl rfl (fun KK hKK => ?_) (fun KK hKK => ?_)
          · skip
            refine step_append_seq (by rfl) _ _ 29 90 zmac 88 (by rfl) Tryd.underlying29 macInfo zmac_size (by omega) (by omega) mcl_len mcl_one u3.heap.size _ [] (by rfl) oM1 Q Am a.macs.length cm L1 HL1L.out (by rfl) (HS1.out.below (HU3.out.trans (b1.mono (by omega))) (Nat.le_refl _)) (by have := HL1L.out; have := HLN.out; simp only [List.length_nil]; omega) b1.size ?_
            intro vM W2 oM0 hbn hgn
            have oM2 : OwnMc W2 u3.heap.size vM L1 := by rw [List.nil_append] at oM0; exact oM0
            have b2 := b1.trans hbn
            clear hbn hgn
            clear hHeld
            have hHeld : (fun W : World => W.cell? ⟨w.heap.size, 34, none⟩ = some (.slice Am a.macs.length cm) ∧ W.rangeAt (w.heap.size + 1) 0 (K.map byt) ∧ W.rangeAt w2.heap.size 0 (E.map byt)) W2 := HCC.out _ b2
            refine hKK.out _ _ (.inr hHeld) trivial ?_
            clear hKK KK
            (try simp only [sq])
            refine AnyG_one (i := 5) (by kernel_rfl) rfl (fun KK hKK => ?_)
            (try simp only [sq])
            obtain ⟨g5, hg⟩ : ∃ g, g = W2.heap.size := ⟨_, rfl⟩
            obtain ⟨W3, hW⟩ : ∃ x, x = W2.alloc (.cells #[] 5) := ⟨_, rfl⟩
            have b3 : Below u3.heap.size u3 W3 := by rw [hW]; exact b2.alloc b2.size _
            have oB3 : OwnBf W3 u3.heap.size (.slice (some ⟨g5, 0, none⟩) 0 0) [] := owns_empty (by rw [hW, hg]; exact heap_alloc_new _ _) (by rw [hg]; exact b2.size)
            have oM3 := oM2.alloc (.cells #[] 5)
            rw [← hW] at oM3
            go_simp
            rw [← hg, ← hW]
            clear hg hW
            clear hHeld
            have hHeld : (fun W : World => W.cell? ⟨w.heap.size, 34, none⟩ = some (.slice Am a.macs.length cm) ∧ W.rangeAt (w.heap.size + 1) 0 (K.map byt) ∧ W.rangeAt w2.heap.size 0 (E.map byt)) W3 := HCC.out _ b3
            refine hKK.out _ _ (.inr hHeld) trivial ?_
            clear hKK KK
            (try simp only [sq])
            refine AnyG_one (i := 7) (by kernel_rfl) rfl (fun KK hKK => ?_)
            refine step_append_seq (by rfl) _ _ 23 5 (.int .u8 0) 1 (by rfl) Tryd.underlying23 byteInfo byte_size (by omega) (by omega) bf_len bf_one u3.heap.size _ [] (by rfl) oB3 Q2 B m.length d m rfl (by rfl) (seq_bytes (HM.out.below (HU3.out.trans (b3.mono (by omega))) (Nat.le_refl _))) (by simp only [List.length_nil]; omega) b3.size ?_
            intro vB W4 oB0 hbn hgn
            have oB4 : OwnBf W4 u3.heap.size vB m := by rw [List.nil_append] at oB0; exact oB0
            have oM4 := oM3.kept hgn (own_ne oM3 oB3 mac_ne_u8)
            obtain ⟨D, dc, rfl, hsB⟩ := OwnS.seq (ok := fun _ => True) oB4 (fun _ _ => trivial)
            have b4 := b3.trans hbn
            clear hbn hgn hsB
            clear hHeld
            have hHeld : (fun W : World => W.cell? ⟨w.heap.size, 34, none⟩ = some (.slice Am a.macs.length cm) ∧ W.rangeAt (w.heap.size + 1) 0 (K.map byt) ∧ W.rangeAt w2.heap.size 0 (E.map byt)) W4 := HCC.out _ b4
            refine hKK.out _ _ (.inr hHeld) trivial ?_
            clear hKK KK
            (try simp only [sq])
            apply AnyG_pure (i := 9) rfl (by kernel_rfl) (by kernel_rfl) (by kernel_rfl) (by kernel_rfl)
            case hQ => exact fun _ _ _ h => h
            case hB => exact trivial
            case hC => exact .inr hHeld
            case hy => exact yieldsIf_build_mac (by rfl) _ _ _ rfl (e := ⟨K, m, E⟩) hK hEl rfl rfl rfl
            (try simp only [sq])
            refine AnyG_one (i := 10) (by kernel_rfl) rfl (fun KK hKK => ?_)
            have hXok : mok (⟨⟨K, m, E⟩, D, dc⟩ : MeM) := ⟨hK, hEl, by show m.length ≤ 5000; omega⟩
            obtain ⟨g10, hg⟩ : ∃ g, g = W4.heap.size := ⟨_, rfl⟩
            obtain ⟨W5, hW⟩ : ∃ x, x = W4.alloc (.cells (mcl (⟨⟨K, m, E⟩, D, dc⟩ : MeM)).toArray 90) := ⟨_, rfl⟩
            have b5 : Below u3.heap.size u3 W5 := by rw [hW]; exact b4.alloc b4.size _
            have hx1 : Whole W5 g10 90 (mcl (⟨⟨K, m, E⟩, D, dc⟩ : MeM)).toArray := by rw [hW, hg]; exact Whole.here _ _ _
            have oM5 := oM4.alloc (.cells (mcl (⟨⟨K, m, E⟩, D, dc⟩ : MeM)).toArray 90)
            rw [← hW] at oM5
            have oB5 := oB4.alloc (.cells (mcl (⟨⟨K, m, E⟩, D, dc⟩ : MeM)).toArray 90)
            rw [← hW] at oB5
            refine step_buildSlice_mac (by rfl) _ (by rfl) (X := (⟨⟨K, m, E⟩, D, dc⟩ : MeM)) (by rfl) ?_
            rw [← hg, ← hW]
            clear hg hW
            clear hHeld
            have hHeld : (fun W : World => W.cell? ⟨w.heap.size, 34, none⟩ = some (.slice Am a.macs.length cm) ∧ W.rangeAt (w.heap.size + 1) 0 (K.map byt) ∧ W.rangeAt w2.heap.size 0 (E.map byt)) W5 := HCC.out _ b5
            refine hKK.out _ _ (.inr hHeld) trivial ?_
            clear hKK KK
            (try simp only [sq])
            refine AnyG_one (i := 11) (by kernel_rfl) rfl (fun KK hKK => ?_)
            refine step_append_seq (by rfl) _ _ 29 90 zmac 88 (by rfl) Tryd.underlying29 macInfo zmac_size (by omega) (by omega) mcl_len mcl_one u3.heap.size _ L1 (by rfl) oM5 _ (some ⟨g10, 0, none⟩) 1 1 [(⟨⟨K, m, E⟩, D, dc⟩ : MeM)] rfl (by rfl) (seq_one hx1 rfl hXok) (by have := HL1L.out; have := HLN.out; simp only [List.length_singleton]; omega) b5.size ?_
            intro vN W6 oM6 hbn hgn
            have oB6 := oB5.kept hgn (own_ne oB5 oM5 u8_ne_mac)
            have b6 := b5.trans hbn
            obtain ⟨A5, c5, rfl, hS5⟩ := OwnS.seq (ok := mok) oM6 (fun x hx => by
              rcases List.mem_append.1 hx with h | h
              · exact HS1.out.2.2.2.1 x h
              · rw [List.mem_singleton.1 h]; exact hXok)
            obtain ⟨D2, dc2, he2, hsB⟩ := OwnS.seq (ok := fun _ => True) oB6 (fun _ _ => trivial)
            injection he2 with q1 q2 q3
            subst q1 q3
            have hV := bytes_seq hsB
            have hn5 : (L1 ++ [(⟨⟨K, m, E⟩, D, dc⟩ : MeM)]).length = L1.length + 1 := by simp
            rw [hn5]
            clear hbn hgn q2 hsB hn5
            clear hHeld
            have hHeld : (fun W : World => W.cell? ⟨w.heap.size, 34, none⟩ = some (.slice Am a.macs.length cm) ∧ W.rangeAt (w.heap.size + 1) 0 (K.map byt) ∧ W.rangeAt w2.heap.size 0 (E.map byt)) W6 := HCC.out _ b6
            refine hKK.out _ _ (.inr hHeld) trivial ?_
            clear hKK KK
            (try simp only [sq])
            apply AnyG_pure (i := 12) rfl (by kernel_rfl) (by kernel_rfl) (by kernel_rfl) (by kernel_rfl)
            case hQ => exact fun _ _ _ h => h
            case hB => exact trivial
            case hC => exact .inr hHeld
            case hy => (refine Or.inl ⟨by rfl, ?_⟩; intro w hSw; (try go_split_ands); go_simp; (try with_reducible rfl))
            (try simp only [sq])
            refine AnyG_one (i := 13) (by kernel_rfl) rfl (fun KK hKK => ?_)
            (try simp only [sq])
            have hrW := Whole.below HRU.out b6 (by omega)
            have hf34 := ALRow.frees hrW 34
            have hc34 := hHeld.1
            obtain ⟨W7, hW⟩ : ∃ x, x = W6.setCell ⟨w.heap.size, 34, none⟩ (.slice A5 (L1.length + 1) c5) := ⟨_, rfl⟩
            have r1 := ALRow.set34 hrW (.slice A5 (L1.length + 1) c5)
            have r2 := (hS5.mono (Q' := fun g => p.heap.size ≤ g) fun g _ h => Nat.le_trans hp3 h).keep (w' := W7) (by rw [hW]; exact ((Below.refl 0 _).setCell (p := ⟨w.heap.size, 34, none⟩) (Nat.zero_le _) _).size) (fun g _ h => by rw [hW]; exact heap_setCell_other _ ⟨w.heap.size, 34, none⟩ g _ (by show g ≠ w.heap.size; omega))
            have r3 := (hV.mono (Q' := fun g => p.heap.size ≤ g) fun g _ h => Nat.le_trans hp3 h).keep (w' := W7) (fun g _ h => by rw [hW]; exact heap_setCell_other _ ⟨w.heap.size, 34, none⟩ g _ (by show g ≠ w.heap.size; omega))
            have r4 := Whole.far (Whole.below HT3.out b6 (by omega)) (a := ⟨w.heap.size, 34, none⟩) (by show w2.heap.size ≠ w.heap.size; omega) (.slice A5 (L1.length + 1) c5)
            have r5 := Whole.far (Whole.below (Whole.below H6.out HB3.out (by omega)) b6 (by omega)) (a := ⟨w.heap.size, 34, none⟩) (by show _ ≠ w.heap.size; omega) (.slice A5 (L1.length + 1) c5)
            have r6 := Whole.far (Whole.below (Whole.below H7.out HB3.out (by omega)) b6 (by omega)) (a := ⟨w.heap.size, 34, none⟩) (by show _ ≠ w.heap.size; omega) (.slice A5 (L1.length + 1) c5)
            have r7 := (HU3.out.trans (b6.mono (by omega))).setCell (p := ⟨w.heap.size, 34, none⟩) (Nat.le_refl _) (.slice A5 (L1.length + 1) c5)
            rw [← hW] at r1 r4 r5 r6 r7
            go_simp
            rw [← hW]
            clear hW
            refine hKK.out _ _ (.inl (by kernel_rfl)) trivial ?_
            clear hKK KK
            (try simp only [sq])
            refine AnyG_done (by kernel_rfl) ?_ _
            go_wp2_with fail
            go_meet
            exact ⟨A5, c5, D, dc, r1, r2, r3, r4, r5, r6, r7⟩
          · skip
            (try simp only [sq])
            obtain ⟨g5, hg⟩ : ∃ g, g = W1.heap.size := ⟨_, rfl⟩
            obtain ⟨W2, hW⟩ : ∃ x, x = W1.alloc (.cells #[] 5) := ⟨_, rfl⟩
            have b2 : Below u3.heap.size u3 W2 := by rw [hW]; exact b1.alloc b1.size _
            have oB2 : OwnBf W2 u3.heap.size (.slice (some ⟨g5, 0, none⟩) 0 0) [] := owns_empty (by rw [hW, hg]; exact heap_alloc_new _ _) (by rw [hg]; exact b1.size)
            have oM2 := oM1.alloc (.cells #[] 5)
            rw [← hW] at oM2
            go_simp
            rw [← hg, ← hW]
            clear hg hW
            clear hHeld
            have hHeld : (fun W : World => W.cell? ⟨w.heap.size, 34, none⟩ = some (.slice Am a.macs.length cm) ∧ W.rangeAt (w.heap.size + 1) 0 (K.map byt) ∧ W.rangeAt w2.heap.size 0 (E.map byt)) W2 := HCC.out _ b2
            refine hKK.out _ _ (.inr hHeld) trivial ?_
            clear hKK KK
            (try simp only [sq])
            refine AnyG_one (i := 3) (by kernel_rfl) rfl (fun KK hKK => ?_)
            refine step_append_seq (by rfl) _ _ 29 90 zmac 88 (by rfl) Tryd.underlying29 macInfo zmac_size (by omega) (by omega) mcl_len mcl_one u3.heap.size _ [] (by rfl) oM2 Q Am a.macs.length cm L1 HL1L.out (by rfl) (HS1.out.below (HU3.out.trans (b2.mono (by omega))) (Nat.le_refl _)) (by have := HL1L.out; have := HLN.out; simp only [List.length_nil]; omega) b2.size ?_
            intro vM W3 oM0 hbn hgn
            have oM3 : OwnMc W3 u3.heap.size vM L1 := by rw [List.nil_append] at oM0; exact oM0
            have oB3 := oB2.kept hgn (own_ne oB2 oM2 u8_ne_mac)
            have b3 := b2.trans hbn
            clear hbn hgn
            clear hHeld
            have hHeld : (fun W : World => W.cell? ⟨w.heap.size, 34, none⟩ = some (.slice Am a.macs.length cm) ∧ W.rangeAt (w.heap.size + 1) 0 (K.map byt) ∧ W.rangeAt w2.heap.size 0 (E.map byt)) W3 := HCC.out _ b3
            refine hKK.out _ _ (.inr hHeld) trivial ?_
            clear hKK KK
            (try simp only [sq])
            refine AnyG_one (i := 7) (by kernel_rfl) rfl (fun KK hKK => ?_)
            refine step_append_seq (by rfl) _ _ 23 5 (.int .u8 0) 1 (by rfl) Tryd.underlying23 byteInfo byte_size (by omega) (by omega) bf_len bf_one u3.heap.size _ [] (by rfl) oB3 Q2 B m.length d m rfl (by rfl) (seq_bytes (HM.out.below (HU3.out.trans (b3.mono (by omega))) (Nat.le_refl _))) (by simp only [List.length_nil]; omega) b3.size ?_
            intro vB W4 oB0 hbn hgn
            have oB4 : OwnBf W4 u3.heap.size vB m := by rw [List.nil_append] at oB0; exact oB0
            have oM4 := oM3.kept hgn (own_ne oM3 oB3 mac_ne_u8)
            obtain ⟨D, dc, rfl, hsB⟩ := OwnS.seq (ok := fun _ => True) oB4 (fun _ _ => trivial)
            have b4 := b3.trans hbn
            clear hbn hgn hsB
            clear hHeld
            have hHeld : (fun W : World => W.cell? ⟨w.heap.size, 34, none⟩ = some (.slice Am a.macs.length cm) ∧ W.rangeAt (w.heap.size + 1) 0 (K.map byt) ∧ W.rangeAt w2.heap.size 0 (E.map byt)) W4 := HCC.out _ b4
            refine hKK.out _ _ (.inr hHeld) trivial ?_
            clear hKK KK
            (try simp only [sq])
            apply AnyG_pure (i := 9) rfl (by kernel_rfl) (by kernel_rfl) (by kernel_rfl) (by kernel_rfl)
            case hQ => exact fun _ _ _ h => h
            case hB => exact trivial
            case hC => exact .inr hHeld
            case hy => exact yieldsIf_build_mac (by rfl) _ _ _ rfl (e := ⟨K, m, E⟩) hK hEl rfl rfl rfl
            (try simp only [sq])
            refine AnyG_one (i := 10) (by kernel_rfl) rfl (fun KK hKK => ?_)
            have hXok : mok (⟨⟨K, m, E⟩, D, dc⟩ : MeM) := ⟨hK, hEl, by show m.length ≤ 5000; omega⟩
            obtain ⟨g10, hg⟩ : ∃ g, g = W4.heap.size := ⟨_, rfl⟩
            obtain ⟨W5, hW⟩ : ∃ x, x = W4.alloc (.cells (mcl (⟨⟨K, m, E⟩, D, dc⟩ : MeM)).toArray 90) := ⟨_, rfl⟩
            have b5 : Below u3.heap.size u3 W5 := by rw [hW]; exact b4.alloc b4.size _
            have hx1 : Whole W5 g10 90 (mcl (⟨⟨K, m, E⟩, D, dc⟩ : MeM)).toArray := by rw [hW, hg]; exact Whole.here _ _ _
            have oM5 := oM4.alloc (.cells (mcl (⟨⟨K, m, E⟩, D, dc⟩ : MeM)).toArray 90)
            rw [← hW] at oM5
            have oB5 := oB4.alloc (.cells (mcl (⟨⟨K, m, E⟩, D, dc⟩ : MeM)).toArray 90)
            rw [← hW] at oB5
            refine step_buildSlice_mac (by rfl) _ (by rfl) (X := (⟨⟨K, m, E⟩, D, dc⟩ : MeM)) (by rfl) ?_
            rw [← hg, ← hW]
            clear hg hW
            clear hHeld
            have hHeld : (fun W : World => W.cell? ⟨w.heap.size, 34, none⟩ = some (.slice Am a.macs.length cm) ∧ W.rangeAt (w.heap.size + 1) 0 (K.map byt) ∧ W.rangeAt w2.heap.size 0 (E.map byt)) W5 := HCC.out _ b5
            refine hKK.out _ _ (.inr hHeld) trivial ?_
            clear hKK KK
            (try simp only [sq])
            refine AnyG_one (i := 11) (by kernel_rfl) rfl (fun KK hKK => ?_)
            refine step_append_seq (by rfl) _ _ 29 90 zmac 88 (by rfl) Tryd.underlying29 macInfo zmac_size (by omega) (by omega) mcl_len mcl_one u3.heap.size _ L1 (by rfl) oM5 _ (some ⟨g10, 0, none⟩) 1 1 [(⟨⟨K, m, E⟩, D, dc⟩ : MeM)] rfl (by rfl) (seq_one hx1 rfl hXok) (by have := HL1L.out; have := HLN.out; simp only [List.length_singleton]; omega) b5.size ?_
            intro vN W6 oM6 hbn hgn
            have oB6 := oB5.kept hgn (own_ne oB5 oM5 u8_ne_mac)
            have b6 := b5.trans hbn
            obtain ⟨A5, c5, rfl, hS5⟩ := OwnS.seq (ok := mok) oM6 (fun x hx => by
              rcases List.mem_append.1 hx with h | h
              · exact HS1.out.2.2.2.1 x h
              · rw [List.mem_singleton.1 h]; exact hXok)
            obtain ⟨D2, dc2, he2, hsB⟩ := OwnS.seq (ok := fun _ => True) oB6 (fun _ _ => trivial)
            injection he2 with q1 q2 q3
            subst q1 q3
            have hV := bytes_seq hsB
            have hn5 : (L1 ++ [(⟨⟨K, m, E⟩, D, dc⟩ : MeM)]).length = L1.length + 1 := by simp
            rw [hn5]
            clear hbn hgn q2 hsB hn5
            clear hHeld
            have hHeld : (fun W : World => W.cell? ⟨w.heap.size, 34, none⟩ = some (.slice Am a.macs.length cm) ∧ W.rangeAt (w.heap.size + 1) 0 (K.map byt) ∧ W.rangeAt w2.heap.size 0 (E.map byt)) W6 := HCC.out _ b6
            refine hKK.out _ _ (.inr hHeld) trivial ?_
            clear hKK KK
            (try simp only [sq])
            apply AnyG_pure (i := 12) rfl (by kernel_rfl) (by kernel_rfl) (by kernel_rfl) (by kernel_rfl)
            case hQ => exact fun _ _ _ h => h
            case hB => exact trivial
            case hC => exact .inr hHeld
            case hy => (refine Or.inl ⟨by rfl, ?_⟩; intro w hSw; (try go_split_ands); go_simp; (try with_reducible rfl))
            (try simp only [sq])
            refine AnyG_one (i := 13) (by kernel_rfl) rfl (fun KK hKK => ?_)
            (try simp only [sq])
            have hrW := Whole.below HRU.out b6 (by omega)
            have hf34 := ALRow.frees hrW 34
            have hc34 := hHeld.1
            obtain ⟨W7, hW⟩ : ∃ x, x = W6.setCell ⟨w.heap.size, 34, none⟩ (.slice A5 (L1.length + 1) c5) := ⟨_, rfl⟩
            have r1 := ALRow.set34 hrW (.slice A5 (L1.length + 1) c5)
            have r2 := (hS5.mono (Q' := fun g => p.heap.size ≤ g) fun g _ h => Nat.le_trans hp3 h).keep (w' := W7) (by rw [hW]; exact ((Below.refl 0 _).setCell (p := ⟨w.heap.size, 34, none⟩) (Nat.zero_le _) _).size) (fun g _ h => by rw [hW]; exact heap_setCell_other _ ⟨w.heap.size, 34, none⟩ g _ (by show g ≠ w.heap.size; omega))
            have r3 := (hV.mono (Q' := fun g => p.heap.size ≤ g) fun g _ h => Nat.le_trans hp3 h).keep (w' := W7) (fun g _ h => by rw [hW]; exact heap_setCell_other _ ⟨w.heap.size, 34, none⟩ g _ (by show g ≠ w.heap.size; omega))
            have r4 := Whole.far (Whole.below HT3.out b6 (by omega)) (a := ⟨w.heap.size, 34, none⟩) (by show w2.heap.size ≠ w.heap.size; omega) (.slice A5 (L1.length + 1) c5)
            have r5 := Whole.far (Whole.below (Whole.below H6.out HB3.out (by omega)) b6 (by omega)) (a := ⟨w.heap.size, 34, none⟩) (by show _ ≠ w.heap.size; omega) (.slice A5 (L1.length + 1) c5)
            have r6 := Whole.far (Whole.below (Whole.below H7.out HB3.out (by omega)) b6 (by omega)) (a := ⟨w.heap.size, 34, none⟩) (by show _ ≠ w.heap.size; omega) (.slice A5 (L1.length + 1) c5)
            have r7 := (HU3.out.trans (b6.mono (by omega))).setCell (p := ⟨w.heap.size, 34, none⟩) (Nat.le_refl _) (.slice A5 (L1.length + 1) c5)
            rw [← hW] at r1 r4 r5 r6 r7
            go_simp
            rw [← hW]
            clear hW
            refine hKK.out _ _ (.inl (by kernel_rfl)) trivial ?_
            clear hKK KK
            (try simp only [sq])
            refine AnyG_done (by kernel_rfl) ?_ _
            go_wp2_with fail
            go_meet
            exact ⟨A5, c5, D, dc, r1, r2, r3, r4, r5, r6, r7⟩
        · skip
          (try simp only [sq])
          obtain ⟨g5, hg⟩ : ∃ g, g = W0.heap.size := ⟨_, rfl⟩
          obtain ⟨W1, hW⟩ : ∃ x, x = W0.alloc (.cells #[] 5) := ⟨_, rfl⟩
          have b1 : Below u3.heap.size u3 W1 := by rw [hW]; exact b0.alloc b0.size _
          have oB1 : OwnBf W1 u3.heap.size (.slice (some ⟨g5, 0, none⟩) 0 0) [] := owns_empty (by rw [hW, hg]; exact heap_alloc_new _ _) (by rw [hg]; exact b0.size)
          go_simp
          rw [← hg, ← hW]
          clear hg hW
          clear hHeld
          have hHeld : (fun W : World => W.cell? ⟨w.heap.size, 34, none⟩ = some (.slice Am a.macs.length cm) ∧ W.rangeAt (w.heap.size + 1) 0 (K.map byt) ∧ W.rangeAt w2.heap.size 0 (E.map byt)) W1 := HCC.out _ b1
          refine hKK.out _ _ (.inr hHeld) trivial ?_
          clear hKK KK
          (try simp only [sq])
          refine AnyG_one (i := 0) (by kernel_rfl) rfl (fun KK hKK => ?_)
          (try simp only [sq])
          obtain ⟨g0, hg⟩ : ∃ g, g = W1.heap.size := ⟨_, rfl⟩
          obtain ⟨W2, hW⟩ : ∃ x, x = W1.alloc (.cells #[] 90) := ⟨_, rfl⟩
          have b2 : Below u3.heap.size u3 W2 := by rw [hW]; exact b1.alloc b1.size _
          have oM2 : OwnMc W2 u3.heap.size (.slice (some ⟨g0, 0, none⟩) 0 0) [] := owns_empty (by rw [hW, hg]; exact heap_alloc_new _ _) (by rw [hg]; exact b1.size)
          have oB2 := oB1.alloc (.cells #[] 90)
          rw [← hW] at oB2
          go_simp
          rw [← hg, ← hW]
          clear hg hW
          clear hHeld
          have hHeld : (fun W : World => W.cell? ⟨w.heap.size, 34, none⟩ = some (.slice Am a.macs.length cm) ∧ W.rangeAt (w.heap.size + 1) 0 (K.map byt) ∧ W.rangeAt w2.heap.size 0 (E.map byt)) W2 := HCC.out _ b2
          refine hKK.out _ _ (.inr hHeld) trivial ?_
          clear hKK KK
          (try simp only [sq])
          refine AnyG_one (i := 3) (by kernel_rfl) rfl (fun KK hKK => ?_)
          refine step_append_seq (by rfl) _ _ 29 90 zmac 88 (by rfl) Tryd.underlying29 macInfo zmac_size (by omega) (by omega) mcl_len mcl_one u3.heap.size _ [] (by rfl) oM2 Q Am a.macs.length cm L1 HL1L.out (by rfl) (HS1.out.below (HU3.out.trans (b2.mono (by omega))) (Nat.le_refl _)) (by have := HL1L.out; have := HLN.out; simp only [List.length_nil]; omega) b2.size ?_
          intro vM W3 oM0 hbn hgn
          have oM3 : OwnMc W3 u3.heap.size vM L1 := by rw [List.nil_append] at oM0; exact oM0
          have oB3 := oB2.kept hgn (own_ne oB2 oM2 u8_ne_mac)
          have b3 := b2.trans hbn
          clear hbn hgn
          clear hHeld
          have hHeld : (fun W : World => W.cell? ⟨w.heap.size, 34, none⟩ = some (.slice Am a.macs.length cm) ∧ W.rangeAt (w.heap.size + 1) 0 (K.map byt) ∧ W.rangeAt w2.heap.size 0 (E.map byt)) W3 := HCC.out _ b3
          refine hKK.out _ _ (.inr hHeld) trivial ?_
          clear hKK KK
          (try simp only [sq])
          refine AnyG_one (i := 7) (by kernel_rfl) rfl (fun KK hKK => ?_)
          refine step_append_seq (by rfl) _ _ 23 5 (.int .u8 0) 1 (by rfl) Tryd.underlying23 byteInfo byte_size (by omega) (by omega) bf_len bf_one u3.heap.size _ [] (by rfl) oB3 Q2 B m.length d m rfl (by rfl) (seq_bytes (HM.out.below (HU3.out.trans (b3.mono (by omega))) (Nat.le_refl _))) (by simp only [List.length_nil]; omega) b3.size ?_
          intro vB W4 oB0 hbn hgn
          have oB4 : OwnBf W4 u3.heap.size vB m := by rw [List.nil_append] at oB0; exact oB0
          have oM4 := oM3.kept hgn (own_ne oM3 oB3 mac_ne_u8)
          obtain ⟨D, dc, rfl, hsB⟩ := OwnS.seq (ok := fun _ => True) oB4 (fun _ _ => trivial)
          have b4 := b3.trans hbn
          clear hbn hgn hsB
          clear hHeld
          have hHeld : (fun W : World => W.cell? ⟨w.heap.size, 34, none⟩ = some (.slice Am a.macs.length cm) ∧ W.rangeAt (w.heap.size + 1) 0 (K.map byt) ∧ W.rangeAt w2.heap.size 0 (E.map byt)) W4 := HCC.out _ b4
          refine hKK.out _ _ (.inr hHeld) trivial ?_
          clear hKK KK
          (try simp only [sq])
          apply AnyG_pure (i := 9) rfl (by kernel_rfl) (by kernel_rfl) (by kernel_rfl) (by kernel_rfl)
          case hQ => exact fun _ _ _ h => h
          case hB => exact trivial
          case hC => exact .inr hHeld
          case hy => exact yieldsIf_build_mac (by rfl) _ _ _ rfl (e := ⟨K, m, E⟩) hK hEl rfl rfl rfl
          (try simp only [sq])
          refine AnyG_one (i := 10) (by kernel_rfl) rfl (fun KK hKK => ?_)
          have hXok : mok (⟨⟨K, m, E⟩, D, dc⟩ : MeM) := ⟨hK, hEl, by show m.length ≤ 5000; omega⟩
          obtain ⟨g10, hg⟩ : ∃ g, g = W4.heap.size := ⟨_, rfl⟩
          obtain ⟨W5, hW⟩ : ∃ x, x = W4.alloc (.cells (mcl (⟨⟨K, m, E⟩, D, dc⟩ : MeM)).toArray 90) := ⟨_, rfl⟩
          have b5 : Below u3.heap.size u3 W5 := by rw [hW]; exact b4.alloc b4.size _
          have hx1 : Whole W5 g10 90 (mcl (⟨⟨K, m, E⟩, D, dc⟩ : MeM)).toArray := by rw [hW, hg]; exact Whole.here _ _ _
          have oM5 := oM4.alloc (.cells (mcl (⟨⟨K, m, E⟩, D, dc⟩ : MeM)).toArray 90)
          rw [← hW] at oM5
          have oB5 := oB4.alloc (.cells (mcl (⟨⟨K, m, E⟩, D, dc⟩ : MeM)).toArray 90)
          rw [← hW] at oB5
          refine step_buildSlice_mac (by rfl) _ (by rfl) (X := (⟨⟨K, m, E⟩, D, dc⟩ : MeM)) (by rfl) ?_
          rw [← hg, ← hW]
          clear hg hW
          clear hHeld
          have hHeld : (fun W : World => W.cell? ⟨w.heap.size, 34, none⟩ = some (.slice Am a.macs.length cm) ∧ W.rangeAt (w.heap.size + 1) 0 (K.map byt) ∧ W.rangeAt w2.heap.size 0 (E.map byt)) W5 := HCC.out _ b5
          refine hKK.out _ _ (.inr hHeld) trivial ?_
          clear hKK KK
          (try simp only [sq])
          refine AnyG_one (i := 11) (by kernel_rfl) rfl (fun KK hKK => ?_)
          refine step_append_seq (by rfl) _ _ 29 90 zmac 88 (by rfl) Tryd.underlying29 macInfo zmac_size (by omega) (by omega) mcl_len mcl_one u3.heap.size _ L1 (by rfl) oM5 _ (some ⟨g10, 0, none⟩) 1 1 [(⟨⟨K, m, E⟩, D, dc⟩ : MeM)] rfl (by rfl) (seq_one hx1 rfl hXok) (by have := HL1L.out; have := HLN.out; simp only [List.length_singleton]; omega) b5.size ?_
          intro vN W6 oM6 hbn hgn
          have oB6 := oB5.kept hgn (own_ne oB5 oM5 u8_ne_mac)
          have b6 := b5.trans hbn
          obtain ⟨A5, c5, rfl, hS5⟩ := OwnS.seq (ok := mok) oM6 (fun x hx => by
            rcases List.mem_append.1 hx with h | h
            · exact HS1.out.2.2.2.1 x h
            · rw [List.mem_singleton.1 h]; exact hXok)
          obtain ⟨D2, dc2, he2, hsB⟩ := OwnS.seq (ok := fun _ => True) oB6 (fun _ _ => trivial)
          injection he2 with q1 q2 q3
          subst q1 q3
          have hV := bytes_seq hsB
          have hn5 : (L1 ++ [(⟨⟨K, m, E⟩, D, dc⟩ : MeM)]).length = L1.length + 1 := by simp
          rw [hn5]
          clear hbn hgn q2 hsB hn5
          clear hHeld
          have hHeld : (fun W : World => W.cell? ⟨w.heap.size, 34, none⟩ = some (.slice Am a.macs.length cm) ∧ W.rangeAt (w.heap.size + 1) 0 (K.map byt) ∧ W.rangeAt w2.heap.size 0 (E.map byt)) W6 := HCC.out _ b6
          refine hKK.out _ _ (.inr hHeld) trivial ?_
          clear hKK KK
          (try simp only [sq])
          apply AnyG_pure (i := 12) rfl (by kernel_rfl) (by kernel_rfl) (by kernel_rfl) (by kernel_rfl)
          case hQ => exact fun _ _ _ h => h
          case hB => exact trivial
          case hC => exact .inr hHeld
          case hy => (refine Or.inl ⟨by rfl, ?_⟩; intro w hSw; (try go_split_ands); go_simp; (try with_reducible rfl))
          (try simp only [sq])
          refine AnyG_one (i := 13) (by kernel_rfl) rfl (fun KK hKK => ?_)
          (try simp only [sq])
          have hrW := Whole.below HRU.out b6 (by omega)
          have hf34 := ALRow.frees hrW 34
          have hc34 := hHeld.1
          obtain ⟨W7, hW⟩ : ∃ x, x = W6.setCell ⟨w.heap.size, 34, none⟩ (.slice A5 (L1.length + 1) c5) := ⟨_, rfl⟩
          have r1 := ALRow.set34 hrW (.slice A5 (L1.length + 1) c5)
          have r2 := (hS5.mono (Q' := fun g => p.heap.size ≤ g) fun g _ h => Nat.le_trans hp3 h).keep (w' := W7) (by rw [hW]; exact ((Below.refl 0 _).setCell (p := ⟨w.heap.size, 34, none⟩) (Nat.zero_le _) _).size) (fun g _ h => by rw [hW]; exact heap_setCell_other _ ⟨w.heap.size, 34, none⟩ g _ (by show g ≠ w.heap.size; omega))
          have r3 := (hV.mono (Q' := fun g => p.heap.size ≤ g) fun g _ h => Nat.le_trans hp3 h).keep (w' := W7) (fun g _ h => by rw [hW]; exact heap_setCell_other _ ⟨w.heap.size, 34, none⟩ g _ (by show g ≠ w.heap.size; omega))
          have r4 := Whole.far (Whole.below HT3.out b6 (by omega)) (a := ⟨w.heap.size, 34, none⟩) (by show w2.heap.size ≠ w.heap.size; omega) (.slice A5 (L1.length + 1) c5)
          have r5 := Whole.far (Whole.below (Whole.below H6.out HB3.out (by omega)) b6 (by omega)) (a := ⟨w.heap.size, 34, none⟩) (by show _ ≠ w.heap.size; omega) (.slice A5 (L1.length + 1) c5)
          have r6 := Whole.far (Whole.below (Whole.below H7.out HB3.out (by omega)) b6 (by omega)) (a := ⟨w.heap.size, 34, none⟩) (by show _ ≠ w.heap.size; omega) (.slice A5 (L1.length + 1) c5)
          have r7 := (HU3.out.trans (b6.mono (by omega))).setCell (p := ⟨w.heap.size, 34, none⟩) (Nat.le_refl _) (.slice A5 (L1.length + 1) c5)
          rw [← hW] at r1 r4 r5 r6 r7
          go_simp
          rw [← hW]
          clear hW
          refine hKK.out _ _ (.inl (by kernel_rfl)) trivial ?_
          clear hKK KK
          (try simp only [sq])
          refine AnyG_done (by kernel_rfl) ?_ _
          go_wp2_with fail
          go_meet
          exact ⟨A5, c5, D, dc, r1, r2, r3, r4, r5, r6, r7⟩
      case rest =>
        obtain ⟨A5, c5, D, dc, hr, hS5, hV, ht, h6, h7, hbw⟩ := hcut
        rename World => wc
        have HS5 := Lib.hid hS5
        have HV := Lib.hid hV
        have hru : ALRow wc.drew w.heap.size a.free a.seed a.fresh (.slice A5 (L1.length + 1) c5) (.slice Ab a.boxes.length cb) := Whole.drew hr
        have h6u : Whole wc.drew (w.heap.size + 1 + 1) 32 zar := Whole.drew h6
        have h7u : Whole wc.drew (w.heap.size + 1 + 1 + 1) 28 ztr := Whole.drew h7
        have htu : TGRow wc.drew w2.heap.size E := Whole.drew ht
        have bbu : Below w.heap.size w wc.drew := hbw.drew
        have kp0 : ∀ b, p.heap.size ≤ b → wc.drew.heap[b]? = wc.heap[b]? := fun b _ => rfl
        have sz0 : wc.heap.size ≤ wc.drew.heap.size := Nat.le_refl _
        clear hS5 hV hr ht h6 h7 hbw
        go_upto_region 12 with fail
        refine wp_region_held_drew (S := fun W => W.rangeAt w.heap.size 0 (alcl a.free a.seed a.fresh (.slice A5 (L1.length + 1) c5) (.slice Ab a.boxes.length cb)) ∧ W.rangeAt w2.heap.size 0 ((E).map byt)) (by kernel_rfl) (⟨Whole.range hru, TGRow.range htu⟩) (fun hHeld => ?_)
        apply wpT (i := 0) rfl (by kernel_rfl)
        case hQ => exact fun _ _ _ h => h
        case hS => exact hHeld
        case hy => exact yieldsIf_load_mid (by rfl) 32 _ rfl w.heap.size (0) rfl (alcl a.free a.seed a.fresh (.slice A5 (L1.length + 1) c5) (.slice Ab a.boxes.length cb)) _ (fun w hS => hS.1) Tryd.underlying32 rfl (by rw [algSize, alcl_length])
        (try simp only [sq])
        apply wpT (i := 1) rfl (by kernel_rfl)
        case hQ => exact fun _ _ _ h => h
        case hS => exact hHeld
        case hy => exact yieldsIf_load_mid (by rfl) 28 _ rfl w2.heap.size (0) rfl ((E).map byt) _ (fun w hS => hS.2) Tryd.underlying28 rfl (by rw [tagSize, tag_len (hEl)])
        (try simp only [sq])
        refine wpAnyH_ready (rs := [2]) (by kernel_rfl) (by simp) ?_
        refine AllReadyH.cons rfl (fun KK hKK => ?_) AllReadyH.nil
        (try simp only [sq])
        obtain ⟨X1, hX1⟩ : ∃ x, x = wc.drew.setRow (w.heap.size + 1 + 1) ((alcl a.free a.seed a.fresh (.slice A5 (L1.length + 1) c5) (.slice Ab a.boxes.length cb)).toArray) := ⟨_, rfl⟩
        have hsX1 : ALRow X1 w.heap.size a.free a.seed a.fresh (.slice A5 (L1.length + 1) c5) (.slice Ab a.boxes.length cb) := by rw [hX1]; exact Whole.setRow_far hru (by omega) _
        have e1 : Whole X1 (w.heap.size + 1 + 1) 32 (alc a.free a.seed a.fresh (.slice A5 (L1.length + 1) c5) (.slice Ab a.boxes.length cb)) := by rw [hX1]; exact Whole.setRow h6u _
        have h7X1 : Whole X1 (w.heap.size + 1 + 1 + 1) 28 ztr := by rw [hX1]; exact Whole.setRow_far h7u (by omega) _
        have bbX1 : Below w.heap.size w X1 := by rw [hX1]; exact below_setRow bbu (by omega) _
        have htX1 : TGRow X1 w2.heap.size (E) := by rw [hX1]; exact Whole.setRow_far htu (by omega) _
        have kpX1 : ∀ b, p.heap.size ≤ b → X1.heap[b]? = wc.heap[b]? := by rw [hX1]; exact fun b hb => (setRow_other _ _ b _ (by omega)).trans (kp0 b hb)
        have szX1 : wc.heap.size ≤ X1.heap.size := by rw [hX1]; exact Nat.le_trans sz0 (below_setRow (B := 0) (Below.refl 0 _) (Nat.zero_le _) _).size
        rw [if_pos (by kernel_rfl)]
        refine wp_store_row 32 _ _ rfl (w.heap.size + 1 + 1) _ rfl rfl 32 _ h6u (by rw [algSize, List.size_toArray, alcl_length]) (by rw [zar_size, List.size_toArray, alcl_length]) (alc_one _ _ _ _ _ _ _ _ _) ?_
        rw [← hX1]
        clear hX1
        refine hKK.out _ _ (⟨Whole.range hsX1, TGRow.range htX1⟩) (fun hHeld => ?_)
        clear hKK KK
        (try simp only [sq])
        refine wpAnyH_ready (rs := [3]) (by kernel_rfl) (by simp) ?_
        refine AllReadyH.cons rfl (fun KK hKK => ?_) AllReadyH.nil
        (try simp only [sq])
        have e1o := e1
        clear e1
        obtain ⟨X2, hX2⟩ : ∃ x, x = X1.setRow (w.heap.size + 1 + 1 + 1) (((E).map byt).toArray) := ⟨_, rfl⟩
        have hsX2 : ALRow X2 w.heap.size a.free a.seed a.fresh (.slice A5 (L1.length + 1) c5) (.slice Ab a.boxes.length cb) := by rw [hX2]; exact Whole.setRow_far hsX1 (by omega) _
        have e1 : Whole X2 (w.heap.size + 1 + 1) 32 (alc a.free a.seed a.fresh (.slice A5 (L1.length + 1) c5) (.slice Ab a.boxes.length cb)) := by rw [hX2]; exact Whole.setRow_far e1o (by omega) _
        have e2 : TGRow X2 (w.heap.size + 1 + 1 + 1) (E) := by rw [hX2]; exact Whole.setRow h7X1 _
        have bbX2 : Below w.heap.size w X2 := by rw [hX2]; exact below_setRow bbX1 (by omega) _
        have htX2 : TGRow X2 w2.heap.size (E) := by rw [hX2]; exact Whole.setRow_far htX1 (by omega) _
        have kpX2 : ∀ b, p.heap.size ≤ b → X2.heap[b]? = wc.heap[b]? := by rw [hX2]; exact fun b hb => (setRow_other _ _ b _ (by omega)).trans (kpX1 b hb)
        have szX2 : wc.heap.size ≤ X2.heap.size := by rw [hX2]; exact Nat.le_trans szX1 (below_setRow (B := 0) (Below.refl 0 _) (Nat.zero_le _) _).size
        rw [if_pos (by kernel_rfl)]
        refine wp_store_row 28 _ _ rfl (w.heap.size + 1 + 1 + 1) _ rfl rfl 28 _ h7X1 (by rw [tagSize, tag_size (hEl)]) (by rw [ztr_size, tag_size (hEl)]) (tag_one _) ?_
        rw [← hX2]
        clear hX2
        refine hKK.out _ _ (⟨Whole.range hsX2, TGRow.range htX2⟩) (fun hHeld => ?_)
        clear hKK KK
        (try simp only [sq])
        apply wpT (i := 4) rfl (by kernel_rfl)
        case hQ => exact fun _ _ _ h => h
        case hS => exact hHeld
        case hy => (refine Or.inl ⟨by rfl, ?_⟩; intro w hSw; (try go_split_ands); go_simp; (try with_reducible rfl))
        (try simp only [sq])
        refine wpAnyH_done (by kernel_rfl) ?_ _
        go_wp2_with fail
        have hbf := bbX2
        refine bodyPost_ret (results_alg3 Tryd.results14 _ rfl rfl _ rfl (alc_size _ _ _ _ _) (tag_size (hEl)) e1 e2) rfl ?_
        show AlgR _ _ _ R ∧ _
        rw [HRR.out, ← HE.out]
        refine ⟨⟨_, rfl, ?_⟩, hbf⟩
        have h := alv_more (a := a) (X := (⟨⟨K, m, E⟩, D, dc⟩ : MeM)) HL1.out (fun x hx => ((HB1.out x hx).below hbf (Nat.le_refl _)).mono fun _ _ h => .inl h) ((HS5.out.keep szX2 fun g _ hq => kpX2 g hq).mono fun g _ h => (by omega : w.heap.size ≤ g)) ((HV.out.keep fun g _ hq => kpX2 g hq).mono fun g _ h => (by omega : w.heap.size ≤ g)) (HBX.out.below hbf (Nat.le_refl _)) HA.out HLN.out
        rw [show (L1 ++ [(⟨⟨K, m, E⟩, D, dc⟩ : MeM)]).length = L1.length + 1 by simp] at h
        exact h
    · skip
      rw [hF] at c0
      have hES : E = sym 109#8 ((a.macs.length + 1 : Nat) : Int) := by rw [HE.out]; unfold ntag; rw [hF]; rfl
      have hcl := rsymbol 109#8 ((a.macs.length + 1 : Nat) : Int) u2
      rw [bv109', ← hES] at hcl
      have hw1 : IntKind.i64.wrap ((a.macs.length : Int) + 1) = ((a.macs.length + 1 : Nat) : Int) := by rw [IntKind.wrap_i64]; have := HLN.out; omega
      have HCL := Lib.hid hcl
      have HFF := Lib.hid hF
      clear hF hES hcl
      go_wp2_with fail
      refine HCL.out.mono ?_
      rintro e w3 ⟨rfl, hb3⟩
      clear HCL hw1
      have ht3 := Whole.below HT2.out hb3 (by omega)
      have HT20 := Lib.hid ht3
      have hws : u2.heap.size ≤ w3.heap.size := hb3.size
      go_upto_region 11 with (first
        | (with_reducible refine wpList_store_tag rfl _ _ rfl (g := w2.heap.size) rfl rfl HT20.out (tag_size hHl) (tag_size hEl) (tag_one _) ?_))
      obtain ⟨u3, hu3⟩ : ∃ x, x = w3.setRow w2.heap.size (E.map byt).toArray := ⟨_, rfl⟩
      have HB3 : Hid (Below p.heap.size p u3) := Lib.hid (by rw [hu3]; exact below_setRow (HB2.out.trans (hb3.mono (by omega))) (by omega) _)
      have HT3 : Hid (TGRow u3 w2.heap.size E) := Lib.hid (by rw [hu3]; exact Whole.setRow HT20.out _)
      have hw23 : w2.heap.size < u3.heap.size := Whole.lt HT3.out
      rw [← hu3]
      clear hu3 ht3 hb3 c0 c34
      try simp only [Act.put]
      have hp3 : p.heap.size ≤ u3.heap.size := HB3.out.size
      have HU3 : Hid (Below w.heap.size w u3) := Lib.hid (HB.out.trans (HB3.out.mono (by omega)))
      have HRU := Lib.hid (Whole.below HR.out HB3.out (by omega))
      have HCC : Hid (∀ W, Below u3.heap.size u3 W → W.cell? ⟨w.heap.size, 34, none⟩ = some (.slice Am a.macs.length cm) ∧ W.rangeAt (w.heap.size + 1) 0 (K.map byt) ∧ W.rangeAt w2.heap.size 0 (E.map byt)) := Lib.hid fun W hb => ⟨(ALRow.cells (Whole.below HRU.out hb (by omega))).2.2.1, TGRow.range (Whole.below (Whole.below HK.out HB3.out (by omega)) hb (by omega)), TGRow.range (Whole.below HT3.out hb (by omega))⟩
      go_cut [] (fun wx => ∃ (A5 : Option Addr) (c5 : Nat) (D : Option Addr) (dc : Nat), ALRow wx w.heap.size a.free a.seed a.fresh (.slice A5 (L1.length + 1) c5) (.slice Ab a.boxes.length cb) ∧ Seq mcl mok wx (fun g => p.heap.size ≤ g) A5 c5 (L1 ++ [⟨⟨K, m, E⟩, D, dc⟩]) ∧ Bytes wx (fun b => p.heap.size ≤ b) (.slice D m.length dc) m ∧ TGRow wx w2.heap.size E ∧ Whole wx (w.heap.size + 1 + 1) 32 zar ∧ Whole wx (w.heap.size + 1 + 1 + 1) 28 ztr ∧ Below w.heap.size w wx)
      case first =>
        have b0 : Below u3.heap.size u3 u3.drew := (Below.refl _ _).drew
        refine wp_region_G (fun W : World => W.cell? ⟨w.heap.size, 34, none⟩ = some (.slice Am a.macs.length cm) ∧ W.rangeAt (w.heap.size + 1) 0 (K.map byt) ∧ W.rangeAt w2.heap.size 0 (E.map byt)) (fun _ => True) [13] (by kernel_rfl) ?_
        generalize u3.drew = W0 at b0 ⊢
        have hHeld : (fun W : World => W.cell? ⟨w.heap.size, 34, none⟩ = some (.slice Am a.macs.length cm) ∧ W.rangeAt (w.heap.size + 1) 0 (K.map byt) ∧ W.rangeAt w2.heap.size 0 (E.map byt)) W0 := HCC.out _ b0
        apply AnyG_pure (i := 1) rfl (by kernel_rfl) (by kernel_rfl) (by kernel_rfl) (by kernel_rfl)
        case hQ => exact fun _ _ _ h => h
        case hB => exact trivial
        case hC => exact .inr hHeld
        case hy => (refine Or.inl ⟨by rfl, ?_⟩; intro w hSw; (try go_split_ands); go_simp; (try with_reducible rfl))
        (try simp only [sq])
        apply AnyG_take (i := 2) rfl (by kernel_rfl) (by kernel_rfl) (by kernel_rfl) (by kernel_rfl)
        case hQ => exact fun _ _ _ h => h
        case hB => exact trivial
        case hC => exact hHeld
        case hy => (refine Or.inl ⟨by rfl, ?_⟩; intro w hSw; (try go_split_ands); go_simp; (try with_reducible rfl))
        (try simp only [sq])
        apply AnyG_take (i := 4) rfl (by kernel_rfl) (by kernel_rfl) (by kernel_rfl) (by kernel_rfl)
        case hQ => exact fun _ _ _ h => h
        case hB => exact trivial
        case hC => exact hHeld
        case hy => exact yieldsIf_load_mid (by rfl) 28 _ rfl (w.heap.size + 1) (0) rfl (K.map byt) _ (fun w hS => hS.2.1) Tryd.underlying28 rfl (by rw [tagSize, hKl])
        (try simp only [sq])
        apply AnyG_pure (i := 6) rfl (by kernel_rfl) (by kernel_rfl) (by kernel_rfl) (by kernel_rfl)
        case hQ => exact fun _ _ _ h => h
        case hB => exact trivial
        case hC => exact .inr hHeld
        case hy => (refine Or.inl ⟨by rfl, ?_⟩; intro w hSw; (try go_split_ands); go_simp; (try with_reducible rfl))
        (try simp only [sq])
        apply AnyG_take (i := 8) rfl (by kernel_rfl) (by kernel_rfl) (by kernel_rfl) (by kernel_rfl)
        case hQ => exact fun _ _ _ h => h
        case hB => exact trivial
        case hC => exact hHeld
        case hy => exact yieldsIf_load_mid (by rfl) 28 _ rfl w2.heap.size (0) rfl (E.map byt) _ (fun w hS => hS.2.2) Tryd.underlying28 rfl (by rw [tagSize, hEl2])
        (try simp only [sq])
        refine AnyG_two (i := 0) (j := 5) (by kernel_rfl) rfl rfl (fun KK hKK => ?_) (fun KK hKK => ?_)
        · skip
          (try simp only [sq])
          obtain ⟨g0, hg⟩ : ∃ g, g = W0.heap.size := ⟨_, rfl⟩
          obtain ⟨W1, hW⟩ : ∃ x, x = W0.alloc (.cells #[] 90) := ⟨_, rfl⟩
          have b1 : Below u3.heap.size u3 W1 := by rw [hW]; exact b0.alloc b0.size _
          have oM1 : OwnMc W1 u3.heap.size (.slice (some ⟨g0, 0, none⟩) 0 0) [] := owns_empty (by rw [hW, hg]; exact heap_alloc_new _ _) (by rw [hg]; exact b0.size)
          go_simp
          rw [← hg, ← hW]
          clear hg hW
          clear hHeld
          have hHeld : (fun W : World => W.cell? ⟨w.heap.size, 34, none⟩ = some (.slice Am a.macs.length cm) ∧ W.rangeAt (w.heap.size + 1) 0 (K.map byt) ∧ W.rangeAt w2.heap.size 0 (E.map byt)) W1 := HCC.out _ b1
          refine hKK.out _ _ (.inr hHeld) trivial ?_
          clear hKK KK
          (try simp only [sq])
          refine AnyG_two (i := 3) (j := 5) (by kernel_rfl) rfl rfl (fun KK hKK => ?_) (fun KK hKK => ?_)
          · skip
            refine step_append_seq (by rfl) _ _ 29 90 zmac 88 (by rfl) Tryd.underlying29 macInfo zmac_size (by omega) (by omega) mcl_len mcl_one u3.heap.size _ [] (by rfl) oM1 Q Am a.macs.length cm L1 HL1L.out (by rfl) (HS1.out.below (HU3.out.trans (b1.mono (by omega))) (Nat.le_refl _)) (by have := HL1L.out; have := HLN.out; simp only [List.length_nil]; omega) b1.size ?_
            intro vM W2 oM0 hbn hgn
            have oM2 : OwnMc W2 u3.heap.size vM L1 := by rw [List.nil_append] at oM0; exact oM0
            have b2 := b1.trans hbn
            clear hbn hgn
            clear hHeld
            have hHeld : (fun W : World => W.cell? ⟨w.heap.size, 34, none⟩ = some (.slice Am a.macs.length cm) ∧ W.rangeAt (w.heap.size + 1) 0 (K.map byt) ∧ W.rangeAt w2.heap.size 0 (E.map byt)) W2 := HCC.out _ b2
            refine hKK.out _ _ (.inr hHeld) trivial ?_
            clear hKK KK
            (try simp only [sq])
            refine AnyG_one (i := 5) (by kernel_rfl) rfl (fun KK hKK => ?_)
            (try simp only [sq])
            obtain ⟨g5, hg⟩ : ∃ g, g = W2.heap.size := ⟨_, rfl⟩
            obtain ⟨W3, hW⟩ : ∃ x, x = W2.alloc (.cells #[] 5) := ⟨_, rfl⟩
            have b3 : Below u3.heap.size u3 W3 := by rw [hW]; exact b2.alloc b2.size _
            have oB3 : OwnBf W3 u3.heap.size (.slice (some ⟨g5, 0, none⟩) 0 0) [] := owns_empty (by rw [hW, hg]; exact heap_alloc_new _ _) (by rw [hg]; exact b2.size)
            have oM3 := oM2.alloc (.cells #[] 5)
            rw [← hW] at oM3
            go_simp
            rw [← hg, ← hW]
            clear hg hW
            clear hHeld
            have hHeld : (fun W : World => W.cell? ⟨w.heap.size, 34, none⟩ = some (.slice Am a.macs.length cm) ∧ W.rangeAt (w.heap.size + 1) 0 (K.map byt) ∧ W.rangeAt w2.heap.size 0 (E.map byt)) W3 := HCC.out _ b3
            refine hKK.out _ _ (.inr hHeld) trivial ?_
            clear hKK KK
            (try simp only [sq])
            refine AnyG_one (i := 7) (by kernel_rfl) rfl (fun KK hKK => ?_)
            refine step_append_seq (by rfl) _ _ 23 5 (.int .u8 0) 1 (by rfl) Tryd.underlying23 byteInfo byte_size (by omega) (by omega) bf_len bf_one u3.heap.size _ [] (by rfl) oB3 Q2 B m.length d m rfl (by rfl) (seq_bytes (HM.out.below (HU3.out.trans (b3.mono (by omega))) (Nat.le_refl _))) (by simp only [List.length_nil]; omega) b3.size ?_
            intro vB W4 oB0 hbn hgn
            have oB4 : OwnBf W4 u3.heap.size vB m := by rw [List.nil_append] at oB0; exact oB0
            have oM4 := oM3.kept hgn (own_ne oM3 oB3 mac_ne_u8)
            obtain ⟨D, dc, rfl, hsB⟩ := OwnS.seq (ok := fun _ => True) oB4 (fun _ _ => trivial)
            have b4 := b3.trans hbn
            clear hbn hgn hsB
            clear hHeld
            have hHeld : (fun W : World => W.cell? ⟨w.heap.size, 34, none⟩ = some (.slice Am a.macs.length cm) ∧ W.rangeAt (w.heap.size + 1) 0 (K.map byt) ∧ W.rangeAt w2.heap.size 0 (E.map byt)) W4 := HCC.out _ b4
            refine hKK.out _ _ (.inr hHeld) trivial ?_
            clear hKK KK
            (try simp only [sq])
            apply AnyG_pure (i := 9) rfl (by kernel_rfl) (by kernel_rfl) (by kernel_rfl) (by kernel_rfl)
            case hQ => exact fun _ _ _ h => h
            case hB => exact trivial
            case hC => exact .inr hHeld
            case hy => exact yieldsIf_build_mac (by rfl) _ _ _ rfl (e := ⟨K, m, E⟩) hK hEl rfl rfl rfl
            (try simp only [sq])
            refine AnyG_one (i := 10) (by kernel_rfl) rfl (fun KK hKK => ?_)
            have hXok : mok (⟨⟨K, m, E⟩, D, dc⟩ : MeM) := ⟨hK, hEl, by show m.length ≤ 5000; omega⟩
            obtain ⟨g10, hg⟩ : ∃ g, g = W4.heap.size := ⟨_, rfl⟩
            obtain ⟨W5, hW⟩ : ∃ x, x = W4.alloc (.cells (mcl (⟨⟨K, m, E⟩, D, dc⟩ : MeM)).toArray 90) := ⟨_, rfl⟩
            have b5 : Below u3.heap.size u3 W5 := by rw [hW]; exact b4.alloc b4.size _
            have hx1 : Whole W5 g10 90 (mcl (⟨⟨K, m, E⟩, D, dc⟩ : MeM)).toArray := by rw [hW, hg]; exact Whole.here _ _ _
            have oM5 := oM4.alloc (.cells (mcl (⟨⟨K, m, E⟩, D, dc⟩ : MeM)).toArray 90)
            rw [← hW] at oM5
            have oB5 := oB4.alloc (.cells (mcl (⟨⟨K, m, E⟩, D, dc⟩ : MeM)).toArray 90)
            rw [← hW] at oB5
            refine step_buildSlice_mac (by rfl) _ (by rfl) (X := (⟨⟨K, m, E⟩, D, dc⟩ : MeM)) (by rfl) ?_
            rw [← hg, ← hW]
            clear hg hW
            clear hHeld
            have hHeld : (fun W : World => W.cell? ⟨w.heap.size, 34, none⟩ = some (.slice Am a.macs.length cm) ∧ W.rangeAt (w.heap.size + 1) 0 (K.map byt) ∧ W.rangeAt w2.heap.size 0 (E.map byt)) W5 := HCC.out _ b5
            refine hKK.out _ _ (.inr hHeld) trivial ?_
            clear hKK KK
            (try simp only [sq])
            refine AnyG_one (i := 11) (by kernel_rfl) rfl (fun KK hKK => ?_)
            refine step_append_seq (by rfl) _ _ 29 90 zmac 88 (by rfl) Tryd.underlying29 macInfo zmac_size (by omega) (by omega) mcl_len mcl_one u3.heap.size _ L1 (by rfl) oM5 _ (some ⟨g10, 0, none⟩) 1 1 [(⟨⟨K, m, E⟩, D, dc⟩ : MeM)] rfl (by rfl) (seq_one hx1 rfl hXok) (by have := HL1L.out; have := HLN.out; simp only [List.length_singleton]; omega) b5.size ?_
            intro vN W6 oM6 hbn hgn
            have oB6 := oB5.kept hgn (own_ne oB5 oM5 u8_ne_mac)
            have b6 := b5.trans hbn
            obtain ⟨A5, c5, rfl, hS5⟩ := OwnS.seq (ok := mok) oM6 (fun x hx => by
              rcases List.mem_append.1 hx with h | h
              · exact HS1.out.2.2.2.1 x h
              · rw [List.mem_singleton.1 h]; exact hXok)
            obtain ⟨D2, dc2, he2, hsB⟩ := OwnS.seq (ok := fun _ => True) oB6 (fun _ _ => trivial)
            injection he2 with q1 q2 q3
            subst q1 q3
            have hV := bytes_seq hsB
            have hn5 : (L1 ++ [(⟨⟨K, m, E⟩, D, dc⟩ : MeM)]).length = L1.length + 1 := by simp
            rw [hn5]
            clear hbn hgn q2 hsB hn5
            clear hHeld
            have hHeld : (fun W : World => W.cell? ⟨w.heap.size, 34, none⟩ = some (.slice Am a.macs.length cm) ∧ W.rangeAt (w.heap.size + 1) 0 (K.map byt) ∧ W.rangeAt w2.heap.size 0 (E.map byt)) W6 := HCC.out _ b6
            refine hKK.out _ _ (.inr hHeld) trivial ?_
            clear hKK KK
            (try simp only [sq])
            apply AnyG_pure (i := 12) rfl (by kernel_rfl) (by kernel_rfl) (by kernel_rfl) (by kernel_rfl)
            case hQ => exact fun _ _ _ h => h
            case hB => exact trivial
            case hC => exact .inr hHeld
            case hy => (refine Or.inl ⟨by rfl, ?_⟩; intro w hSw; (try go_split_ands); go_simp; (try with_reducible rfl))
            (try simp only [sq])
            refine AnyG_one (i := 13) (by kernel_rfl) rfl (fun KK hKK => ?_)
            (try simp only [sq])
            have hrW := Whole.below HRU.out b6 (by omega)
            have hf34 := ALRow.frees hrW 34
            have hc34 := hHeld.1
            obtain ⟨W7, hW⟩ : ∃ x, x = W6.setCell ⟨w.heap.size, 34, none⟩ (.slice A5 (L1.length + 1) c5) := ⟨_, rfl⟩
            have r1 := ALRow.set34 hrW (.slice A5 (L1.length + 1) c5)
            have r2 := (hS5.mono (Q' := fun g => p.heap.size ≤ g) fun g _ h => Nat.le_trans hp3 h).keep (w' := W7) (by rw [hW]; exact ((Below.refl 0 _).setCell (p := ⟨w.heap.size, 34, none⟩) (Nat.zero_le _) _).size) (fun g _ h => by rw [hW]; exact heap_setCell_other _ ⟨w.heap.size, 34, none⟩ g _ (by show g ≠ w.heap.size; omega))
            have r3 := (hV.mono (Q' := fun g => p.heap.size ≤ g) fun g _ h => Nat.le_trans hp3 h).keep (w' := W7) (fun g _ h => by rw [hW]; exact heap_setCell_other _ ⟨w.heap.size, 34, none⟩ g _ (by show g ≠ w.heap.size; omega))
            have r4 := Whole.far (Whole.below HT3.out b6 (by omega)) (a := ⟨w.heap.size, 34, none⟩) (by show w2.heap.size ≠ w.heap.size; omega) (.slice A5 (L1.length + 1) c5)
            have r5 := Whole.far (Whole.below (Whole.below H6.out HB3.out (by omega)) b6 (by omega)) (a := ⟨w.heap.size, 34, none⟩) (by show _ ≠ w.heap.size; omega) (.slice A5 (L1.length + 1) c5)
            have r6 := Whole.far (Whole.below (Whole.below H7.out HB3.out (by omega)) b6 (by omega)) (a := ⟨w.heap.size, 34, none⟩) (by show _ ≠ w.heap.size; omega) (.slice A5 (L1.length + 1) c5)
            have r7 := (HU3.out.trans (b6.mono (by omega))).setCell (p := ⟨w.heap.size, 34, none⟩) (Nat.le_refl _) (.slice A5 (L1.length + 1) c5)
            rw [← hW] at r1 r4 r5 r6 r7
            go_simp
            rw [← hW]
            clear hW
            refine hKK.out _ _ (.inl (by kernel_rfl)) trivial ?_
            clear hKK KK
            (try simp only [sq])
            refine AnyG_done (by kernel_rfl) ?_ _
            go_wp2_with fail
            go_meet
            exact ⟨A5, c5, D, dc, r1, r2, r3, r4, r5, r6, r7⟩
          · skip
            (try simp only [sq])
            obtain ⟨g5, hg⟩ : ∃ g, g = W1.heap.size := ⟨_, rfl⟩
            obtain ⟨W2, hW⟩ : ∃ x, x = W1.alloc (.cells #[] 5) := ⟨_, rfl⟩
            have b2 : Below u3.heap.size u3 W2 := by rw [hW]; exact b1.alloc b1.size _
            have oB2 : OwnBf W2 u3.heap.size (.slice (some ⟨g5, 0, none⟩) 0 0) [] := owns_empty (by rw [hW, hg]; exact heap_alloc_new _ _) (by rw [hg]; exact b1.size)
            have oM2 := oM1.alloc (.cells #[] 5)
            rw [← hW] at oM2
            go_simp
            rw [← hg, ← hW]
            clear hg hW
            clear hHeld
            have hHeld : (fun W : World => W.cell? ⟨w.heap.size, 34, none⟩ = some (.slice Am a.macs.length cm) ∧ W.rangeAt (w.heap.size + 1) 0 (K.map byt) ∧ W.rangeAt w2.heap.size 0 (E.map byt)) W2 := HCC.out _ b2
            refine hKK.out _ _ (.inr hHeld) trivial ?_
            clear hKK KK
            (try simp only [sq])
            refine AnyG_one (i := 3) (by kernel_rfl) rfl (fun KK hKK => ?_)
            refine step_append_seq (by rfl) _ _ 29 90 zmac 88 (by rfl) Tryd.underlying29 macInfo zmac_size (by omega) (by omega) mcl_len mcl_one u3.heap.size _ [] (by rfl) oM2 Q Am a.macs.length cm L1 HL1L.out (by rfl) (HS1.out.below (HU3.out.trans (b2.mono (by omega))) (Nat.le_refl _)) (by have := HL1L.out; have := HLN.out; simp only [List.length_nil]; omega) b2.size ?_
            intro vM W3 oM0 hbn hgn
            have oM3 : OwnMc W3 u3.heap.size vM L1 := by rw [List.nil_append] at oM0; exact oM0
            have oB3 := oB2.kept hgn (own_ne oB2 oM2 u8_ne_mac)
            have b3 := b2.trans hbn
            clear hbn hgn
            clear hHeld
            have hHeld : (fun W : World => W.cell? ⟨w.heap.size, 34, none⟩ = some (.slice Am a.macs.length cm) ∧ W.rangeAt (w.heap.size + 1) 0 (K.map byt) ∧ W.rangeAt w2.heap.size 0 (E.map byt)) W3 := HCC.out _ b3
            refine hKK.out _ _ (.inr hHeld) trivial ?_
            clear hKK KK
            (try simp only [sq])
            refine AnyG_one (i := 7) (by kernel_rfl) rfl (fun KK hKK => ?_)
            refine step_append_seq (by rfl) _ _ 23 5 (.int .u8 0) 1 (by rfl) Tryd.underlying23 byteInfo byte_size (by omega) (by omega) bf_len bf_one u3.heap.size _ [] (by rfl) oB3 Q2 B m.length d m rfl (by rfl) (seq_bytes (HM.out.below (HU3.out.trans (b3.mono (by omega))) (Nat.le_refl _))) (by simp only [List.length_nil]; omega) b3.size ?_
            intro vB W4 oB0 hbn hgn
            have oB4 : OwnBf W4 u3.heap.size vB m := by rw [List.nil_append] at oB0; exact oB0
            have oM4 := oM3.kept hgn (own_ne oM3 oB3 mac_ne_u8)
            obtain ⟨D, dc, rfl, hsB⟩ := OwnS.seq (ok := fun _ => True) oB4 (fun _ _ => trivial)
            have b4 := b3.trans hbn
            clear hbn hgn hsB
            clear hHeld
            have hHeld : (fun W : World => W.cell? ⟨w.heap.size, 34, none⟩ = some (.slice Am a.macs.length cm) ∧ W.rangeAt (w.heap.size + 1) 0 (K.map byt) ∧ W.rangeAt w2.heap.size 0 (E.map byt)) W4 := HCC.out _ b4
            refine hKK.out _ _ (.inr hHeld) trivial ?_
            clear hKK KK
            (try simp only [sq])
            apply AnyG_pure (i := 9) rfl (by kernel_rfl) (by kernel_rfl) (by kernel_rfl) (by kernel_rfl)
            case hQ => exact fun _ _ _ h => h
            case hB => exact trivial
            case hC => exact .inr hHeld
            case hy => exact yieldsIf_build_mac (by rfl) _ _ _ rfl (e := ⟨K, m, E⟩) hK hEl rfl rfl rfl
            (try simp only [sq])
            refine AnyG_one (i := 10) (by kernel_rfl) rfl (fun KK hKK => ?_)
            have hXok : mok (⟨⟨K, m, E⟩, D, dc⟩ : MeM) := ⟨hK, hEl, by show m.length ≤ 5000; omega⟩
            obtain ⟨g10, hg⟩ : ∃ g, g = W4.heap.size := ⟨_, rfl⟩
            obtain ⟨W5, hW⟩ : ∃ x, x = W4.alloc (.cells (mcl (⟨⟨K, m, E⟩, D, dc⟩ : MeM)).toArray 90) := ⟨_, rfl⟩
            have b5 : Below u3.heap.size u3 W5 := by rw [hW]; exact b4.alloc b4.size _
            have hx1 : Whole W5 g10 90 (mcl (⟨⟨K, m, E⟩, D, dc⟩ : MeM)).toArray := by rw [hW, hg]; exact Whole.here _ _ _
            have oM5 := oM4.alloc (.cells (mcl (⟨⟨K, m, E⟩, D, dc⟩ : MeM)).toArray 90)
            rw [← hW] at oM5
            have oB5 := oB4.alloc (.cells (mcl (⟨⟨K, m, E⟩, D, dc⟩ : MeM)).toArray 90)
            rw [← hW] at oB5
            refine step_buildSlice_mac (by rfl) _ (by rfl) (X := (⟨⟨K, m, E⟩, D, dc⟩ : MeM)) (by rfl) ?_
            rw [← hg, ← hW]
            clear hg hW
            clear hHeld
            have hHeld : (fun W : World => W.cell? ⟨w.heap.size, 34, none⟩ = some (.slice Am a.macs.length cm) ∧ W.rangeAt (w.heap.size + 1) 0 (K.map byt) ∧ W.rangeAt w2.heap.size 0 (E.map byt)) W5 := HCC.out _ b5
            refine hKK.out _ _ (.inr hHeld) trivial ?_
            clear hKK KK
            (try simp only [sq])
            refine AnyG_one (i := 11) (by kernel_rfl) rfl (fun KK hKK => ?_)
            refine step_append_seq (by rfl) _ _ 29 90 zmac 88 (by rfl) Tryd.underlying29 macInfo zmac_size (by omega) (by omega) mcl_len mcl_one u3.heap.size _ L1 (by rfl) oM5 _ (some ⟨g10, 0, none⟩) 1 1 [(⟨⟨K, m, E⟩, D, dc⟩ : MeM)] rfl (by rfl) (seq_one hx1 rfl hXok) (by have := HL1L.out; have := HLN.out; simp only [List.length_singleton]; omega) b5.size ?_
            intro vN W6 oM6 hbn hgn
            have oB6 := oB5.kept hgn (own_ne oB5 oM5 u8_ne_mac)
            have b6 := b5.trans hbn
            obtain ⟨A5, c5, rfl, hS5⟩ := OwnS.seq (ok := mok) oM6 (fun x hx => by
              rcases List.mem_append.1 hx with h | h
              · exact HS1.out.2.2.2.1 x h
              · rw [List.mem_singleton.1 h]; exact hXok)
            obtain ⟨D2, dc2, he2, hsB⟩ := OwnS.seq (ok := fun _ => True) oB6 (fun _ _ => trivial)
            injection he2 with q1 q2 q3
            subst q1 q3
            have hV := bytes_seq hsB
            have hn5 : (L1 ++ [(⟨⟨K, m, E⟩, D, dc⟩ : MeM)]).length = L1.length + 1 := by simp
            rw [hn5]
            clear hbn hgn q2 hsB hn5
            clear hHeld
            have hHeld : (fun W : World => W.cell? ⟨w.heap.size, 34, none⟩ = some (.slice Am a.macs.length cm) ∧ W.rangeAt (w.heap.size + 1) 0 (K.map byt) ∧ W.rangeAt w2.heap.size 0 (E.map byt)) W6 := HCC.out _ b6
            refine hKK.out _ _ (.inr hHeld) trivial ?_
            clear hKK KK
            (try simp only [sq])
            apply AnyG_pure (i := 12) rfl (by kernel_rfl) (by kernel_rfl) (by kernel_rfl) (by kernel_rfl)
            case hQ => exact fun _ _ _ h => h
            case hB => exact trivial
            case hC => exact .inr hHeld
            case hy => (refine Or.inl ⟨by rfl, ?_⟩; intro w hSw; (try go_split_ands); go_simp; (try with_reducible rfl))
            (try simp only [sq])
            refine AnyG_one (i := 13) (by kernel_rfl) rfl (fun KK hKK => ?_)
            (try simp only [sq])
            have hrW := Whole.below HRU.out b6 (by omega)
            have hf34 := ALRow.frees hrW 34
            have hc34 := hHeld.1
            obtain ⟨W7, hW⟩ : ∃ x, x = W6.setCell ⟨w.heap.size, 34, none⟩ (.slice A5 (L1.length + 1) c5) := ⟨_, rfl⟩
            have r1 := ALRow.set34 hrW (.slice A5 (L1.length + 1) c5)
            have r2 := (hS5.mono (Q' := fun g => p.heap.size ≤ g) fun g _ h => Nat.le_trans hp3 h).keep (w' := W7) (by rw [hW]; exact ((Below.refl 0 _).setCell (p := ⟨w.heap.size, 34, none⟩) (Nat.zero_le _) _).size) (fun g _ h => by rw [hW]; exact heap_setCell_other _ ⟨w.heap.size, 34, none⟩ g _ (by show g ≠ w.heap.size; omega))
            have r3 := (hV.mono (Q' := fun g => p.heap.size ≤ g) fun g _ h => Nat.le_trans hp3 h).keep (w' := W7) (fun g _ h => by rw [hW]; exact heap_setCell_other _ ⟨w.heap.size, 34, none⟩ g _ (by show g ≠ w.heap.size; omega))
            have r4 := Whole.far (Whole.below HT3.out b6 (by omega)) (a := ⟨w.heap.size, 34, none⟩) (by show w2.heap.size ≠ w.heap.size; omega) (.slice A5 (L1.length + 1) c5)
            have r5 := Whole.far (Whole.below (Whole.below H6.out HB3.out (by omega)) b6 (by omega)) (a := ⟨w.heap.size, 34, none⟩) (by show _ ≠ w.heap.size; omega) (.slice A5 (L1.length + 1) c5)
            have r6 := Whole.far (Whole.below (Whole.below H7.out HB3.out (by omega)) b6 (by omega)) (a := ⟨w.heap.size, 34, none⟩) (by show _ ≠ w.heap.size; omega) (.slice A5 (L1.length + 1) c5)
            have r7 := (HU3.out.trans (b6.mono (by omega))).setCell (p := ⟨w.heap.size, 34, none⟩) (Nat.le_refl _) (.slice A5 (L1.length + 1) c5)
            rw [← hW] at r1 r4 r5 r6 r7
            go_simp
            rw [← hW]
            clear hW
            refine hKK.out _ _ (.inl (by kernel_rfl)) trivial ?_
            clear hKK KK
            (try simp only [sq])
            refine AnyG_done (by kernel_rfl) ?_ _
            go_wp2_with fail
            go_meet
            exact ⟨A5, c5, D, dc, r1, r2, r3, r4, r5, r6, r7⟩
        · skip
          (try simp only [sq])
          obtain ⟨g5, hg⟩ : ∃ g, g = W0.heap.size := ⟨_, rfl⟩
          obtain ⟨W1, hW⟩ : ∃ x, x = W0.alloc (.cells #[] 5) := ⟨_, rfl⟩
          have b1 : Below u3.heap.size u3 W1 := by rw [hW]; exact b0.alloc b0.size _
          have oB1 : OwnBf W1 u3.heap.size (.slice (some ⟨g5, 0, none⟩) 0 0) [] := owns_empty (by rw [hW, hg]; exact heap_alloc_new _ _) (by rw [hg]; exact b0.size)
          go_simp
          rw [← hg, ← hW]
          clear hg hW
          clear hHeld
          have hHeld : (fun W : World => W.cell? ⟨w.heap.size, 34, none⟩ = some (.slice Am a.macs.length cm) ∧ W.rangeAt (w.heap.size + 1) 0 (K.map byt) ∧ W.rangeAt w2.heap.size 0 (E.map byt)) W1 := HCC.out _ b1
          refine hKK.out _ _ (.inr hHeld) trivial ?_
          clear hKK KK
          (try simp only [sq])
          refine AnyG_one (i := 0) (by kernel_rfl) rfl (fun KK hKK => ?_)
          (try simp only [sq])
          obtain ⟨g0, hg⟩ : ∃ g, g = W1.heap.size := ⟨_, rfl⟩
          obtain ⟨W2, hW⟩ : ∃ x, x = W1.alloc (.cells #[] 90) := ⟨_, rfl⟩
          have b2 : Below u3.heap.size u3 W2 := by rw [hW]; exact b1.alloc b1.size _
          have oM2 : OwnMc W2 u3.heap.size (.slice (some ⟨g0, 0, none⟩) 0 0) [] := owns_empty (by rw [hW, hg]; exact heap_alloc_new _ _) (by rw [hg]; exact b1.size)
          have oB2 := oB1.alloc (.cells #[] 90)
          rw [← hW] at oB2
          go_simp
          rw [← hg, ← hW]
          clear hg hW
          clear hHeld
          have hHeld : (fun W : World => W.cell? ⟨w.heap.size, 34, none⟩ = some (.slice Am a.macs.length cm) ∧ W.rangeAt (w.heap.size + 1) 0 (K.map byt) ∧ W.rangeAt w2.heap.size 0 (E.map byt)) W2 := HCC.out _ b2
          refine hKK.out _ _ (.inr hHeld) trivial ?_
          clear hKK KK
          (try simp only [sq])
          refine AnyG_one (i := 3) (by kernel_rfl) rfl (fun KK hKK => ?_)
          refine step_append_seq (by rfl) _ _ 29 90 zmac 88 (by rfl) Tryd.underlying29 macInfo zmac_size (by omega) (by omega) mcl_len mcl_one u3.heap.size _ [] (by rfl) oM2 Q Am a.macs.length cm L1 HL1L.out (by rfl) (HS1.out.below (HU3.out.trans (b2.mono (by omega))) (Nat.le_refl _)) (by have := HL1L.out; have := HLN.out; simp only [List.length_nil]; omega) b2.size ?_
          intro vM W3 oM0 hbn hgn
          have oM3 : OwnMc W3 u3.heap.size vM L1 := by rw [List.nil_append] at oM0; exact oM0
          have oB3 := oB2.kept hgn (own_ne oB2 oM2 u8_ne_mac)
          have b3 := b2.trans hbn
          clear hbn hgn
          clear hHeld
          have hHeld : (fun W : World => W.cell? ⟨w.heap.size, 34, none⟩ = some (.slice Am a.macs.length cm) ∧ W.rangeAt (w.heap.size + 1) 0 (K.map byt) ∧ W.rangeAt w2.heap.size 0 (E.map byt)) W3 := HCC.out _ b3
          refine hKK.out _ _ (.inr hHeld) trivial ?_
          clear hKK KK
          (try simp only [sq])
          refine AnyG_one (i := 7) (by kernel_rfl) rfl (fun KK hKK => ?_)
          refine step_append_seq (by rfl) _ _ 23 5 (.int .u8 0) 1 (by rfl) Tryd.underlying23 byteInfo byte_size (by omega) (by omega) bf_len bf_one u3.heap.size _ [] (by rfl) oB3 Q2 B m.length d m rfl (by rfl) (seq_bytes (HM.out.below (HU3.out.trans (b3.mono (by omega))) (Nat.le_refl _))) (by simp only [List.length_nil]; omega) b3.size ?_
          intro vB W4 oB0 hbn hgn
          have oB4 : OwnBf W4 u3.heap.size vB m := by rw [List.nil_append] at oB0; exact oB0
          have oM4 := oM3.kept hgn (own_ne oM3 oB3 mac_ne_u8)
          obtain ⟨D, dc, rfl, hsB⟩ := OwnS.seq (ok := fun _ => True) oB4 (fun _ _ => trivial)
          have b4 := b3.trans hbn
          clear hbn hgn hsB
          clear hHeld
          have hHeld : (fun W : World => W.cell? ⟨w.heap.size, 34, none⟩ = some (.slice Am a.macs.length cm) ∧ W.rangeAt (w.heap.size + 1) 0 (K.map byt) ∧ W.rangeAt w2.heap.size 0 (E.map byt)) W4 := HCC.out _ b4
          refine hKK.out _ _ (.inr hHeld) trivial ?_
          clear hKK KK
          (try simp only [sq])
          apply AnyG_pure (i := 9) rfl (by kernel_rfl) (by kernel_rfl) (by kernel_rfl) (by kernel_rfl)
          case hQ => exact fun _ _ _ h => h
          case hB => exact trivial
          case hC => exact .inr hHeld
          case hy => exact yieldsIf_build_mac (by rfl) _ _ _ rfl (e := ⟨K, m, E⟩) hK hEl rfl rfl rfl
          (try simp only [sq])
          refine AnyG_one (i := 10) (by kernel_rfl) rfl (fun KK hKK => ?_)
          have hXok : mok (⟨⟨K, m, E⟩, D, dc⟩ : MeM) := ⟨hK, hEl, by show m.length ≤ 5000; omega⟩
          obtain ⟨g10, hg⟩ : ∃ g, g = W4.heap.size := ⟨_, rfl⟩
          obtain ⟨W5, hW⟩ : ∃ x, x = W4.alloc (.cells (mcl (⟨⟨K, m, E⟩, D, dc⟩ : MeM)).toArray 90) := ⟨_, rfl⟩
          have b5 : Below u3.heap.size u3 W5 := by rw [hW]; exact b4.alloc b4.size _
          have hx1 : Whole W5 g10 90 (mcl (⟨⟨K, m, E⟩, D, dc⟩ : MeM)).toArray := by rw [hW, hg]; exact Whole.here _ _ _
          have oM5 := oM4.alloc (.cells (mcl (⟨⟨K, m, E⟩, D, dc⟩ : MeM)).toArray 90)
          rw [← hW] at oM5
          have oB5 := oB4.alloc (.cells (mcl (⟨⟨K, m, E⟩, D, dc⟩ : MeM)).toArray 90)
          rw [← hW] at oB5
          refine step_buildSlice_mac (by rfl) _ (by rfl) (X := (⟨⟨K, m, E⟩, D, dc⟩ : MeM)) (by rfl) ?_
          rw [← hg, ← hW]
          clear hg hW
          clear hHeld
          have hHeld : (fun W : World => W.cell? ⟨w.heap.size, 34, none⟩ = some (.slice Am a.macs.length cm) ∧ W.rangeAt (w.heap.size + 1) 0 (K.map byt) ∧ W.rangeAt w2.heap.size 0 (E.map byt)) W5 := HCC.out _ b5
          refine hKK.out _ _ (.inr hHeld) trivial ?_
          clear hKK KK
          (try simp only [sq])
          refine AnyG_one (i := 11) (by kernel_rfl) rfl (fun KK hKK => ?_)
          refine step_append_seq (by rfl) _ _ 29 90 zmac 88 (by rfl) Tryd.underlying29 macInfo zmac_size (by omega) (by omega) mcl_len mcl_one u3.heap.size _ L1 (by rfl) oM5 _ (some ⟨g10, 0, none⟩) 1 1 [(⟨⟨K, m, E⟩, D, dc⟩ : MeM)] rfl (by rfl) (seq_one hx1 rfl hXok) (by have := HL1L.out; have := HLN.out; simp only [List.length_singleton]; omega) b5.size ?_
          intro vN W6 oM6 hbn hgn
          have oB6 := oB5.kept hgn (own_ne oB5 oM5 u8_ne_mac)
          have b6 := b5.trans hbn
          obtain ⟨A5, c5, rfl, hS5⟩ := OwnS.seq (ok := mok) oM6 (fun x hx => by
            rcases List.mem_append.1 hx with h | h
            · exact HS1.out.2.2.2.1 x h
            · rw [List.mem_singleton.1 h]; exact hXok)
          obtain ⟨D2, dc2, he2, hsB⟩ := OwnS.seq (ok := fun _ => True) oB6 (fun _ _ => trivial)
          injection he2 with q1 q2 q3
          subst q1 q3
          have hV := bytes_seq hsB
          have hn5 : (L1 ++ [(⟨⟨K, m, E⟩, D, dc⟩ : MeM)]).length = L1.length + 1 := by simp
          rw [hn5]
          clear hbn hgn q2 hsB hn5
          clear hHeld
          have hHeld : (fun W : World => W.cell? ⟨w.heap.size, 34, none⟩ = some (.slice Am a.macs.length cm) ∧ W.rangeAt (w.heap.size + 1) 0 (K.map byt) ∧ W.rangeAt w2.heap.size 0 (E.map byt)) W6 := HCC.out _ b6
          refine hKK.out _ _ (.inr hHeld) trivial ?_
          clear hKK KK
          (try simp only [sq])
          apply AnyG_pure (i := 12) rfl (by kernel_rfl) (by kernel_rfl) (by kernel_rfl) (by kernel_rfl)
          case hQ => exact fun _ _ _ h => h
          case hB => exact trivial
          case hC => exact .inr hHeld
          case hy => (refine Or.inl ⟨by rfl, ?_⟩; intro w hSw; (try go_split_ands); go_simp; (try with_reducible rfl))
          (try simp only [sq])
          refine AnyG_one (i := 13) (by kernel_rfl) rfl (fun KK hKK => ?_)
          (try simp only [sq])
          have hrW := Whole.below HRU.out b6 (by omega)
          have hf34 := ALRow.frees hrW 34
          have hc34 := hHeld.1
          obtain ⟨W7, hW⟩ : ∃ x, x = W6.setCell ⟨w.heap.size, 34, none⟩ (.slice A5 (L1.length + 1) c5) := ⟨_, rfl⟩
          have r1 := ALRow.set34 hrW (.slice A5 (L1.length + 1) c5)
          have r2 := (hS5.mono (Q' := fun g => p.heap.size ≤ g) fun g _ h => Nat.le_trans hp3 h).keep (w' := W7) (by rw [hW]; exact ((Below.refl 0 _).setCell (p := ⟨w.heap.size, 34, none⟩) (Nat.zero_le _) _).size) (fun g _ h => by rw [hW]; exact heap_setCell_other _ ⟨w.heap.size, 34, none⟩ g _ (by show g ≠ w.heap.size; omega))
          have r3 := (hV.mono (Q' := fun g => p.heap.size ≤ g) fun g _ h => Nat.le_trans hp3 h).keep (w' := W7) (fun g _ h => by rw [hW]; exact heap_setCell_other _ ⟨w.heap.size, 34, none⟩ g _ (by show g ≠ w.heap.size; omega))
          have r4 := Whole.far (Whole.below HT3.out b6 (by omega)) (a := ⟨w.heap.size, 34, none⟩) (by show w2.heap.size ≠ w.heap.size; omega) (.slice A5 (L1.length + 1) c5)
          have r5 := Whole.far (Whole.below (Whole.below H6.out HB3.out (by omega)) b6 (by omega)) (a := ⟨w.heap.size, 34, none⟩) (by show _ ≠ w.heap.size; omega) (.slice A5 (L1.length + 1) c5)
          have r6 := Whole.far (Whole.below (Whole.below H7.out HB3.out (by omega)) b6 (by omega)) (a := ⟨w.heap.size, 34, none⟩) (by show _ ≠ w.heap.size; omega) (.slice A5 (L1.length + 1) c5)
          have r7 := (HU3.out.trans (b6.mono (by omega))).setCell (p := ⟨w.heap.size, 34, none⟩) (Nat.le_refl _) (.slice A5 (L1.length + 1) c5)
          rw [← hW] at r1 r4 r5 r6 r7
          go_simp
          rw [← hW]
          clear hW
          refine hKK.out _ _ (.inl (by kernel_rfl)) trivial ?_
          clear hKK KK
          (try simp only [sq])
          refine AnyG_done (by kernel_rfl) ?_ _
          go_wp2_with fail
          go_meet
          exact ⟨A5, c5, D, dc, r1, r2, r3, r4, r5, r6, r7⟩
      case rest =>
        obtain ⟨A5, c5, D, dc, hr, hS5, hV, ht, h6, h7, hbw⟩ := hcut
        rename World => wc
        have HS5 := Lib.hid hS5
        have HV := Lib.hid hV
        have hru : ALRow wc.drew w.heap.size a.free a.seed a.fresh (.slice A5 (L1.length + 1) c5) (.slice Ab a.boxes.length cb) := Whole.drew hr
        have h6u : Whole wc.drew (w.heap.size + 1 + 1) 32 zar := Whole.drew h6
        have h7u : Whole wc.drew (w.heap.size + 1 + 1 + 1) 28 ztr := Whole.drew h7
        have htu : TGRow wc.drew w2.heap.size E := Whole.drew ht
        have bbu : Below w.heap.size w wc.drew := hbw.drew
        have kp0 : ∀ b, p.heap.size ≤ b → wc.drew.heap[b]? = wc.heap[b]? := fun b _ => rfl
        have sz0 : wc.heap.size ≤ wc.drew.heap.size := Nat.le_refl _
        clear hS5 hV hr ht h6 h7 hbw
        go_upto_region 12 with fail
        refine wp_region_held_drew (S := fun W => W.rangeAt w.heap.size 0 (alcl a.free a.seed a.fresh (.slice A5 (L1.length + 1) c5) (.slice Ab a.boxes.length cb)) ∧ W.rangeAt w2.heap.size 0 ((E).map byt)) (by kernel_rfl) (⟨Whole.range hru, TGRow.range htu⟩) (fun hHeld => ?_)
        apply wpT (i := 0) rfl (by kernel_rfl)
        case hQ => exact fun _ _ _ h => h
        case hS => exact hHeld
        case hy => exact yieldsIf_load_mid (by rfl) 32 _ rfl w.heap.size (0) rfl (alcl a.free a.seed a.fresh (.slice A5 (L1.length + 1) c5) (.slice Ab a.boxes.length cb)) _ (fun w hS => hS.1) Tryd.underlying32 rfl (by rw [algSize, alcl_length])
        (try simp only [sq])
        apply wpT (i := 1) rfl (by kernel_rfl)
        case hQ => exact fun _ _ _ h => h
        case hS => exact hHeld
        case hy => exact yieldsIf_load_mid (by rfl) 28 _ rfl w2.heap.size (0) rfl ((E).map byt) _ (fun w hS => hS.2) Tryd.underlying28 rfl (by rw [tagSize, tag_len (hEl)])
        (try simp only [sq])
        refine wpAnyH_ready (rs := [2]) (by kernel_rfl) (by simp) ?_
        refine AllReadyH.cons rfl (fun KK hKK => ?_) AllReadyH.nil
        (try simp only [sq])
        obtain ⟨X1, hX1⟩ : ∃ x, x = wc.drew.setRow (w.heap.size + 1 + 1) ((alcl a.free a.seed a.fresh (.slice A5 (L1.length + 1) c5) (.slice Ab a.boxes.length cb)).toArray) := ⟨_, rfl⟩
        have hsX1 : ALRow X1 w.heap.size a.free a.seed a.fresh (.slice A5 (L1.length + 1) c5) (.slice Ab a.boxes.length cb) := by rw [hX1]; exact Whole.setRow_far hru (by omega) _
        have e1 : Whole X1 (w.heap.size + 1 + 1) 32 (alc a.free a.seed a.fresh (.slice A5 (L1.length + 1) c5) (.slice Ab a.boxes.length cb)) := by rw [hX1]; exact Whole.setRow h6u _
        have h7X1 : Whole X1 (w.heap.size + 1 + 1 + 1) 28 ztr := by rw [hX1]; exact Whole.setRow_far h7u (by omega) _
        have bbX1 : Below w.heap.size w X1 := by rw [hX1]; exact below_setRow bbu (by omega) _
        have htX1 : TGRow X1 w2.heap.size (E) := by rw [hX1]; exact Whole.setRow_far htu (by omega) _
        have kpX1 : ∀ b, p.heap.size ≤ b → X1.heap[b]? = wc.heap[b]? := by rw [hX1]; exact fun b hb => (setRow_other _ _ b _ (by omega)).trans (kp0 b hb)
        have szX1 : wc.heap.size ≤ X1.heap.size := by rw [hX1]; exact Nat.le_trans sz0 (below_setRow (B := 0) (Below.refl 0 _) (Nat.zero_le _) _).size
        rw [if_pos (by kernel_rfl)]
        refine wp_store_row 32 _ _ rfl (w.heap.size + 1 + 1) _ rfl rfl 32 _ h6u (by rw [algSize, List.size_toArray, alcl_length]) (by rw [zar_size, List.size_toArray, alcl_length]) (alc_one _ _ _ _ _ _ _ _ _) ?_
        rw [← hX1]
        clear hX1
        refine hKK.out _ _ (⟨Whole.range hsX1, TGRow.range htX1⟩) (fun hHeld => ?_)
        clear hKK KK
        (try simp only [sq])
        refine wpAnyH_ready (rs := [3]) (by kernel_rfl) (by simp) ?_
        refine AllReadyH.cons rfl (fun KK hKK => ?_) AllReadyH.nil
        (try simp only [sq])
        have e1o := e1
        clear e1
        obtain ⟨X2, hX2⟩ : ∃ x, x = X1.setRow (w.heap.size + 1 + 1 + 1) (((E).map byt).toArray) := ⟨_, rfl⟩
        have hsX2 : ALRow X2 w.heap.size a.free a.seed a.fresh (.slice A5 (L1.length + 1) c5) (.slice Ab a.boxes.length cb) := by rw [hX2]; exact Whole.setRow_far hsX1 (by omega) _
        have e1 : Whole X2 (w.heap.size + 1 + 1) 32 (alc a.free a.seed a.fresh (.slice A5 (L1.length + 1) c5) (.slice Ab a.boxes.length cb)) := by rw [hX2]; exact Whole.setRow_far e1o (by omega) _
        have e2 : TGRow X2 (w.heap.size + 1 + 1 + 1) (E) := by rw [hX2]; exact Whole.setRow h7X1 _
        have bbX2 : Below w.heap.size w X2 := by rw [hX2]; exact below_setRow bbX1 (by omega) _
        have htX2 : TGRow X2 w2.heap.size (E) := by rw [hX2]; exact Whole.setRow_far htX1 (by omega) _
        have kpX2 : ∀ b, p.heap.size ≤ b → X2.heap[b]? = wc.heap[b]? := by rw [hX2]; exact fun b hb => (setRow_other _ _ b _ (by omega)).trans (kpX1 b hb)
        have szX2 : wc.heap.size ≤ X2.heap.size := by rw [hX2]; exact Nat.le_trans szX1 (below_setRow (B := 0) (Below.refl 0 _) (Nat.zero_le _) _).size
        rw [if_pos (by kernel_rfl)]
        refine wp_store_row 28 _ _ rfl (w.heap.size + 1 + 1 + 1) _ rfl rfl 28 _ h7X1 (by rw [tagSize, tag_size (hEl)]) (by rw [ztr_size, tag_size (hEl)]) (tag_one _) ?_
        rw [← hX2]
        clear hX2
        refine hKK.out _ _ (⟨Whole.range hsX2, TGRow.range htX2⟩) (fun hHeld => ?_)
        clear hKK KK
        (try simp only [sq])
        apply wpT (i := 4) rfl (by kernel_rfl)
        case hQ => exact fun _ _ _ h => h
        case hS => exact hHeld
        case hy => (refine Or.inl ⟨by rfl, ?_⟩; intro w hSw; (try go_split_ands); go_simp; (try with_reducible rfl))
        (try simp only [sq])
        refine wpAnyH_done (by kernel_rfl) ?_ _
        go_wp2_with fail
        have hbf := bbX2
        refine bodyPost_ret (results_alg3 Tryd.results14 _ rfl rfl _ rfl (alc_size _ _ _ _ _) (tag_size (hEl)) e1 e2) rfl ?_
        show AlgR _ _ _ R ∧ _
        rw [HRR.out, ← HE.out]
        refine ⟨⟨_, rfl, ?_⟩, hbf⟩
        have h := alv_more (a := a) (X := (⟨⟨K, m, E⟩, D, dc⟩ : MeM)) HL1.out (fun x hx => ((HB1.out x hx).below hbf (Nat.le_refl _)).mono fun _ _ h => .inl h) ((HS5.out.keep szX2 fun g _ hq => kpX2 g hq).mono fun g _ h => (by omega : w.heap.size ≤ g)) ((HV.out.keep fun g _ hq => kpX2 g hq).mono fun g _ h => (by omega : w.heap.size ≤ g)) (HBX.out.below hbf (Nat.le_refl _)) HA.out HLN.out
        rw [show (L1 ++ [(⟨⟨K, m, E⟩, D, dc⟩ : MeM)]).length = L1.length + 1 by simp] at h
        exact h
end Go.Proofs.YtiikhjifjdpgdaaDoor
namespace Go.Proofs.YtiikhjifjdpgdaaDoor
open Go Go.RowKit Sh Leaf
namespace Sh

def strw : List B8 := [115#8, 116#8, 114#8, 101#8, 97#8, 109#8]
/-- Byte i of the key stream. -/
def kstr (K : List B8) (n i : Nat) : B8 := (hmac K (strw ++ (be8 n ++ be8 (i / 32)))).getD (i % 32) 0
def strm (K : List B8) (n : Nat) (b : List B8) : List B8 := b.mapIdx fun i x => x ^^^ kstr K n i
/-- The first j bytes are done. -/
def stj (K : List B8) (n : Nat) (b : List B8) (j : Nat) : List B8 := b.mapIdx fun i x => if i < j then x ^^^ kstr K n i else x
theorem strm_length (K : List B8) (n : Nat) (b : List B8) : (strm K n b).length = b.length := by unfold strm; simp
theorem stj_length (K : List B8) (n : Nat) (b : List B8) (j : Nat) : (stj K n b j).length = b.length := by unfold stj; simp
theorem stj_zero (K : List B8) (n : Nat) (b : List B8) : stj K n b 0 = b := by
  unfold stj
  refine List.ext_getElem? fun i => ?_
  rw [List.getElem?_mapIdx]
  cases b[i]? <;> simp
theorem stj_all (K : List B8) (n : Nat) (b : List B8) : stj K n b b.length = strm K n b := by
  unfold stj strm
  refine List.ext_getElem? fun i => ?_
  rw [List.getElem?_mapIdx, List.getElem?_mapIdx]
  cases h : b[i]? with
  | none => rfl
  | some x => have := (List.getElem?_eq_some_iff.1 h).1; simp [this]
theorem stj_get (K : List B8) (n : Nat) (b : List B8) (j : Nat) : (stj K n b j).getD j 0 = b.getD j 0 := by
  unfold stj
  rw [List.getD_eq_getElem?_getD, List.getD_eq_getElem?_getD, List.getElem?_mapIdx]
  cases b[j]? <;> simp
theorem stj_set (K : List B8) (n : Nat) (b : List B8) (j : Nat) (hj : j < b.length) : (stj K n b j).set j (b.getD j 0 ^^^ kstr K n j) = stj K n b (j + 1) := by
  refine List.ext_getElem? fun i => ?_
  rw [List.getElem?_set, stj_length]
  unfold stj
  rw [List.getElem?_mapIdx, List.getElem?_mapIdx]
  by_cases e : j = i
  · subst e
    rw [if_pos rfl, if_pos hj, List.getElem?_eq_getElem hj]
    simp [hj]
  · rw [if_neg e]
    cases b[i]? with
    | none => rfl
    | some x => simp only [Option.map_some]; congr 1; by_cases q : i < j
                · rw [if_pos q, if_pos (by omega)]
                · rw [if_neg q, if_neg (by omega)]
end Sh
theorem own_bf {w : World} {base : Nat} {v : Value} {l : List B8} (h : Own w base v l) : OwnBf w base v l := by
  show w.ownsRow base 5 1 v l.length (fl bf l)
  rw [fl_bf]; exact h
theorem bf_own {w : World} {base : Nat} {v : Value} {l : List B8} (h : OwnBf w base v l) : Own w base v l := by
  have h' : w.ownsRow base 5 1 v l.length (fl bf l) := h
  rw [fl_bf] at h'; exact h'
theorem tag_ne_u8 : 28 ≠ 5 := by decide
theorem own_off {w w' : World} {base g : Nat} {v : Value} {l : List B8} {cs : Array Value} (h : OwnBf w base v l) (hz : Whole w g 28 cs) (hg : w.grownBy w' v.ownBlock) : Whole w' g 28 cs := by
  refine (hg.block g hz.lt fun e => ?_).trans hz
  rcases h.2 with ⟨rfl, _⟩ | ⟨g', cap', cur', rfl, hg', hh', _⟩
  · cases e
  · have e : some g = some g' := e
    injection e with e
    subst e
    have hz' := hz.eq
    rw [hz'] at hh'
    injection hh' with hh'
    injection hh' with _ ht
    exact tag_ne_u8 ht
theorem sbytes_strw : sbytes { data := #[115, 116, 114, 101, 97, 109] } = strw := by with_unfolding_all rfl
set_option linter.unusedSimpArgs false in
set_option linter.unusedVariables false in
set_option maxRecDepth 100000 in
set_option maxHeartbeats 4000000 in
theorem rstream {w : World} {Q : Nat → Prop} {B : Option Addr} {d : Nat} {K b : List B8} (n : Nat) (hn : n < 18446744073709551616) (hK : K.length = 32) (hv : Bytes w Q (.slice B b.length d) b) (hbl : b.length ≤ 5000) :
    Calls Tryd.prog 65 #[.agg (K.map byt).toArray, .int .u64 (n : Int), .slice B b.length d] w fun e w' => ∃ v', e = .returned v' ∧ Own w' w.heap.size v' (strm K n b) ∧ Below w.heap.size w w' := by
  obtain ⟨p, hp⟩ : ∃ p, p = w.alloc (.cells (K.map byt).toArray 28) := ⟨_, rfl⟩
  have hk : TGRow p w.heap.size K := by rw [hp]; exact Whole.here _ _ _
  have hb : Below w.heap.size w p := by rw [hp]; exact (Below.refl _ _).alloc (Nat.le_refl _) _
  have hps : w.heap.size < p.heap.size := hk.lt
  have hvp := hv.below hb (Nat.le_refl _)
  have HB := Lib.hid hb
  have HK := Lib.hid hk
  clear hv hb hk
  go_enter Tryd.func65, Tryd.ntmps65
  go_upto_region 1 with fail
  rw [← hp]
  clear hp
  go_wp2_with (at_builtin; go_must (refine wpList_append_bytes rfl _ _ rfl p.heap.size (.slice (some ⟨p.heap.size, 0, none⟩) 0 0) [] rfl (own_lit p p.heap.size [] (Nat.le_refl _) (by simp)) _ _ b rfl (hvp.alloc _) (by simp; omega) (by simp) ?_; intro v1 w1 hown hb1; rw [List.nil_append] at hown))
  have hb1' : Below p.heap.size p w1 := ((Below.refl _ _).alloc (Nat.le_refl _) _).trans hb1
  clear hb1 hvp
  obtain ⟨A1, c1, rfl, -⟩ := id (Bytes.of_own hown)
  go_loopw [8] (fun v wr => ∃ j : Nat, v = .int .i64 j ∧ j ≤ b.length ∧ Own wr p.heap.size (.slice A1 b.length c1) (stj K n b j) ∧ Below p.heap.size p wr) (fun v _ => b.length - (intOf v).toNat)
  case atStart => exact ⟨0, rfl, by omega, by rw [stj_zero]; exact hown, hb1'⟩
  case round =>
    clear hown hb1'
    obtain ⟨j, rfl, hj, hown, hbw⟩ := hrel
    have HO := Lib.hid hown
    have HBW := Lib.hid hbw
    clear hown hbw
    by_cases hlt : j < b.length
    case neg =>
      obtain rfl : j = b.length := by omega
      have HX : Hid (Own wr w.heap.size (.slice A1 b.length c1) (strm K n b)) := Lib.hid (by have := HO.out; rw [stj_all] at this; exact own_mono this (by omega))
      have HB2 : Hid (Below w.heap.size w wr) := Lib.hid (HB.out.trans (HBW.out.mono (by omega)))
      go_wp2_with fail
      go_ret
      exact ⟨_, rfl, HX.out, HB2.out⟩
    go_upto_region 5 with fail
    have hst := fun g W => run_sliceAt_whole (P := Tryd.prog) (t := 28) (e := 5) (n := 32) Tryd.underlying28 (by kernel_rfl) g W
    obtain ⟨q, hq⟩ : ∃ q, q = j / 32 := ⟨_, rfl⟩
    have e1 : (j : Int).tdiv 32 = (q : Int) := by rw [Int.tdiv_eq_ediv_of_nonneg (by omega), hq]; omega
    have hq1 : q ≤ 5000 := by omega
    have e2 : IntKind.u64.wrap (q : Int) = (q : Int) := by rw [IntKind.wrap_u64]; omega
    have e3 : IntKind.i64.wrap (q : Int) = (q : Int) := by rw [IntKind.wrap_i64]; omega
    obtain ⟨H, hH⟩ : ∃ H, H = hmac K (strw ++ (be8 n ++ be8 q)) := ⟨_, rfl⟩
    have hHl : H.length = 32 := by rw [hH]; exact hmac_length _ _
    have HH := Lib.hid hH
    have HQ := Lib.hid hq
    have hlen8 : ∀ z, (be8 z).length = 8 := fun z => be8_length z
    clear hq hH
    have bU : Below wr.heap.size wr wr.drew := (Below.refl _ _).drew
    go_cut [9] (fun s wx => ∃ g, s = .pointer (some ⟨g, 0, none⟩) ∧ TGRow wx g H ∧ wr.heap.size ≤ g ∧ Below wr.heap.size wr wx)
    case first =>
      refine wp_region_held_drew (S := fun _ : World => True) (by kernel_rfl) (trivial) (fun hHeld => ?_)
      generalize wr.drew = W0 at bU ⊢
      apply wpT (i := 0) rfl (by kernel_rfl)
      case hQ => exact fun _ _ _ h => h
      case hS => exact hHeld
      case hy => (refine Or.inl ⟨by rfl, ?_⟩; intro w hSw; (try go_split_ands); go_simp; (try with_reducible rfl))
      (try simp only [sq])
      apply wpT (i := 1) rfl (by kernel_rfl)
      case hQ => exact fun _ _ _ h => h
      case hS => exact hHeld
      case hy => (refine Or.inl ⟨by rfl, ?_⟩; intro w hSw; (try go_split_ands); go_simp; (try with_reducible rfl))
      (try simp only [sq])
      apply wpT (i := 3) rfl (by kernel_rfl)
      case hQ => exact fun _ _ _ h => h
      case hS => exact hHeld
      case hy => (refine Or.inl ⟨by rfl, ?_⟩; intro w hSw; (try go_split_ands); go_simp; (try with_reducible rfl))
      (try simp only [sq])
      apply wpT (i := 4) rfl (by kernel_rfl)
      case hQ => exact fun _ _ _ h => h
      case hS => exact hHeld
      case hy => (refine Or.inl ⟨by rfl, ?_⟩; intro w hSw; (try go_split_ands); go_simp; (try with_reducible rfl))
      (try simp only [sq])
      apply wpT (i := 5) rfl (by kernel_rfl)
      case hQ => exact fun _ _ _ h => h
      case hS => exact hHeld
      case hy => (refine Or.inl ⟨by rfl, ?_⟩; intro w hSw; (try go_split_ands); go_simp; (try with_reducible rfl))
      (try simp only [sq])
      refine wpAnyH_ready (rs := [2, 10]) (by kernel_rfl) (by simp) ?_
      refine AllReadyH.cons rfl (fun KK hKK => ?_) (AllReadyH.cons rfl (fun KK hKK => ?_) AllReadyH.nil)
      · (try simp only [sq])
        go_simp
        go_at_call 64
        refine (eight n W0).mono ?_
        rintro e W1 ⟨vA, rfl, ho1, hs1⟩
        have b1 : Below wr.heap.size wr W1 := bU.trans (hs1.mono bU.size)
        have oA1 : Own W1 wr.heap.size vA (be8 n) := own_mono ho1 bU.size
        refine hKK.out _ _ (trivial) (fun hHeld => ?_)
        clear hKK KK
        (try simp only [sq])
        refine wpAnyH_ready (rs := [6, 10]) (by kernel_rfl) (by simp) ?_
        refine AllReadyH.cons rfl (fun KK hKK => ?_) (AllReadyH.cons rfl (fun KK hKK => ?_) AllReadyH.nil)
        · (try simp only [sq])
          go_simp
          go_at_call 64
          refine (eight q W1).mono ?_
          rintro e W2 ⟨vB, rfl, ho2, hs2⟩
          have b2 : Below wr.heap.size wr W2 := b1.trans (hs2.mono b1.size)
          have oA2 := own_below oA1 hs2 (Nat.le_refl _)
          have oB2 : Own W2 wr.heap.size vB (be8 q) := own_mono ho2 b1.size
          obtain ⟨AB, cB, rfl, -⟩ := id (Bytes.of_own oB2)
          refine hKK.out _ _ (trivial) (fun hHeld => ?_)
          clear hKK KK
          (try simp only [sq])
          refine wpAnyH_ready (rs := [7, 10]) (by kernel_rfl) (by simp) ?_
          refine AllReadyH.cons rfl (fun KK hKK => ?_) (AllReadyH.cons rfl (fun KK hKK => ?_) AllReadyH.nil)
          · skip
            refine step_append_seq (by rfl) _ _ 23 5 (.int .u8 0) 1 (by rfl) Tryd.underlying23 byteInfo byte_size (by omega) (by omega) bf_len bf_one wr.heap.size _ (be8 n) (by rfl) (own_bf oA2) _ AB (be8 q).length cB (be8 q) rfl (by rfl) (seq_bytes (Bytes.of_own oB2)) (by rw [hlen8, hlen8]; omega) b2.size ?_
            intro vC W3 oC0 hs3 hgn3
            have oC3 : Own W3 wr.heap.size vC (be8 n ++ be8 q) := bf_own oC0
            have b3 : Below wr.heap.size wr W3 := b2.trans hs3
            refine hKK.out _ _ (trivial) (fun hHeld => ?_)
            clear hKK KK
            (try simp only [sq])
            refine wpAnyH_ready (rs := [8, 10]) (by kernel_rfl) (by simp) ?_
            refine AllReadyH.cons rfl (fun KK hKK => ?_) (AllReadyH.cons rfl (fun KK hKK => ?_) AllReadyH.nil)
            · (try simp only [sq])
              go_simp
              go_at_call 66
              refine (rword { data := #[115, 116, 114, 101, 97, 109] } (by decide) vC (be8 n ++ be8 q) _ W3 (Bytes.of_own oC3) (by rw [List.length_append, hlen8]; omega) (by rw [List.length_append, hlen8, hlen8]; omega)).mono ?_
              rintro e W4 ⟨vM, rfl, oM0, hs4⟩
              have b4 : Below wr.heap.size wr W4 := b3.trans (hs4.mono b3.size)
              rw [sbytes_strw] at oM0
              have oM4 := oM0
              refine hKK.out _ _ (trivial) (fun hHeld => ?_)
              clear hKK KK
              (try simp only [sq])
              refine wpAnyH_ready (rs := [9, 10]) (by kernel_rfl) (by simp) ?_
              refine AllReadyH.cons rfl (fun KK hKK => ?_) (AllReadyH.cons rfl (fun KK hKK => ?_) AllReadyH.nil)
              · (try simp only [sq])
                have hby := Whole.bytes (Whole.below HK.out (HBW.out.trans (b4.mono HBW.out.size)) (by omega)) (by omega)
                rw [hK] at hby
                go_simp
                go_at_call 44
                refine (ref_hmac _ _ K (strw ++ (be8 n ++ be8 q)) _ _ W4 hby oM4.bytes (by omega) (by rw [List.length_append, List.length_append, hlen8, hlen8]; simp [strw])).mono ?_
                rintro e W5 ⟨rfl, hs5⟩
                rw [← HH.out]
                have b5 : Below wr.heap.size wr W5 := b4.trans (hs5.mono b4.size)
                refine hKK.out _ _ (trivial) (fun hHeld => ?_)
                clear hKK KK
                (try simp only [sq])
                refine wpAnyH_ready (rs := [10]) (by kernel_rfl) (by simp) ?_
                refine AllReadyH.cons rfl (fun KK hKK => ?_) AllReadyH.nil
                (try simp only [sq])
                obtain ⟨G, hG⟩ : ∃ g, g = W5.heap.size := ⟨_, rfl⟩
                obtain ⟨W6, hW6⟩ : ∃ x, x = W5.alloc (.cells ztr 28) := ⟨_, rfl⟩
                have hs6 : Below W5.heap.size W5 W6 := by rw [hW6]; exact (Below.refl _ _).alloc (Nat.le_refl _) _
                have zz6 : Whole W6 G 28 ztr := by rw [hW6, hG]; exact Whole.here _ _ _
                have hgl : wr.heap.size ≤ G := by rw [hG]; exact b5.size
                have b6 : Below wr.heap.size wr W6 := b5.trans (hs6.mono b5.size)
                have z6 := zz6
                go_simp
                rw [ztr_lit, ← hG, ← hW6]
                clear hW6 hG
                refine hKK.out _ _ (trivial) (fun hHeld => ?_)
                clear hKK KK
                (try simp only [sq])
                refine wpAnyH_ready (rs := [11]) (by kernel_rfl) (by simp) ?_
                refine AllReadyH.cons rfl (fun KK hKK => ?_) AllReadyH.nil
                (try simp only [sq])
                obtain ⟨W7, hW7⟩ : ∃ x, x = W6.setRow G (H.map byt).toArray := ⟨_, rfl⟩
                have t7 : TGRow W7 G H := by rw [hW7]; exact Whole.setRow z6 _
                have b7 : Below wr.heap.size wr W7 := by rw [hW7]; exact below_setRow b6 hgl _
                rw [if_pos (by kernel_rfl)]
                refine wp_store_row 28 _ _ rfl G _ rfl rfl 28 _ z6 (by rw [tagSize, tag_size hHl]) (by rw [ztr_size, tag_size hHl]) (tag_one _) ?_
                rw [← hW7]
                clear hW7
                refine hKK.out _ _ (trivial) (fun hHeld => ?_)
                clear hKK KK
                (try simp only [sq])
                refine wpAnyH_done (by kernel_rfl) ?_ _
                go_wp2_with fail
                go_meet
                exact ⟨G, rfl, t7, hgl, b7⟩
              · (try simp only [sq])
                obtain ⟨G, hG⟩ : ∃ g, g = W4.heap.size := ⟨_, rfl⟩
                obtain ⟨W5, hW5⟩ : ∃ x, x = W4.alloc (.cells ztr 28) := ⟨_, rfl⟩
                have hs5 : Below W4.heap.size W4 W5 := by rw [hW5]; exact (Below.refl _ _).alloc (Nat.le_refl _) _
                have zz5 : Whole W5 G 28 ztr := by rw [hW5, hG]; exact Whole.here _ _ _
                have hgl : wr.heap.size ≤ G := by rw [hG]; exact b4.size
                have b5 : Below wr.heap.size wr W5 := b4.trans (hs5.mono b4.size)
                have oM5 := OwnM.below oM4 hs5 (Nat.le_refl _)
                have z5 := zz5
                go_simp
                rw [ztr_lit, ← hG, ← hW5]
                clear hW5 hG
                refine hKK.out _ _ (trivial) (fun hHeld => ?_)
                clear hKK KK
                (try simp only [sq])
                refine wpAnyH_ready (rs := [9]) (by kernel_rfl) (by simp) ?_
                refine AllReadyH.cons rfl (fun KK hKK => ?_) AllReadyH.nil
                (try simp only [sq])
                have hby := Whole.bytes (Whole.below HK.out (HBW.out.trans (b5.mono HBW.out.size)) (by omega)) (by omega)
                rw [hK] at hby
                go_simp
                go_at_call 44
                refine (ref_hmac _ _ K (strw ++ (be8 n ++ be8 q)) _ _ W5 hby oM5.bytes (by omega) (by rw [List.length_append, List.length_append, hlen8, hlen8]; simp [strw])).mono ?_
                rintro e W6 ⟨rfl, hs6⟩
                rw [← HH.out]
                have b6 : Below wr.heap.size wr W6 := b5.trans (hs6.mono b5.size)
                have z6 : Whole W6 G 28 ztr := Whole.below z5 hs6 z5.lt
                refine hKK.out _ _ (trivial) (fun hHeld => ?_)
                clear hKK KK
                (try simp only [sq])
                refine wpAnyH_ready (rs := [11]) (by kernel_rfl) (by simp) ?_
                refine AllReadyH.cons rfl (fun KK hKK => ?_) AllReadyH.nil
                (try simp only [sq])
                obtain ⟨W7, hW7⟩ : ∃ x, x = W6.setRow G (H.map byt).toArray := ⟨_, rfl⟩
                have t7 : TGRow W7 G H := by rw [hW7]; exact Whole.setRow z6 _
                have b7 : Below wr.heap.size wr W7 := by rw [hW7]; exact below_setRow b6 hgl _
                rw [if_pos (by kernel_rfl)]
                refine wp_store_row 28 _ _ rfl G _ rfl rfl 28 _ z6 (by rw [tagSize, tag_size hHl]) (by rw [ztr_size, tag_size hHl]) (tag_one _) ?_
                rw [← hW7]
                clear hW7
                refine hKK.out _ _ (trivial) (fun hHeld => ?_)
                clear hKK KK
                (try simp only [sq])
                refine wpAnyH_done (by kernel_rfl) ?_ _
                go_wp2_with fail
                go_meet
                exact ⟨G, rfl, t7, hgl, b7⟩
            · (try simp only [sq])
              obtain ⟨G, hG⟩ : ∃ g, g = W3.heap.size := ⟨_, rfl⟩
              obtain ⟨W4, hW4⟩ : ∃ x, x = W3.alloc (.cells ztr 28) := ⟨_, rfl⟩
              have hs4 : Below W3.heap.size W3 W4 := by rw [hW4]; exact (Below.refl _ _).alloc (Nat.le_refl _) _
              have zz4 : Whole W4 G 28 ztr := by rw [hW4, hG]; exact Whole.here _ _ _
              have hgl : wr.heap.size ≤ G := by rw [hG]; exact b3.size
              have b4 : Below wr.heap.size wr W4 := b3.trans (hs4.mono b3.size)
              have oC4 := own_below oC3 hs4 (Nat.le_refl _)
              have z4 := zz4
              go_simp
              rw [ztr_lit, ← hG, ← hW4]
              clear hW4 hG
              refine hKK.out _ _ (trivial) (fun hHeld => ?_)
              clear hKK KK
              (try simp only [sq])
              refine wpAnyH_ready (rs := [8]) (by kernel_rfl) (by simp) ?_
              refine AllReadyH.cons rfl (fun KK hKK => ?_) AllReadyH.nil
              (try simp only [sq])
              go_simp
              go_at_call 66
              refine (rword { data := #[115, 116, 114, 101, 97, 109] } (by decide) vC (be8 n ++ be8 q) _ W4 (Bytes.of_own oC4) (by rw [List.length_append, hlen8]; omega) (by rw [List.length_append, hlen8, hlen8]; omega)).mono ?_
              rintro e W5 ⟨vM, rfl, oM0, hs5⟩
              have b5 : Below wr.heap.size wr W5 := b4.trans (hs5.mono b4.size)
              have z5 : Whole W5 G 28 ztr := Whole.below z4 hs5 z4.lt
              rw [sbytes_strw] at oM0
              have oM5 := oM0
              refine hKK.out _ _ (trivial) (fun hHeld => ?_)
              clear hKK KK
              (try simp only [sq])
              refine wpAnyH_ready (rs := [9]) (by kernel_rfl) (by simp) ?_
              refine AllReadyH.cons rfl (fun KK hKK => ?_) AllReadyH.nil
              (try simp only [sq])
              have hby := Whole.bytes (Whole.below HK.out (HBW.out.trans (b5.mono HBW.out.size)) (by omega)) (by omega)
              rw [hK] at hby
              go_simp
              go_at_call 44
              refine (ref_hmac _ _ K (strw ++ (be8 n ++ be8 q)) _ _ W5 hby oM5.bytes (by omega) (by rw [List.length_append, List.length_append, hlen8, hlen8]; simp [strw])).mono ?_
              rintro e W6 ⟨rfl, hs6⟩
              rw [← HH.out]
              have b6 : Below wr.heap.size wr W6 := b5.trans (hs6.mono b5.size)
              have z6 : Whole W6 G 28 ztr := Whole.below z5 hs6 z5.lt
              refine hKK.out _ _ (trivial) (fun hHeld => ?_)
              clear hKK KK
              (try simp only [sq])
              refine wpAnyH_ready (rs := [11]) (by kernel_rfl) (by simp) ?_
              refine AllReadyH.cons rfl (fun KK hKK => ?_) AllReadyH.nil
              (try simp only [sq])
              obtain ⟨W7, hW7⟩ : ∃ x, x = W6.setRow G (H.map byt).toArray := ⟨_, rfl⟩
              have t7 : TGRow W7 G H := by rw [hW7]; exact Whole.setRow z6 _
              have b7 : Below wr.heap.size wr W7 := by rw [hW7]; exact below_setRow b6 hgl _
              rw [if_pos (by kernel_rfl)]
              refine wp_store_row 28 _ _ rfl G _ rfl rfl 28 _ z6 (by rw [tagSize, tag_size hHl]) (by rw [ztr_size, tag_size hHl]) (tag_one _) ?_
              rw [← hW7]
              clear hW7
              refine hKK.out _ _ (trivial) (fun hHeld => ?_)
              clear hKK KK
              (try simp only [sq])
              refine wpAnyH_done (by kernel_rfl) ?_ _
              go_wp2_with fail
              go_meet
              exact ⟨G, rfl, t7, hgl, b7⟩
          · (try simp only [sq])
            obtain ⟨G, hG⟩ : ∃ g, g = W2.heap.size := ⟨_, rfl⟩
            obtain ⟨W3, hW3⟩ : ∃ x, x = W2.alloc (.cells ztr 28) := ⟨_, rfl⟩
            have hs3 : Below W2.heap.size W2 W3 := by rw [hW3]; exact (Below.refl _ _).alloc (Nat.le_refl _) _
            have zz3 : Whole W3 G 28 ztr := by rw [hW3, hG]; exact Whole.here _ _ _
            have hgl : wr.heap.size ≤ G := by rw [hG]; exact b2.size
            have b3 : Below wr.heap.size wr W3 := b2.trans (hs3.mono b2.size)
            have oA3 := own_below oA2 hs3 (Nat.le_refl _)
            have oB3 := own_below oB2 hs3 (Nat.le_refl _)
            have z3 := zz3
            go_simp
            rw [ztr_lit, ← hG, ← hW3]
            clear hW3 hG
            refine hKK.out _ _ (trivial) (fun hHeld => ?_)
            clear hKK KK
            (try simp only [sq])
            refine wpAnyH_ready (rs := [7]) (by kernel_rfl) (by simp) ?_
            refine AllReadyH.cons rfl (fun KK hKK => ?_) AllReadyH.nil
            refine step_append_seq (by rfl) _ _ 23 5 (.int .u8 0) 1 (by rfl) Tryd.underlying23 byteInfo byte_size (by omega) (by omega) bf_len bf_one wr.heap.size _ (be8 n) (by rfl) (own_bf oA3) _ AB (be8 q).length cB (be8 q) rfl (by rfl) (seq_bytes (Bytes.of_own oB3)) (by rw [hlen8, hlen8]; omega) b3.size ?_
            intro vC W4 oC0 hs4 hgn4
            have oC4 : Own W4 wr.heap.size vC (be8 n ++ be8 q) := bf_own oC0
            have b4 : Below wr.heap.size wr W4 := b3.trans hs4
            have z4 := own_off (own_bf oA3) z3 hgn4
            refine hKK.out _ _ (trivial) (fun hHeld => ?_)
            clear hKK KK
            (try simp only [sq])
            refine wpAnyH_ready (rs := [8]) (by kernel_rfl) (by simp) ?_
            refine AllReadyH.cons rfl (fun KK hKK => ?_) AllReadyH.nil
            (try simp only [sq])
            go_simp
            go_at_call 66
            refine (rword { data := #[115, 116, 114, 101, 97, 109] } (by decide) vC (be8 n ++ be8 q) _ W4 (Bytes.of_own oC4) (by rw [List.length_append, hlen8]; omega) (by rw [List.length_append, hlen8, hlen8]; omega)).mono ?_
            rintro e W5 ⟨vM, rfl, oM0, hs5⟩
            have b5 : Below wr.heap.size wr W5 := b4.trans (hs5.mono b4.size)
            have z5 : Whole W5 G 28 ztr := Whole.below z4 hs5 z4.lt
            rw [sbytes_strw] at oM0
            have oM5 := oM0
            refine hKK.out _ _ (trivial) (fun hHeld => ?_)
            clear hKK KK
            (try simp only [sq])
            refine wpAnyH_ready (rs := [9]) (by kernel_rfl) (by simp) ?_
            refine AllReadyH.cons rfl (fun KK hKK => ?_) AllReadyH.nil
            (try simp only [sq])
            have hby := Whole.bytes (Whole.below HK.out (HBW.out.trans (b5.mono HBW.out.size)) (by omega)) (by omega)
            rw [hK] at hby
            go_simp
            go_at_call 44
            refine (ref_hmac _ _ K (strw ++ (be8 n ++ be8 q)) _ _ W5 hby oM5.bytes (by omega) (by rw [List.length_append, List.length_append, hlen8, hlen8]; simp [strw])).mono ?_
            rintro e W6 ⟨rfl, hs6⟩
            rw [← HH.out]
            have b6 : Below wr.heap.size wr W6 := b5.trans (hs6.mono b5.size)
            have z6 : Whole W6 G 28 ztr := Whole.below z5 hs6 z5.lt
            refine hKK.out _ _ (trivial) (fun hHeld => ?_)
            clear hKK KK
            (try simp only [sq])
            refine wpAnyH_ready (rs := [11]) (by kernel_rfl) (by simp) ?_
            refine AllReadyH.cons rfl (fun KK hKK => ?_) AllReadyH.nil
            (try simp only [sq])
            obtain ⟨W7, hW7⟩ : ∃ x, x = W6.setRow G (H.map byt).toArray := ⟨_, rfl⟩
            have t7 : TGRow W7 G H := by rw [hW7]; exact Whole.setRow z6 _
            have b7 : Below wr.heap.size wr W7 := by rw [hW7]; exact below_setRow b6 hgl _
            rw [if_pos (by kernel_rfl)]
            refine wp_store_row 28 _ _ rfl G _ rfl rfl 28 _ z6 (by rw [tagSize, tag_size hHl]) (by rw [ztr_size, tag_size hHl]) (tag_one _) ?_
            rw [← hW7]
            clear hW7
            refine hKK.out _ _ (trivial) (fun hHeld => ?_)
            clear hKK KK
            (try simp only [sq])
            refine wpAnyH_done (by kernel_rfl) ?_ _
            go_wp2_with fail
            go_meet
            exact ⟨G, rfl, t7, hgl, b7⟩
        · (try simp only [sq])
          obtain ⟨G, hG⟩ : ∃ g, g = W1.heap.size := ⟨_, rfl⟩
          obtain ⟨W2, hW2⟩ : ∃ x, x = W1.alloc (.cells ztr 28) := ⟨_, rfl⟩
          have hs2 : Below W1.heap.size W1 W2 := by rw [hW2]; exact (Below.refl _ _).alloc (Nat.le_refl _) _
          have zz2 : Whole W2 G 28 ztr := by rw [hW2, hG]; exact Whole.here _ _ _
          have hgl : wr.heap.size ≤ G := by rw [hG]; exact b1.size
          have b2 : Below wr.heap.size wr W2 := b1.trans (hs2.mono b1.size)
          have oA2 := own_below oA1 hs2 (Nat.le_refl _)
          have z2 := zz2
          go_simp
          rw [ztr_lit, ← hG, ← hW2]
          clear hW2 hG
          refine hKK.out _ _ (trivial) (fun hHeld => ?_)
          clear hKK KK
          (try simp only [sq])
          refine wpAnyH_ready (rs := [6]) (by kernel_rfl) (by simp) ?_
          refine AllReadyH.cons rfl (fun KK hKK => ?_) AllReadyH.nil
          (try simp only [sq])
          go_simp
          go_at_call 64
          refine (eight q W2).mono ?_
          rintro e W3 ⟨vB, rfl, ho3, hs3⟩
          have b3 : Below wr.heap.size wr W3 := b2.trans (hs3.mono b2.size)
          have z3 : Whole W3 G 28 ztr := Whole.below z2 hs3 z2.lt
          have oA3 := own_below oA2 hs3 (Nat.le_refl _)
          have oB3 : Own W3 wr.heap.size vB (be8 q) := own_mono ho3 b2.size
          obtain ⟨AB, cB, rfl, -⟩ := id (Bytes.of_own oB3)
          refine hKK.out _ _ (trivial) (fun hHeld => ?_)
          clear hKK KK
          (try simp only [sq])
          refine wpAnyH_ready (rs := [7]) (by kernel_rfl) (by simp) ?_
          refine AllReadyH.cons rfl (fun KK hKK => ?_) AllReadyH.nil
          refine step_append_seq (by rfl) _ _ 23 5 (.int .u8 0) 1 (by rfl) Tryd.underlying23 byteInfo byte_size (by omega) (by omega) bf_len bf_one wr.heap.size _ (be8 n) (by rfl) (own_bf oA3) _ AB (be8 q).length cB (be8 q) rfl (by rfl) (seq_bytes (Bytes.of_own oB3)) (by rw [hlen8, hlen8]; omega) b3.size ?_
          intro vC W4 oC0 hs4 hgn4
          have oC4 : Own W4 wr.heap.size vC (be8 n ++ be8 q) := bf_own oC0
          have b4 : Below wr.heap.size wr W4 := b3.trans hs4
          have z4 := own_off (own_bf oA3) z3 hgn4
          refine hKK.out _ _ (trivial) (fun hHeld => ?_)
          clear hKK KK
          (try simp only [sq])
          refine wpAnyH_ready (rs := [8]) (by kernel_rfl) (by simp) ?_
          refine AllReadyH.cons rfl (fun KK hKK => ?_) AllReadyH.nil
          (try simp only [sq])
          go_simp
          go_at_call 66
          refine (rword { data := #[115, 116, 114, 101, 97, 109] } (by decide) vC (be8 n ++ be8 q) _ W4 (Bytes.of_own oC4) (by rw [List.length_append, hlen8]; omega) (by rw [List.length_append, hlen8, hlen8]; omega)).mono ?_
          rintro e W5 ⟨vM, rfl, oM0, hs5⟩
          have b5 : Below wr.heap.size wr W5 := b4.trans (hs5.mono b4.size)
          have z5 : Whole W5 G 28 ztr := Whole.below z4 hs5 z4.lt
          rw [sbytes_strw] at oM0
          have oM5 := oM0
          refine hKK.out _ _ (trivial) (fun hHeld => ?_)
          clear hKK KK
          (try simp only [sq])
          refine wpAnyH_ready (rs := [9]) (by kernel_rfl) (by simp) ?_
          refine AllReadyH.cons rfl (fun KK hKK => ?_) AllReadyH.nil
          (try simp only [sq])
          have hby := Whole.bytes (Whole.below HK.out (HBW.out.trans (b5.mono HBW.out.size)) (by omega)) (by omega)
          rw [hK] at hby
          go_simp
          go_at_call 44
          refine (ref_hmac _ _ K (strw ++ (be8 n ++ be8 q)) _ _ W5 hby oM5.bytes (by omega) (by rw [List.length_append, List.length_append, hlen8, hlen8]; simp [strw])).mono ?_
          rintro e W6 ⟨rfl, hs6⟩
          rw [← HH.out]
          have b6 : Below wr.heap.size wr W6 := b5.trans (hs6.mono b5.size)
          have z6 : Whole W6 G 28 ztr := Whole.below z5 hs6 z5.lt
          refine hKK.out _ _ (trivial) (fun hHeld => ?_)
          clear hKK KK
          (try simp only [sq])
          refine wpAnyH_ready (rs := [11]) (by kernel_rfl) (by simp) ?_
          refine AllReadyH.cons rfl (fun KK hKK => ?_) AllReadyH.nil
          (try simp only [sq])
          obtain ⟨W7, hW7⟩ : ∃ x, x = W6.setRow G (H.map byt).toArray := ⟨_, rfl⟩
          have t7 : TGRow W7 G H := by rw [hW7]; exact Whole.setRow z6 _
          have b7 : Below wr.heap.size wr W7 := by rw [hW7]; exact below_setRow b6 hgl _
          rw [if_pos (by kernel_rfl)]
          refine wp_store_row 28 _ _ rfl G _ rfl rfl 28 _ z6 (by rw [tagSize, tag_size hHl]) (by rw [ztr_size, tag_size hHl]) (tag_one _) ?_
          rw [← hW7]
          clear hW7
          refine hKK.out _ _ (trivial) (fun hHeld => ?_)
          clear hKK KK
          (try simp only [sq])
          refine wpAnyH_done (by kernel_rfl) ?_ _
          go_wp2_with fail
          go_meet
          exact ⟨G, rfl, t7, hgl, b7⟩
      · (try simp only [sq])
        obtain ⟨G, hG⟩ : ∃ g, g = W0.heap.size := ⟨_, rfl⟩
        obtain ⟨W1, hW1⟩ : ∃ x, x = W0.alloc (.cells ztr 28) := ⟨_, rfl⟩
        have hs1 : Below W0.heap.size W0 W1 := by rw [hW1]; exact (Below.refl _ _).alloc (Nat.le_refl _) _
        have zz1 : Whole W1 G 28 ztr := by rw [hW1, hG]; exact Whole.here _ _ _
        have hgl : wr.heap.size ≤ G := by rw [hG]; exact bU.size
        have b1 : Below wr.heap.size wr W1 := bU.trans (hs1.mono bU.size)
        have z1 := zz1
        go_simp
        rw [ztr_lit, ← hG, ← hW1]
        clear hW1 hG
        refine hKK.out _ _ (trivial) (fun hHeld => ?_)
        clear hKK KK
        (try simp only [sq])
        refine wpAnyH_ready (rs := [2]) (by kernel_rfl) (by simp) ?_
        refine AllReadyH.cons rfl (fun KK hKK => ?_) AllReadyH.nil
        (try simp only [sq])
        go_simp
        go_at_call 64
        refine (eight n W1).mono ?_
        rintro e W2 ⟨vA, rfl, ho2, hs2⟩
        have b2 : Below wr.heap.size wr W2 := b1.trans (hs2.mono b1.size)
        have z2 : Whole W2 G 28 ztr := Whole.below z1 hs2 z1.lt
        have oA2 : Own W2 wr.heap.size vA (be8 n) := own_mono ho2 b1.size
        refine hKK.out _ _ (trivial) (fun hHeld => ?_)
        clear hKK KK
        (try simp only [sq])
        refine wpAnyH_ready (rs := [6]) (by kernel_rfl) (by simp) ?_
        refine AllReadyH.cons rfl (fun KK hKK => ?_) AllReadyH.nil
        (try simp only [sq])
        go_simp
        go_at_call 64
        refine (eight q W2).mono ?_
        rintro e W3 ⟨vB, rfl, ho3, hs3⟩
        have b3 : Below wr.heap.size wr W3 := b2.trans (hs3.mono b2.size)
        have z3 : Whole W3 G 28 ztr := Whole.below z2 hs3 z2.lt
        have oA3 := own_below oA2 hs3 (Nat.le_refl _)
        have oB3 : Own W3 wr.heap.size vB (be8 q) := own_mono ho3 b2.size
        obtain ⟨AB, cB, rfl, -⟩ := id (Bytes.of_own oB3)
        refine hKK.out _ _ (trivial) (fun hHeld => ?_)
        clear hKK KK
        (try simp only [sq])
        refine wpAnyH_ready (rs := [7]) (by kernel_rfl) (by simp) ?_
        refine AllReadyH.cons rfl (fun KK hKK => ?_) AllReadyH.nil
        refine step_append_seq (by rfl) _ _ 23 5 (.int .u8 0) 1 (by rfl) Tryd.underlying23 byteInfo byte_size (by omega) (by omega) bf_len bf_one wr.heap.size _ (be8 n) (by rfl) (own_bf oA3) _ AB (be8 q).length cB (be8 q) rfl (by rfl) (seq_bytes (Bytes.of_own oB3)) (by rw [hlen8, hlen8]; omega) b3.size ?_
        intro vC W4 oC0 hs4 hgn4
        have oC4 : Own W4 wr.heap.size vC (be8 n ++ be8 q) := bf_own oC0
        have b4 : Below wr.heap.size wr W4 := b3.trans hs4
        have z4 := own_off (own_bf oA3) z3 hgn4
        refine hKK.out _ _ (trivial) (fun hHeld => ?_)
        clear hKK KK
        (try simp only [sq])
        refine wpAnyH_ready (rs := [8]) (by kernel_rfl) (by simp) ?_
        refine AllReadyH.cons rfl (fun KK hKK => ?_) AllReadyH.nil
        (try simp only [sq])
        go_simp
        go_at_call 66
        refine (rword { data := #[115, 116, 114, 101, 97, 109] } (by decide) vC (be8 n ++ be8 q) _ W4 (Bytes.of_own oC4) (by rw [List.length_append, hlen8]; omega) (by rw [List.length_append, hlen8, hlen8]; omega)).mono ?_
        rintro e W5 ⟨vM, rfl, oM0, hs5⟩
        have b5 : Below wr.heap.size wr W5 := b4.trans (hs5.mono b4.size)
        have z5 : Whole W5 G 28 ztr := Whole.below z4 hs5 z4.lt
        rw [sbytes_strw] at oM0
        have oM5 := oM0
        refine hKK.out _ _ (trivial) (fun hHeld => ?_)
        clear hKK KK
        (try simp only [sq])
        refine wpAnyH_ready (rs := [9]) (by kernel_rfl) (by simp) ?_
        refine AllReadyH.cons rfl (fun KK hKK => ?_) AllReadyH.nil
        (try simp only [sq])
        have hby := Whole.bytes (Whole.below HK.out (HBW.out.trans (b5.mono HBW.out.size)) (by omega)) (by omega)
        rw [hK] at hby
        go_simp
        go_at_call 44
        refine (ref_hmac _ _ K (strw ++ (be8 n ++ be8 q)) _ _ W5 hby oM5.bytes (by omega) (by rw [List.length_append, List.length_append, hlen8, hlen8]; simp [strw])).mono ?_
        rintro e W6 ⟨rfl, hs6⟩
        rw [← HH.out]
        have b6 : Below wr.heap.size wr W6 := b5.trans (hs6.mono b5.size)
        have z6 : Whole W6 G 28 ztr := Whole.below z5 hs6 z5.lt
        refine hKK.out _ _ (trivial) (fun hHeld => ?_)
        clear hKK KK
        (try simp only [sq])
        refine wpAnyH_ready (rs := [11]) (by kernel_rfl) (by simp) ?_
        refine AllReadyH.cons rfl (fun KK hKK => ?_) AllReadyH.nil
        (try simp only [sq])
        obtain ⟨W7, hW7⟩ : ∃ x, x = W6.setRow G (H.map byt).toArray := ⟨_, rfl⟩
        have t7 : TGRow W7 G H := by rw [hW7]; exact Whole.setRow z6 _
        have b7 : Below wr.heap.size wr W7 := by rw [hW7]; exact below_setRow b6 hgl _
        rw [if_pos (by kernel_rfl)]
        refine wp_store_row 28 _ _ rfl G _ rfl rfl 28 _ z6 (by rw [tagSize, tag_size hHl]) (by rw [ztr_size, tag_size hHl]) (tag_one _) ?_
        rw [← hW7]
        clear hW7
        refine hKK.out _ _ (trivial) (fun hHeld => ?_)
        clear hKK KK
        (try simp only [sq])
        refine wpAnyH_done (by kernel_rfl) ?_ _
        go_wp2_with fail
        go_meet
        exact ⟨G, rfl, t7, hgl, b7⟩
    case rest =>
      obtain ⟨g9, rfl, ht, hgl, hbc⟩ := hcut
      have hbd : Below wr.heap.size wr wc.drew := hbc.drew
      have htd : TGRow wc.drew g9 H := Whole.drew ht
      have oc : Own wc.drew p.heap.size (.slice A1 b.length c1) (stj K n b j) := own_below HO.out hbd (Nat.le_refl _)
      obtain ⟨g, cap, hve, hge, hcell, hfr, hset⟩ := own_cell oc j (by rw [stj_length]; exact hlt)
      have hsl := stj_length K n b j
      injection hve with hv1 hv2 hv3
      subst hv1 hv3
      clear hv2 hsl
      obtain ⟨r, hr⟩ : ∃ r, r = j % 32 := ⟨_, rfl⟩
      have e4 : (j : Int).tmod 32 = (r : Int) := by rw [Int.tmod_eq_emod_of_nonneg (by omega), hr]; omega
      have hr32 : (r : Int) < 32 := by omega
      have hr0 : (0 : Int) ≤ (r : Int) := by omega
      have hrn : r < H.length := by omega
      obtain ⟨X, hX⟩ : ∃ X, X = b.getD j 0 := ⟨_, rfl⟩
      obtain ⟨Y, hY⟩ : ∃ Y, Y = H.getD r 0 := ⟨_, rfl⟩
      rw [stj_get, ← hX] at hcell
      have hcy : wc.drew.cell? ⟨g9, r, none⟩ = some (byt Y) := by
        rw [Whole.cell htd, List.getElem?_toArray, List.getElem?_map, List.getElem?_eq_getElem hrn, hY, List.getD_eq_getElem?_getD, List.getElem?_eq_getElem hrn]
        rfl
      have hxor := bits_xor_bv X Y
      have hke : kstr K n j = Y := by unfold kstr; rw [hY, HH.out, HQ.out, hr]
      have hfin : Own (wc.drew.setCell ⟨g, j, none⟩ (byt (X ^^^ Y))) p.heap.size (.slice (some ⟨g, 0, none⟩) b.length c1) (stj K n b (j + 1)) := by
        have := hset (X ^^^ Y)
        rw [← stj_set K n b j hlt, hke, ← hX]
        exact this
      have hbf : Below p.heap.size p (wc.drew.setCell ⟨g, j, none⟩ (byt (X ^^^ Y))) := (HBW.out.trans (hbd.mono HBW.out.size)).setCell (p := ⟨g, j, none⟩) hge _
      have HF := Lib.hid (And.intro hfin hbf)
      have j0 : (0 : Int) ≤ (j : Int) := by omega
      have jb : (j : Int) < (b.length : Int) := by omega
      clear hset hfin hbf hbd htd oc ht hbc hX hY hke hr hrn hst e1 e2 e3 hge
      go_upto_region 6 with fail
      refine wp_region_G (fun W : World => W.cell? ⟨g, j, none⟩ = some (byt X) ∧ W.cell? ⟨g9, r, none⟩ = some (byt Y)) (fun _ => True) [12] (by kernel_rfl) ?_
      generalize wc.drew = W0 at hcell hfr hcy HF ⊢
      have hHeld : (fun W : World => W.cell? ⟨g, j, none⟩ = some (byt X) ∧ W.cell? ⟨g9, r, none⟩ = some (byt Y)) W0 := ⟨hcell, hcy⟩
      apply AnyG_pure (i := 0) rfl (by kernel_rfl) (by kernel_rfl) (by kernel_rfl) (by kernel_rfl)
      case hQ => exact fun _ _ _ h => h
      case hB => exact trivial
      case hC => exact .inr hHeld
      case hy => (refine Or.inl ⟨by rfl, ?_⟩; intro w hSw; (try go_split_ands); go_simp; (try with_reducible rfl))
      (try simp only [sq])
      apply AnyG_pure (i := 1) rfl (by kernel_rfl) (by kernel_rfl) (by kernel_rfl) (by kernel_rfl)
      case hQ => exact fun _ _ _ h => h
      case hB => exact trivial
      case hC => exact .inr hHeld
      case hy => (refine Or.inl ⟨by rfl, ?_⟩; intro w hSw; (try go_split_ands); go_simp; (try with_reducible rfl))
      (try simp only [sq])
      apply AnyG_pure (i := 2) rfl (by kernel_rfl) (by kernel_rfl) (by kernel_rfl) (by kernel_rfl)
      case hQ => exact fun _ _ _ h => h
      case hB => exact trivial
      case hC => exact .inr hHeld
      case hy => (refine Or.inl ⟨by rfl, ?_⟩; intro w hSw; (try go_split_ands); go_simp; (try with_reducible rfl))
      (try simp only [sq])
      apply AnyG_pure (i := 3) rfl (by kernel_rfl) (by kernel_rfl) (by kernel_rfl) (by kernel_rfl)
      case hQ => exact fun _ _ _ h => h
      case hB => exact trivial
      case hC => exact .inr hHeld
      case hy => (refine Or.inl ⟨by rfl, ?_⟩; intro w hSw; (try go_split_ands); go_simp; (try with_reducible rfl))
      (try simp only [sq])
      apply AnyG_pure (i := 4) rfl (by kernel_rfl) (by kernel_rfl) (by kernel_rfl) (by kernel_rfl)
      case hQ => exact fun _ _ _ h => h
      case hB => exact trivial
      case hC => exact .inr hHeld
      case hy => (refine Or.inl ⟨by rfl, ?_⟩; intro w hSw; (try go_split_ands); go_simp; (try with_reducible rfl))
      (try simp only [sq])
      apply AnyG_take (i := 5) rfl (by kernel_rfl) (by kernel_rfl) (by kernel_rfl) (by kernel_rfl)
      case hQ => exact fun _ _ _ h => h
      case hB => exact trivial
      case hC => exact hHeld
      case hy => (refine Or.inl ⟨by rfl, ?_⟩; intro w hSw; (try go_split_ands); go_simp; (try with_reducible rfl))
      (try simp only [sq])
      apply AnyG_pure (i := 6) rfl (by kernel_rfl) (by kernel_rfl) (by kernel_rfl) (by kernel_rfl)
      case hQ => exact fun _ _ _ h => h
      case hB => exact trivial
      case hC => exact .inr hHeld
      case hy => (refine Or.inl ⟨by rfl, ?_⟩; intro w hSw; (try go_split_ands); go_simp; (try with_reducible rfl))
      (try simp only [sq])
      apply AnyG_pure (i := 7) rfl (by kernel_rfl) (by kernel_rfl) (by kernel_rfl) (by kernel_rfl)
      case hQ => exact fun _ _ _ h => h
      case hB => exact trivial
      case hC => exact .inr hHeld
      case hy => (refine Or.inl ⟨by rfl, ?_⟩; intro w hSw; (try go_split_ands); go_simp; (try with_reducible rfl))
      (try simp only [sq])
      apply AnyG_pure (i := 8) rfl (by kernel_rfl) (by kernel_rfl) (by kernel_rfl) (by kernel_rfl)
      case hQ => exact fun _ _ _ h => h
      case hB => exact trivial
      case hC => exact .inr hHeld
      case hy => (refine Or.inl ⟨by rfl, ?_⟩; intro w hSw; (try go_split_ands); go_simp; (try with_reducible rfl))
      (try simp only [sq])
      apply AnyG_take (i := 9) rfl (by kernel_rfl) (by kernel_rfl) (by kernel_rfl) (by kernel_rfl)
      case hQ => exact fun _ _ _ h => h
      case hB => exact trivial
      case hC => exact hHeld
      case hy => (refine Or.inl ⟨by rfl, ?_⟩; intro w hSw; (try go_split_ands); go_simp; (try with_reducible rfl))
      (try simp only [sq])
      apply AnyG_pure (i := 10) rfl (by kernel_rfl) (by kernel_rfl) (by kernel_rfl) (by kernel_rfl)
      case hQ => exact fun _ _ _ h => h
      case hB => exact trivial
      case hC => exact .inr hHeld
      case hy => (refine Or.inl ⟨by rfl, ?_⟩; intro w hSw; (try go_split_ands); go_simp; (try with_reducible rfl))
      (try simp only [sq])
      apply AnyG_pure (i := 11) rfl (by kernel_rfl) (by kernel_rfl) (by kernel_rfl) (by kernel_rfl)
      case hQ => exact fun _ _ _ h => h
      case hB => exact trivial
      case hC => exact .inr hHeld
      case hy => (refine Or.inl ⟨by rfl, ?_⟩; intro w hSw; (try go_split_ands); go_simp; (try with_reducible rfl))
      (try simp only [sq])
      refine AnyG_one (i := 12) (by kernel_rfl) rfl (fun KK hKK => ?_)
      (try simp only [sq])
      go_simp
      obtain ⟨W5, hW5⟩ : ∃ x, x = W0.setCell ⟨g, j, none⟩ (byt (X ^^^ Y)) := ⟨_, rfl⟩
      rw [← hW5] at HF
      change KK _ (W0.setCell ⟨g, j, none⟩ (byt (X ^^^ Y)))
      rw [← hW5]
      clear hW5
      refine hKK.out _ _ (.inl (by kernel_rfl)) trivial ?_
      clear hKK KK
      (try simp only [sq])
      refine AnyG_done (by kernel_rfl) ?_ _
      clear hHeld hcell hcy hfr
      go_wp2_with fail
      go_roundw
      case rel => exact ⟨j + 1, by go_num, by omega, HF.out.1, HF.out.2⟩
      case measure => simp [intOf]; omega
end Go.Proofs.YtiikhjifjdpgdaaDoor
