/-
  Mac (the program).
-/
import Derived.Deep.RegionHeld3
import Derived.Deep.CutBlock
import Derived.Deep.DeepCutAuto
import Derived.Test.YtknhnkmooaopmaaDoorPk15
import Derived.Test.YtknhnkmooaopmaaDoorPk17
import Derived.Test.YtknhnkmooaopmaaDoorPk18
import Derived.Test.YtknhnkmooaopmaaDoorPk3
import Derived.Test.YtknhnkmooaopmaaDoorPk23
namespace Go.Proofs.YtknhnkmooaopmaaDoor
open Go Go.RowKit Sh Leaf

theorem wpList_buildSlice_mac {w : World} {ops : Array Oper} {rest : List Oper} {o : Oper} {a : Act} {Q : Exit → Act → World → Prop} (hg : o.guard = none) (x : Operand) (ho : o.op = .buildSlice 29 1 #[(0, x)])
    (N : Nat) (hN : w.heap.size = N) (dst : Option Tmp) (hdst : o.dst = dst) {X : MeM} (hx : a.eval x = .agg (mcl X).toArray)
    (h : wpList Tryd.prog ops Q rest (a.put dst (.slice (some ⟨N, 0, none⟩) 1 1)) (w.alloc (.cells (mcl X).toArray 62))) : wpList Tryd.prog ops Q (o :: rest) a w := by
  refine Great.wpList_buildSliceTo hg 29 62 1 _ ho N hN dst hdst Tryd.underlying29 _ ?_ h
  have e1 : (#[(0, x)].map fun (i, x) => (i, a.eval x)).toList = [(0, .agg (mcl X).toArray)] := by simp [hx]
  rw [e1]
  exact bs_mac X
theorem wpList_load_mac {w : World} {g : Nat} {ops : Array Oper} {rest : List Oper} {o : Oper} {a : Act} {Q : Exit → Act → World → Prop} (hgd : o.guard = none) (x : Operand) (ho : o.op = .load 62 x)
    (hx : a.eval x = .pointer (some ⟨g, 0, none⟩)) {cs : Array Value} (hg : Whole w g 62 cs) (h8 : cs.size = 65) (h : wpList Tryd.prog ops Q rest (a.put o.dst (.agg cs)) w) : wpList Tryd.prog ops Q (o :: rest) a w :=
  wpList_load_row hgd 62 x ho g hx 62 _ (0, 0) _ hg Tryd.underlying62 rfl (by rw [macSize, h8]) h
theorem mcl_size (X : MeM) : (mcl X).toArray.size = 65 := by rw [List.size_toArray, mcl_len]
/-- The algebra with one more entry. -/
theorem alv_more {w W : World} {Q : Nat → Prop} {a : Alg} {Ab A5 : Option Addr} {cb c5 : Nat} {L1 : List MeM} {X : MeM} (hL : L1.map (·.e) = a.macs) (hB1 : ∀ x ∈ L1, Bytes W (fun g => Q g ∨ w.heap.size ≤ g) (.slice x.A x.e.msg.length x.c) x.e.msg)
    (hS : Seq mcl mok W (fun g => w.heap.size ≤ g) A5 c5 (L1 ++ [X])) (hX : Bytes W (fun g => w.heap.size ≤ g) (.slice X.A X.e.msg.length X.c) X.e.msg) (hBx : Bxs W Q Ab cb a.boxes) (hA : Aok a) (hlen : a.macs.length < 1000) :
    AlV W (fun g => Q g ∨ w.heap.size ≤ g) (.agg (alc a.free a.seed a.fresh (.slice A5 (L1 ++ [X]).length c5) (.slice Ab a.boxes.length cb))) { a with macs := a.macs ++ [X.e] } := by
  have hl : (a.macs ++ [X.e]).length = (L1 ++ [X]).length := by rw [← hL]; simp
  refine ⟨A5, c5, Ab, cb, by rw [← hl], ⟨L1 ++ [X], by rw [← hL]; simp, hS.mono fun _ _ h => .inr h, fun x hx => ?_⟩, hBx.mono fun _ _ h => .inl h, ⟨hA.seed, hA.lo, hA.hi, by show (a.macs ++ [X.e]).length ≤ 1000; rw [List.length_append]; simp; omega, hA.boxes⟩⟩
  rcases List.mem_append.1 hx with h | h
  · exact hB1 x h
  · rw [List.mem_singleton.1 h]
    exact hX.mono fun _ _ h => .inr h
theorem tag_len {l : List B8} (h : l.length = 32) : (l.map byt).length = 32 := by rw [List.length_map, h]
set_option linter.unusedSimpArgs false in
set_option maxRecDepth 100000 in
set_option maxHeartbeats 8000000 in
theorem pmac {w : World} {Q Q2 : Nat → Prop} {x : Value} {B : Option Addr} {d : Nat} {a : Alg} {K m : List B8} (hx : AlV w Q x a) (hlen : a.macs.length < 1000) (hK : K.length = 32) (hm : Bytes w Q2 (.slice B m.length d) m) (hml : m.length ≤ 100000) (hT : Tables w) :
    Calls Tryd.prog 10 #[x, .agg (K.map byt).toArray, .slice B m.length d] w fun e w' => AlgR w' (fun g => Q g ∨ w.heap.size ≤ g) e (aMac a K m) ∧ Below w.heap.size w w' := by
  have hx0 := hx
  obtain ⟨Am, cm, Ab, cb, rfl, hM, hBx, hA⟩ := hx
  obtain ⟨p, hp⟩ : ∃ p, p = (((w.alloc (.cells (alc a.free a.seed a.fresh (.slice Am a.macs.length cm) (.slice Ab a.boxes.length cb)) 32)).alloc (.cells (K.map byt).toArray 28)).alloc (.cells zar 32)).alloc (.cells ztr 28) := ⟨_, rfl⟩
  have hr : ALRow p w.heap.size a.free a.seed a.fresh (.slice Am a.macs.length cm) (.slice Ab a.boxes.length cb) := by rw [hp]; exact (((Whole.here _ _ _).alloc _).alloc _).alloc _
  have hk : TGRow p (w.heap.size + 1) K := by rw [hp]; exact ((Whole.at_ _ _ _ _ (by simp)).alloc _).alloc _
  have h6 : Whole p (w.heap.size + 1 + 1) 32 zar := by rw [hp]; exact (Whole.at_ _ _ _ _ (by simp)).alloc _
  have h7 : Whole p (w.heap.size + 1 + 1 + 1) 28 ztr := by rw [hp]; exact Whole.at_ _ _ _ _ (by simp)
  have hb : Below w.heap.size w p := by rw [hp]; exact ((((Below.refl _ _).alloc (Nat.le_refl _) _).alloc (by simp) _).alloc (by simp; omega) _).alloc (by simp; omega) _
  have hps : (w.heap.size + 1 + 1 + 1) < p.heap.size := h7.lt
  have HX := Lib.hid hx0
  have HMC := Lib.hid hM
  have HBX := Lib.hid hBx
  have HA := Lib.hid hA
  have HM := Lib.hid hm
  have HR := Lib.hid hr
  have HK := Lib.hid hk
  have H6 := Lib.hid h6
  have H7 := Lib.hid h7
  have HB := Lib.hid hb
  have HLEN := Lib.hid hlen
  clear hx0 hM hBx hA hm hr hk h6 h7 hb
  obtain ⟨R, hR⟩ : ∃ R, R = aMac a K m := ⟨_, rfl⟩
  have hRR := hR
  unfold aMac at hRR
  rw [← hR]
  clear hR
  by_cases hbig : 4096 < m.length
  · skip
    rw [if_pos hbig] at hRR
    have HRR := Lib.hid hRR
    have hb1 : (4096 : Int) < (m.length : Int) := by omega
    clear hRR hbig
    go_enter Tryd.func10, Tryd.ntmps10
    go_upto_region 1 with fail
    rw [zar_lit, ztr_lit, ← hp]
    clear hp
    go_wp2_with (first
      | (with_reducible refine wpList_store_alg rfl _ _ rfl (g := (w.heap.size + 1 + 1)) rfl rfl H6.out zar_size rfl (by with_unfolding_all rfl) ?_)
      | (with_reducible refine wpList_store_tag rfl _ _ rfl (g := (w.heap.size + 1 + 1 + 1)) rfl rfl (Whole.setRow_far H7.out (by omega) _) ztr_size rfl (by with_unfolding_all rfl) ?_))
    rw [zar_lit, ztr_lit]
    have e1 := Whole.setRow_far (Whole.setRow H6.out zar) (g' := (w.heap.size + 1 + 1 + 1)) (by omega) ztr
    have e2 := Whole.setRow (Whole.setRow_far H7.out (g' := (w.heap.size + 1 + 1)) (by omega) zar) ztr
    refine bodyPost_ret (results_alg3 Tryd.results10 _ rfl rfl _ rfl zar_size ztr_size e1 e2) rfl ?_
    show AlgR _ _ _ R ∧ _
    rw [HRR.out]
    exact ⟨⟨_, by rw [ztr_eq]; rfl, alv_zero _ _⟩, below_setRow (below_setRow HB.out (by omega) _) (by omega) _⟩
  rw [if_neg hbig] at hRR
  have hb1 : ¬ (4096 : Int) < (m.length : Int) := by omega
  obtain ⟨f, hf⟩ : ∃ f, f = fnd a.macs K m := ⟨_, rfl⟩
  rw [← hf] at hRR
  have hfl : (f.getD ztag).length = 32 := by
    cases hq : f with
    | none => rfl
    | some t => exact fnd_len (hf.symm.trans hq) (Macs.tags HMC.out)
  have hcl := arecorded (HMC.out.below HB.out (Nat.le_refl _)) HA.out.macs hK (HM.out.below HB.out (Nat.le_refl _))
  rw [← hf] at hcl
  unfold fres at hcl
  obtain ⟨E0, hE0⟩ : ∃ E, E = f.getD ztag := ⟨_, rfl⟩
  rw [← hE0] at hcl hfl
  have hr0 := HR.out
  obtain ⟨c0, c33, c34, c35⟩ := ALRow.cells hr0
  have HE0 := Lib.hid hE0
  have HRR0 := Lib.hid hRR
  clear hf hr0 c0 c33 c35 hE0 hRR
  go_enter Tryd.func10, Tryd.ntmps10
  go_upto_region 1 with fail
  rw [zar_lit, ztr_lit, ← hp]
  clear hp
  go_wp2_with (first
    | (with_reducible refine wpList_load_alg rfl _ rfl rfl HR.out (alc_size _ _ _ _ _) ?_)
    | (with_reducible refine wpList_load_tag rfl _ rfl rfl HK.out (tag_size hK) ?_))
  refine hcl.mono ?_
  rintro e w1 ⟨rfl, hb1'⟩
  clear hcl c34
  have hpw : p.heap.size ≤ w1.heap.size := hb1'.size
  go_upto_region 4 with (with_reducible refine wpList_store_tag rfl _ _ rfl (g := w1.heap.size) rfl rfl (Whole.here w1 _ _) rfl (tag_size hfl) (tag_one _) ?_)
  rw [ztr_lit]
  obtain ⟨u, hu⟩ : ∃ x, x = (w1.alloc (.cells ztr 28)).setRow w1.heap.size (E0.map byt).toArray := ⟨_, rfl⟩
  have ht : TGRow u w1.heap.size E0 := by rw [hu]; exact Whole.setRow (Whole.here _ _ _) _
  have hbu : Below w1.heap.size w1 u := by rw [hu]; exact below_setRow ((Below.refl _ _).alloc (Nat.le_refl _) _) (Nat.le_refl _) _
  rw [← hu]
  clear hu
  have hwu : w1.heap.size < u.heap.size := ht.lt
  have HBU : Hid (Below p.heap.size p u) := Lib.hid (hb1'.trans (hbu.mono hpw))
  have HTU := Lib.hid ht
  clear hb1' hbu ht
  obtain ⟨c0, c33, c34, c35⟩ := ALRow.cells (Whole.below HR.out HBU.out (by omega))
  clear c0 c33 c35
  cases f with
  | some t0 =>
    have hE : E0 = t0 := HE0.out
    have HRR : Hid (R = (a, E0, 0)) := Lib.hid (by rw [HRR0.out, hE])
    clear hE c34
    go_upto_region 5 with fail
    have hru : ALRow u.drew w.heap.size a.free a.seed a.fresh (.slice Am a.macs.length cm) (.slice Ab a.boxes.length cb) := Whole.drew (Whole.below HR.out HBU.out (by omega))
    have h6u : Whole u.drew (w.heap.size + 1 + 1) 32 zar := Whole.drew (Whole.below H6.out HBU.out (by omega))
    have h7u : Whole u.drew (w.heap.size + 1 + 1 + 1) 28 ztr := Whole.drew (Whole.below H7.out HBU.out (by omega))
    have htu : TGRow u.drew w1.heap.size E0 := Whole.drew HTU.out
    have bbu : Below w.heap.size w u.drew := (HB.out.trans (HBU.out.mono (by omega))).drew
    refine wp_region_held_drew (S := fun W => W.rangeAt w.heap.size 0 (alcl a.free a.seed a.fresh (.slice Am a.macs.length cm) (.slice Ab a.boxes.length cb)) ∧ W.rangeAt w1.heap.size 0 ((E0).map byt)) (by kernel_rfl) (⟨Whole.range hru, TGRow.range htu⟩) (fun hHeld => ?_)
    apply wpAnyH_take (i := 0) rfl (by kernel_rfl) (by kernel_rfl) (by kernel_rfl)
    case hQ => exact fun _ _ _ h => h
    case hS => exact hHeld
    case hy => exact yieldsIf_load_mid (by rfl) 32 _ rfl w.heap.size (0) rfl (alcl a.free a.seed a.fresh (.slice Am a.macs.length cm) (.slice Ab a.boxes.length cb)) _ (fun w hS => hS.1) Tryd.underlying32 rfl (by rw [algSize, alcl_length])
    (try simp only [List.getElem_toArray, List.getElem_cons_zero, Act.put, List.setIfInBounds_toArray, List.set_cons_zero, List.set_cons_succ])
    apply wpAnyH_take (i := 1) rfl (by kernel_rfl) (by kernel_rfl) (by kernel_rfl)
    case hQ => exact fun _ _ _ h => h
    case hS => exact hHeld
    case hy => exact yieldsIf_load_mid (by rfl) 28 _ rfl w1.heap.size (0) rfl ((E0).map byt) _ (fun w hS => hS.2) Tryd.underlying28 rfl (by rw [tagSize, tag_len (hfl)])
    (try simp only [List.getElem_toArray, List.getElem_cons_succ, List.getElem_cons_zero, Act.put, List.setIfInBounds_toArray, List.set_cons_zero, List.set_cons_succ])
    refine wpAnyH_ready (rs := [2]) (by kernel_rfl) (by simp) ?_
    refine AllReadyH.cons rfl (fun KK hKK => ?_) AllReadyH.nil
    (try simp only [List.getElem_toArray, List.getElem_cons_succ, List.getElem_cons_zero])
    obtain ⟨X1, hX1⟩ : ∃ x, x = u.drew.setRow (w.heap.size + 1 + 1) ((alcl a.free a.seed a.fresh (.slice Am a.macs.length cm) (.slice Ab a.boxes.length cb)).toArray) := ⟨_, rfl⟩
    have hsX1 : ALRow X1 w.heap.size a.free a.seed a.fresh (.slice Am a.macs.length cm) (.slice Ab a.boxes.length cb) := by rw [hX1]; exact Whole.setRow_far hru (by omega) _
    have e1 : Whole X1 (w.heap.size + 1 + 1) 32 (alc a.free a.seed a.fresh (.slice Am a.macs.length cm) (.slice Ab a.boxes.length cb)) := by rw [hX1]; exact Whole.setRow h6u _
    have h7X1 : Whole X1 (w.heap.size + 1 + 1 + 1) 28 ztr := by rw [hX1]; exact Whole.setRow_far h7u (by omega) _
    have bbX1 : Below w.heap.size w X1 := by rw [hX1]; exact below_setRow bbu (by omega) _
    have htX1 : TGRow X1 w1.heap.size (E0) := by rw [hX1]; exact Whole.setRow_far htu (by omega) _
    rw [if_pos (by kernel_rfl)]
    refine wp_store_row 32 _ _ rfl (w.heap.size + 1 + 1) _ rfl rfl 32 _ h6u (by rw [algSize, List.size_toArray, alcl_length]) (by rw [zar_size, List.size_toArray, alcl_length]) (alc_one _ _ _ _ _ _ _ _ _) ?_
    rw [← hX1]
    clear hX1
    refine hKK.out _ _ (⟨Whole.range hsX1, TGRow.range htX1⟩) (fun hHeld => ?_)
    clear hKK KK
    (try simp only [List.getElem_toArray, List.getElem_cons_succ, List.getElem_cons_zero, Act.put, List.setIfInBounds_toArray, List.set_cons_zero, List.set_cons_succ])
    refine wpAnyH_ready (rs := [3]) (by kernel_rfl) (by simp) ?_
    refine AllReadyH.cons rfl (fun KK hKK => ?_) AllReadyH.nil
    (try simp only [List.getElem_toArray, List.getElem_cons_succ, List.getElem_cons_zero])
    have e1o := e1
    clear e1
    obtain ⟨X2, hX2⟩ : ∃ x, x = X1.setRow (w.heap.size + 1 + 1 + 1) (((E0).map byt).toArray) := ⟨_, rfl⟩
    have hsX2 : ALRow X2 w.heap.size a.free a.seed a.fresh (.slice Am a.macs.length cm) (.slice Ab a.boxes.length cb) := by rw [hX2]; exact Whole.setRow_far hsX1 (by omega) _
    have e1 : Whole X2 (w.heap.size + 1 + 1) 32 (alc a.free a.seed a.fresh (.slice Am a.macs.length cm) (.slice Ab a.boxes.length cb)) := by rw [hX2]; exact Whole.setRow_far e1o (by omega) _
    have e2 : TGRow X2 (w.heap.size + 1 + 1 + 1) (E0) := by rw [hX2]; exact Whole.setRow h7X1 _
    have bbX2 : Below w.heap.size w X2 := by rw [hX2]; exact below_setRow bbX1 (by omega) _
    have htX2 : TGRow X2 w1.heap.size (E0) := by rw [hX2]; exact Whole.setRow_far htX1 (by omega) _
    rw [if_pos (by kernel_rfl)]
    refine wp_store_row 28 _ _ rfl (w.heap.size + 1 + 1 + 1) _ rfl rfl 28 _ h7X1 (by rw [tagSize, tag_size (hfl)]) (by rw [ztr_size, tag_size (hfl)]) (tag_one _) ?_
    rw [← hX2]
    clear hX2
    refine hKK.out _ _ (⟨Whole.range hsX2, TGRow.range htX2⟩) (fun hHeld => ?_)
    clear hKK KK
    (try simp only [List.getElem_toArray, List.getElem_cons_succ, List.getElem_cons_zero, Act.put, List.setIfInBounds_toArray, List.set_cons_zero, List.set_cons_succ])
    apply wpAnyH_take (i := 4) rfl (by kernel_rfl) (by kernel_rfl) (by kernel_rfl)
    case hQ => exact fun _ _ _ h => h
    case hS => exact hHeld
    case hy => (refine Or.inl ⟨by rfl, ?_⟩; intro w hSw; (try go_split_ands); go_simp; (try with_reducible rfl))
    (try simp only [List.getElem_toArray, List.getElem_cons_succ, List.getElem_cons_zero, Act.put, List.setIfInBounds_toArray, List.set_cons_zero, List.set_cons_succ])
    refine wpAnyH_done (by kernel_rfl) ?_ _
    go_wp2_with fail
    have hbf := bbX2
    refine bodyPost_ret (results_alg3 Tryd.results10 _ rfl rfl _ rfl (alc_size _ _ _ _ _) (tag_size (hfl)) e1 e2) rfl ?_
    show AlgR _ _ _ R ∧ _
    rw [HRR.out]
    exact ⟨⟨_, rfl, AlV.mono ⟨Am, cm, Ab, cb, rfl, HMC.out.below hbf (Nat.le_refl _), HBX.out.below hbf (Nat.le_refl _), HA.out⟩ fun _ _ h => .inl h⟩, hbf⟩
  | none =>
    obtain ⟨E, hE⟩ : ∃ E, E = ntag a K m := ⟨_, rfl⟩
    have hEl : E.length = 32 := by rw [hE]; exact ntag_length _ _ _
    have hng : ¬ 65536 ≤ a.macs.length := by omega
    have hRR : R = ({ a with macs := a.macs ++ [⟨K, m, E⟩] }, E, 0) := by
      have := HRR0.out
      simp only [if_neg hng] at this
      rw [this, hE]
    have HRR := Lib.hid hRR
    have hnt := antag (HX.out.below (HB.out.trans (HBU.out.mono (by omega))) (Nat.le_refl _)) hK (HM.out.below (HB.out.trans (HBU.out.mono (by omega))) (Nat.le_refl _)) hml (hT.below (Nat.le_refl _) (HB.out.trans (HBU.out.mono (by omega))))
    rw [← hE] at hnt
    have HLN := Lib.hid hlen
    have hru := Whole.below HR.out HBU.out (by omega)
    have hku := Whole.below HK.out HBU.out (by omega)
    have HRU := Lib.hid hru
    have HKU := Lib.hid hku
    have hln2 : ¬ (65536 : Int) ≤ (a.macs.length : Int) := by omega
    clear hE hRR hru hku hlen hng
    go_wp2_with (first
      | (with_reducible refine wpList_load_alg rfl _ rfl rfl HRU.out (alc_size _ _ _ _ _) ?_)
      | (with_reducible refine wpList_load_tag rfl _ rfl rfl HKU.out (tag_size hK) ?_))
    refine hnt.mono ?_
    rintro e w2 ⟨rfl, hb2⟩
    clear hnt c34
    have hpw2 : u.heap.size ≤ w2.heap.size := hb2.size
    have hpu2 : p.heap.size ≤ u.heap.size := HBU.out.size
    go_upto_region 9 with (first
      | (with_reducible refine wpList_store_tag rfl _ _ rfl (g := w2.heap.size) rfl rfl (Whole.here w2 _ _) rfl (tag_size hEl) (tag_one _) ?_))
    rw [ztr_lit]
    obtain ⟨u2, hu⟩ : ∃ x, x = (w2.alloc (.cells ztr 28)).setRow w2.heap.size (E.map byt).toArray := ⟨_, rfl⟩
    have ht : TGRow u2 w2.heap.size E := by rw [hu]; exact Whole.setRow (Whole.here _ _ _) _
    have hbu : Below w2.heap.size w2 u2 := by rw [hu]; exact below_setRow ((Below.refl _ _).alloc (Nat.le_refl _) _) (Nat.le_refl _) _
    rw [← hu]
    clear hu
    have hwu2 : w2.heap.size < u2.heap.size := ht.lt
    have HB2 : Hid (Below p.heap.size p u2) := Lib.hid (HBU.out.trans ((hb2.mono hpu2).trans (hbu.mono (by omega))))
    have HT2 := Lib.hid ht
    have HM2 := Lib.hid (HM.out.below (HB.out.trans (HB2.out.mono (by omega))) (Nat.le_refl _))
    clear hb2 hbu ht
    have hKl : (K.map byt).length = 32 := tag_len hK
    have hEl2 : (E.map byt).length = 32 := tag_len hEl
    have HCC : Hid (∀ W, Below u2.heap.size u2 W → W.rangeAt (w.heap.size + 1) 0 (K.map byt) ∧ W.rangeAt w2.heap.size 0 (E.map byt)) := Lib.hid fun W hb => ⟨TGRow.range (Whole.below (Whole.below HK.out HB2.out (by omega)) hb (by omega)), TGRow.range (Whole.below HT2.out hb (by omega))⟩
    simp only [Act.put]
    go_cut [12] (fun s wx => ∃ (g12 : Nat) (D : Option Addr) (dc : Nat), s = .pointer (some ⟨g12, 0, none⟩) ∧ Whole wx g12 62 (mcl ⟨⟨K, m, E⟩, D, dc⟩).toArray ∧ Bytes wx (fun b => p.heap.size ≤ b) (.slice D m.length dc) m ∧ Below u2.heap.size u2 wx)
    case first =>
      have bU0 : Below u2.heap.size u2 u2.drew := (Below.refl _ _).drew
      refine wp_region_held_drew (S := fun W => W.rangeAt (w.heap.size + 1) 0 (K.map byt) ∧ W.rangeAt w2.heap.size 0 (E.map byt)) (by kernel_rfl) (HCC.out _ bU0) (fun hHeld => ?_)
      generalize u2.drew = U0 at bU0 hHeld ⊢
      have bU := bU0
      apply wpAnyH_take (i := 0) rfl (by kernel_rfl) (by kernel_rfl) (by kernel_rfl)
      case hQ => exact fun _ _ _ h => h
      case hS => exact hHeld
      case hy => exact yieldsIf_load_mid (by rfl) 28 _ rfl (w.heap.size + 1) (0) rfl (K.map byt) _ (fun w hS => hS.1) Tryd.underlying28 rfl (by rw [tagSize, hKl])
      (try simp only [List.getElem_toArray, List.getElem_cons_zero, Act.put, List.setIfInBounds_toArray, List.set_cons_zero, List.set_cons_succ])
      apply wpAnyH_take (i := 1) rfl (by kernel_rfl) (by kernel_rfl) (by kernel_rfl)
      case hQ => exact fun _ _ _ h => h
      case hS => exact hHeld
      case hy => (refine Or.inl ⟨by rfl, ?_⟩; intro w hSw; (try go_split_ands); go_simp; (try with_reducible rfl))
      (try simp only [List.getElem_toArray, List.getElem_cons_succ, List.getElem_cons_zero, Act.put, List.setIfInBounds_toArray, List.set_cons_zero, List.set_cons_succ])
      apply wpAnyH_take (i := 3) rfl (by kernel_rfl) (by kernel_rfl) (by kernel_rfl)
      case hQ => exact fun _ _ _ h => h
      case hS => exact hHeld
      case hy => exact yieldsIf_load_mid (by rfl) 28 _ rfl w2.heap.size (0) rfl (E.map byt) _ (fun w hS => hS.2) Tryd.underlying28 rfl (by rw [tagSize, hEl2])
      (try simp only [List.getElem_toArray, List.getElem_cons_succ, List.getElem_cons_zero, Act.put, List.setIfInBounds_toArray, List.set_cons_zero, List.set_cons_succ])
      refine wpAnyH_ready (rs := [2, 5]) (by kernel_rfl) (by simp) ?_
      refine AllReadyH.cons rfl (fun KK hKK => ?_) (AllReadyH.cons rfl (fun KK hKK => ?_) AllReadyH.nil)
      · (try simp only [List.getElem_toArray, List.getElem_cons_succ, List.getElem_cons_zero])
        go_simp
        go_at_call 29
        refine (clone _ m _ U0 (HM2.out.below bU (Nat.le_refl _)) (by omega)).mono ?_
        rintro e V1 ⟨vc, rfl, hv, hbv⟩
        obtain ⟨D, dc, rfl, -⟩ := id hv
        have bC : Below u2.heap.size u2 V1 := bU.trans (hbv.mono bU.size)
        have hsV : U0.heap.size ≤ V1.heap.size := hbv.size
        refine hKK.out _ _ (HCC.out _ bC) (fun hHeld => ?_)
        clear hKK KK
        (try simp only [List.getElem_toArray, List.getElem_cons_succ, List.getElem_cons_zero, Act.put, List.setIfInBounds_toArray, List.set_cons_zero, List.set_cons_succ])
        apply wpAnyH_take (i := 4) rfl (by kernel_rfl) (by kernel_rfl) (by kernel_rfl)
        case hQ => exact fun _ _ _ h => h
        case hS => exact hHeld
        case hy => exact yieldsIf_build_mac (by rfl) _ _ _ rfl (e := ⟨K, m, E⟩) hK hEl rfl rfl rfl
        (try simp only [List.getElem_toArray, List.getElem_cons_succ, List.getElem_cons_zero, Act.put, List.setIfInBounds_toArray, List.set_cons_zero, List.set_cons_succ])
        refine wpAnyH_ready (rs := [5]) (by kernel_rfl) (by simp) ?_
        refine AllReadyH.cons rfl (fun KK hKK => ?_) AllReadyH.nil
        (try simp only [List.getElem_toArray, List.getElem_cons_succ, List.getElem_cons_zero])
        obtain ⟨g12, hg12⟩ : ∃ g, g = V1.heap.size := ⟨_, rfl⟩
        obtain ⟨V0, hV0⟩ : ∃ x, x = V1.alloc (.cells zmr 62) := ⟨_, rfl⟩
        have hz0 : Whole V0 g12 62 zmr := by rw [hV0, hg12]; exact Whole.here _ _ _
        have bA : Below u2.heap.size u2 V0 := by rw [hV0]; exact bC.alloc bC.size _
        have hgl : u2.heap.size ≤ g12 := by rw [hg12]; exact bC.size
        have hv2 : Bytes V0 (fun b => b ≠ g12 ∧ p.heap.size ≤ b) (.slice D m.length dc) m := by rw [hV0]; exact (hv.mono (Q' := fun b => b ≠ g12 ∧ p.heap.size ≤ b) fun b hb hq => ⟨by omega, by have := bU.size; omega⟩).alloc _
        go_simp
        change KK _ (World.alloc _ (.cells zmr 62))
        rw [← hg12, ← hV0]
        clear hV0 hg12
        refine hKK.out _ _ (HCC.out _ bA) (fun hHeld => ?_)
        clear hKK KK
        (try simp only [List.getElem_toArray, List.getElem_cons_succ, List.getElem_cons_zero, Act.put, List.setIfInBounds_toArray, List.set_cons_zero, List.set_cons_succ])
        refine wpAnyH_ready (rs := [6]) (by kernel_rfl) (by simp) ?_
        refine AllReadyH.cons rfl (fun KK hKK => ?_) AllReadyH.nil
        (try simp only [List.getElem_toArray, List.getElem_cons_succ, List.getElem_cons_zero])
        obtain ⟨V2, hV2⟩ : ∃ x, x = V0.setRow g12 (mcl ⟨⟨K, m, E⟩, D, dc⟩).toArray := ⟨_, rfl⟩
        have hr2 : Whole V2 g12 62 (mcl ⟨⟨K, m, E⟩, D, dc⟩).toArray := by rw [hV2]; exact Whole.setRow hz0 _
        have bD : Below u2.heap.size u2 V2 := by rw [hV2]; exact below_setRow bA hgl _
        have hv3 : Bytes V2 (fun b => b ≠ g12 ∧ p.heap.size ≤ b) (.slice D m.length dc) m := by rw [hV2]; exact Bytes.setRow hv2 (fun _ h => h.1) _
        rw [if_pos (by kernel_rfl)]
        refine wp_store_row 62 _ _ rfl g12 _ rfl rfl 62 _ hz0 (by rw [macSize, mcl_size]) (by rw [zmr_size, mcl_size]) (all_oneCell_toArray (mcl_one _)) ?_
        rw [← hV2]
        clear hV2
        refine hKK.out _ _ (HCC.out _ bD) (fun hHeld => ?_)
        clear hKK KK
        (try simp only [List.getElem_toArray, List.getElem_cons_succ, List.getElem_cons_zero, Act.put, List.setIfInBounds_toArray, List.set_cons_zero, List.set_cons_succ])
        refine wpAnyH_done (by kernel_rfl) ?_ _
        go_wp2_with fail
        go_meet
        exact ⟨g12, D, dc, rfl, hr2, hv3.mono fun _ _ h => h.2, bD⟩
      · (try simp only [List.getElem_toArray, List.getElem_cons_succ, List.getElem_cons_zero])
        obtain ⟨g12, hg12⟩ : ∃ g, g = U0.heap.size := ⟨_, rfl⟩
        obtain ⟨V0, hV0⟩ : ∃ x, x = U0.alloc (.cells zmr 62) := ⟨_, rfl⟩
        have hz0 : Whole V0 g12 62 zmr := by rw [hV0, hg12]; exact Whole.here _ _ _
        have bA : Below u2.heap.size u2 V0 := by rw [hV0]; exact bU.alloc bU.size _
        have hgl : u2.heap.size ≤ g12 := by rw [hg12]; exact bU.size
        go_simp
        change KK _ (World.alloc _ (.cells zmr 62))
        rw [← hg12, ← hV0]
        clear hV0 hg12
        refine hKK.out _ _ (HCC.out _ bA) (fun hHeld => ?_)
        clear hKK KK
        (try simp only [List.getElem_toArray, List.getElem_cons_succ, List.getElem_cons_zero, Act.put, List.setIfInBounds_toArray, List.set_cons_zero, List.set_cons_succ])
        refine wpAnyH_ready (rs := [2]) (by kernel_rfl) (by simp) ?_
        refine AllReadyH.cons rfl (fun KK hKK => ?_) AllReadyH.nil
        (try simp only [List.getElem_toArray, List.getElem_cons_succ, List.getElem_cons_zero])
        go_simp
        go_at_call 29
        refine (clone _ m _ V0 (HM2.out.below bA (Nat.le_refl _)) (by omega)).mono ?_
        rintro e V1 ⟨vc, rfl, hv, hbv⟩
        obtain ⟨D, dc, rfl, -⟩ := id hv
        have bC : Below u2.heap.size u2 V1 := bA.trans (hbv.mono bA.size)
        have hz1 : Whole V1 g12 62 zmr := Whole.below hz0 hbv hz0.lt
        have hv2 : Bytes V1 (fun b => b ≠ g12 ∧ p.heap.size ≤ b) (.slice D m.length dc) m := hv.mono fun b _ hb => ⟨by have := hz0.lt; omega, by have := bA.size; omega⟩
        refine hKK.out _ _ (HCC.out _ bC) (fun hHeld => ?_)
        clear hKK KK
        (try simp only [List.getElem_toArray, List.getElem_cons_succ, List.getElem_cons_zero, Act.put, List.setIfInBounds_toArray, List.set_cons_zero, List.set_cons_succ])
        apply wpAnyH_take (i := 4) rfl (by kernel_rfl) (by kernel_rfl) (by kernel_rfl)
        case hQ => exact fun _ _ _ h => h
        case hS => exact hHeld
        case hy => exact yieldsIf_build_mac (by rfl) _ _ _ rfl (e := ⟨K, m, E⟩) hK hEl rfl rfl rfl
        (try simp only [List.getElem_toArray, List.getElem_cons_succ, List.getElem_cons_zero, Act.put, List.setIfInBounds_toArray, List.set_cons_zero, List.set_cons_succ])
        refine wpAnyH_ready (rs := [6]) (by kernel_rfl) (by simp) ?_
        refine AllReadyH.cons rfl (fun KK hKK => ?_) AllReadyH.nil
        (try simp only [List.getElem_toArray, List.getElem_cons_succ, List.getElem_cons_zero])
        obtain ⟨V2, hV2⟩ : ∃ x, x = V1.setRow g12 (mcl ⟨⟨K, m, E⟩, D, dc⟩).toArray := ⟨_, rfl⟩
        have hr2 : Whole V2 g12 62 (mcl ⟨⟨K, m, E⟩, D, dc⟩).toArray := by rw [hV2]; exact Whole.setRow hz1 _
        have bD : Below u2.heap.size u2 V2 := by rw [hV2]; exact below_setRow bC hgl _
        have hv3 : Bytes V2 (fun b => b ≠ g12 ∧ p.heap.size ≤ b) (.slice D m.length dc) m := by rw [hV2]; exact Bytes.setRow hv2 (fun _ h => h.1) _
        rw [if_pos (by kernel_rfl)]
        refine wp_store_row 62 _ _ rfl g12 _ rfl rfl 62 _ hz1 (by rw [macSize, mcl_size]) (by rw [zmr_size, mcl_size]) (all_oneCell_toArray (mcl_one _)) ?_
        rw [← hV2]
        clear hV2
        refine hKK.out _ _ (HCC.out _ bD) (fun hHeld => ?_)
        clear hKK KK
        (try simp only [List.getElem_toArray, List.getElem_cons_succ, List.getElem_cons_zero, Act.put, List.setIfInBounds_toArray, List.set_cons_zero, List.set_cons_succ])
        refine wpAnyH_done (by kernel_rfl) ?_ _
        go_wp2_with fail
        go_meet
        exact ⟨g12, D, dc, rfl, hr2, hv3.mono fun _ _ h => h.2, bD⟩
    case rest =>
      obtain ⟨g12, D, dc, rfl, hrow, hv, hb3⟩ := hcut
      rename World => wc
      have hpu3 : p.heap.size ≤ u2.heap.size := HB2.out.size
      have HB3 : Hid (Below p.heap.size p wc) := Lib.hid (HB2.out.trans (hb3.mono hpu3))
      have hpc : p.heap.size ≤ wc.heap.size := HB3.out.size
      have HT3 : Hid (TGRow wc w2.heap.size E) := Lib.hid (Whole.below HT2.out hb3 (by omega))
      obtain ⟨L1, hL1, hS1, hB1⟩ := HMC.out
      have hL1l : L1.length = a.macs.length := by rw [← hL1, List.length_map]
      obtain ⟨X, hX⟩ : ∃ X : MeM, X = ⟨⟨K, m, E⟩, D, dc⟩ := ⟨_, rfl⟩
      have hXm : m.length ≤ 4096 := by omega
      have hXok : mok X := by rw [hX]; exact ⟨hK, hEl, by show m.length ≤ 5000; omega⟩
      have hXe : X.e = ⟨K, m, E⟩ := by rw [hX]
      have hv' : Bytes wc (fun b => p.heap.size ≤ b) (.slice X.A X.e.msg.length X.c) X.e.msg := by rw [hX]; exact hv
      rw [← hX] at hrow
      obtain ⟨W5, hW5⟩ : ∃ x, x = (wc.alloc (.cells (mcl X).toArray 62)).alloc (.cells #[.slice Am a.macs.length cm, .slice (some ⟨wc.heap.size, 0, none⟩) 1 1] 29) := ⟨_, rfl⟩
      have hb5 : Below wc.heap.size wc W5 := by rw [hW5]; exact ((Below.refl _ _).alloc (Nat.le_refl _) _).alloc (by simp) _
      have hx1 : Whole W5 wc.heap.size 62 (mcl X).toArray := by rw [hW5]; exact (Whole.here _ _ _).alloc _
      have hx2 : Whole W5 (wc.heap.size + 1) 29 #[.slice Am a.macs.length cm, .slice (some ⟨wc.heap.size, 0, none⟩) 1 1] := by rw [hW5]; exact Whole.at_ _ _ _ _ (by simp)
      have HB5 : Hid (Below p.heap.size p W5) := Lib.hid (HB3.out.trans (hb5.mono hpc))
      have hcl := concatm (wc.heap.size + 1) Am (some ⟨wc.heap.size, 0, none⟩) cm 1 L1 [X] Q _ W5 (by rw [hL1l]; exact hx2.cell 0) (hx2.cell 1) (hS1.below (HB.out.trans (HB5.out.mono (by omega))) (Nat.le_refl _)) (seq_one hx1 rfl hXok) (by simp) (by have := HLN.out; simp only [List.length_singleton]; omega)
      have HROW := Lib.hid hrow
      have HBC := Lib.hid hb5
      have hcs : wc.heap.size ≤ W5.heap.size := hb5.size
      have hw2c : w2.heap.size < wc.heap.size := Whole.lt HT3.out
      have HV := Lib.hid (hv'.below hb5 (Nat.le_refl _))
      obtain ⟨c0, c33, c34, c35⟩ := ALRow.cells (Whole.below HR.out HB3.out (by omega))
      have HL1 := Lib.hid hL1
      have HB1 := Lib.hid hB1
      have HOK : Hid (∀ x ∈ L1 ++ [X], mok x) := Lib.hid fun x hx => by
        rcases List.mem_append.1 hx with h | h
        · exact hS1.2.2.2.1 x h
        · rw [List.mem_singleton.1 h]; exact hXok
      have hp5 : p.heap.size ≤ W5.heap.size := HB5.out.size
      have HXE := Lib.hid hXe
      clear c0 c33 c35 hL1 hB1 hS1 hL1l hX hXok hXe hv hv' hrow hb5 hx1 hx2 hXm hb3
      go_wp2_with (first
        | (with_reducible refine wpList_load_mac rfl _ rfl rfl HROW.out (mcl_size _) ?_)
        | (with_reducible refine wpList_buildSlice_mac rfl _ rfl wc.heap.size rfl _ rfl rfl ?_))
      rw [← hW5]
      clear hW5
      refine hcl.mono ?_
      rintro e w4 ⟨v', rfl, ho, hb4⟩
      obtain ⟨A5, c5, rfl, hS5⟩ := OwnS.seq ho HOK.out
      obtain ⟨n5, hn5⟩ : ∃ n, n = (L1 ++ [X]).length := ⟨_, rfl⟩
      rw [← hn5]
      have HN5 := Lib.hid hn5
      have HB4 : Hid (Below p.heap.size p w4) := Lib.hid (HB5.out.trans (hb4.mono hp5))
      have HS5 := Lib.hid (hS5.mono (Q' := fun g => p.heap.size ≤ g) fun g _ h => Nat.le_trans hp5 h)
      have HV4 := Lib.hid (HV.out.below hb4 (Nat.le_refl _))
      have hp4 : p.heap.size ≤ w4.heap.size := HB4.out.size
      have hr4 := Whole.below HR.out HB4.out (by omega)
      have HR4 := Lib.hid hr4
      obtain ⟨d0, d33, d34, d35⟩ := ALRow.cells hr4
      have f34 := ALRow.frees hr4 34
      have HT4 : Hid (TGRow w4 w2.heap.size E) := Lib.hid (Whole.below (Whole.below HT3.out HBC.out (by omega)) hb4 (by omega))
      clear hcl c34 ho hn5 hS5 hr4 d0 d33 d35 hb4
      go_upto_region 11 with fail
      obtain ⟨u5, hu⟩ : ∃ x, x = w4.setCell ⟨w.heap.size, 34, none⟩ (.slice A5 n5 c5) := ⟨_, rfl⟩
      have hru : ALRow u5.drew w.heap.size a.free a.seed a.fresh (.slice A5 n5 c5) (.slice Ab a.boxes.length cb) := by rw [hu]; exact Whole.drew (ALRow.set34 HR4.out _)
      have h6u : Whole u5.drew (w.heap.size + 1 + 1) 32 zar := by rw [hu]; exact Whole.drew (Whole.far (Whole.below H6.out HB4.out (by omega)) (by show _ ≠ w.heap.size; omega) _)
      have h7u : Whole u5.drew (w.heap.size + 1 + 1 + 1) 28 ztr := by rw [hu]; exact Whole.drew (Whole.far (Whole.below H7.out HB4.out (by omega)) (by show _ ≠ w.heap.size; omega) _)
      have htu : TGRow u5.drew w2.heap.size E := by rw [hu]; exact Whole.drew (Whole.far HT4.out (by show _ ≠ w.heap.size; omega) _)
      have bbu : Below w.heap.size w u5.drew := by rw [hu]; exact ((HB.out.trans (HB4.out.mono (by omega))).setCell (p := ⟨w.heap.size, 34, none⟩) (Nat.le_refl _) _).drew
      have kp0 : ∀ b, p.heap.size ≤ b → u5.drew.heap[b]? = w4.heap[b]? := by rw [hu]; exact fun b hb => heap_setCell_other w4 ⟨w.heap.size, 34, none⟩ b _ (by show b ≠ w.heap.size; omega)
      have sz0 : w4.heap.size ≤ u5.drew.heap.size := by rw [hu]; exact ((Below.refl 0 w4).setCell (p := ⟨w.heap.size, 34, none⟩) (Nat.zero_le _) _).size
      rw [← hu]
      clear hu d34 f34
      refine wp_region_held_drew (S := fun W => W.rangeAt w.heap.size 0 (alcl a.free a.seed a.fresh (.slice A5 n5 c5) (.slice Ab a.boxes.length cb)) ∧ W.rangeAt w2.heap.size 0 ((E).map byt)) (by kernel_rfl) (⟨Whole.range hru, TGRow.range htu⟩) (fun hHeld => ?_)
      apply wpAnyH_take (i := 0) rfl (by kernel_rfl) (by kernel_rfl) (by kernel_rfl)
      case hQ => exact fun _ _ _ h => h
      case hS => exact hHeld
      case hy => exact yieldsIf_load_mid (by rfl) 32 _ rfl w.heap.size (0) rfl (alcl a.free a.seed a.fresh (.slice A5 n5 c5) (.slice Ab a.boxes.length cb)) _ (fun w hS => hS.1) Tryd.underlying32 rfl (by rw [algSize, alcl_length])
      (try simp only [List.getElem_toArray, List.getElem_cons_zero, Act.put, List.setIfInBounds_toArray, List.set_cons_zero, List.set_cons_succ])
      apply wpAnyH_take (i := 1) rfl (by kernel_rfl) (by kernel_rfl) (by kernel_rfl)
      case hQ => exact fun _ _ _ h => h
      case hS => exact hHeld
      case hy => exact yieldsIf_load_mid (by rfl) 28 _ rfl w2.heap.size (0) rfl ((E).map byt) _ (fun w hS => hS.2) Tryd.underlying28 rfl (by rw [tagSize, tag_len (hEl)])
      (try simp only [List.getElem_toArray, List.getElem_cons_succ, List.getElem_cons_zero, Act.put, List.setIfInBounds_toArray, List.set_cons_zero, List.set_cons_succ])
      refine wpAnyH_ready (rs := [2]) (by kernel_rfl) (by simp) ?_
      refine AllReadyH.cons rfl (fun KK hKK => ?_) AllReadyH.nil
      (try simp only [List.getElem_toArray, List.getElem_cons_succ, List.getElem_cons_zero])
      obtain ⟨X1, hX1⟩ : ∃ x, x = u5.drew.setRow (w.heap.size + 1 + 1) ((alcl a.free a.seed a.fresh (.slice A5 n5 c5) (.slice Ab a.boxes.length cb)).toArray) := ⟨_, rfl⟩
      have hsX1 : ALRow X1 w.heap.size a.free a.seed a.fresh (.slice A5 n5 c5) (.slice Ab a.boxes.length cb) := by rw [hX1]; exact Whole.setRow_far hru (by omega) _
      have e1 : Whole X1 (w.heap.size + 1 + 1) 32 (alc a.free a.seed a.fresh (.slice A5 n5 c5) (.slice Ab a.boxes.length cb)) := by rw [hX1]; exact Whole.setRow h6u _
      have h7X1 : Whole X1 (w.heap.size + 1 + 1 + 1) 28 ztr := by rw [hX1]; exact Whole.setRow_far h7u (by omega) _
      have bbX1 : Below w.heap.size w X1 := by rw [hX1]; exact below_setRow bbu (by omega) _
      have htX1 : TGRow X1 w2.heap.size (E) := by rw [hX1]; exact Whole.setRow_far htu (by omega) _
      have kpX1 : ∀ b, p.heap.size ≤ b → X1.heap[b]? = w4.heap[b]? := by rw [hX1]; exact fun b hb => (setRow_other _ _ b _ (by omega)).trans (kp0 b hb)
      have szX1 : w4.heap.size ≤ X1.heap.size := by rw [hX1]; exact Nat.le_trans sz0 (below_setRow (B := 0) (Below.refl 0 _) (Nat.zero_le _) _).size
      rw [if_pos (by kernel_rfl)]
      refine wp_store_row 32 _ _ rfl (w.heap.size + 1 + 1) _ rfl rfl 32 _ h6u (by rw [algSize, List.size_toArray, alcl_length]) (by rw [zar_size, List.size_toArray, alcl_length]) (alc_one _ _ _ _ _ _ _ _ _) ?_
      rw [← hX1]
      clear hX1
      refine hKK.out _ _ (⟨Whole.range hsX1, TGRow.range htX1⟩) (fun hHeld => ?_)
      clear hKK KK
      (try simp only [List.getElem_toArray, List.getElem_cons_succ, List.getElem_cons_zero, Act.put, List.setIfInBounds_toArray, List.set_cons_zero, List.set_cons_succ])
      refine wpAnyH_ready (rs := [3]) (by kernel_rfl) (by simp) ?_
      refine AllReadyH.cons rfl (fun KK hKK => ?_) AllReadyH.nil
      (try simp only [List.getElem_toArray, List.getElem_cons_succ, List.getElem_cons_zero])
      have e1o := e1
      clear e1
      obtain ⟨X2, hX2⟩ : ∃ x, x = X1.setRow (w.heap.size + 1 + 1 + 1) (((E).map byt).toArray) := ⟨_, rfl⟩
      have hsX2 : ALRow X2 w.heap.size a.free a.seed a.fresh (.slice A5 n5 c5) (.slice Ab a.boxes.length cb) := by rw [hX2]; exact Whole.setRow_far hsX1 (by omega) _
      have e1 : Whole X2 (w.heap.size + 1 + 1) 32 (alc a.free a.seed a.fresh (.slice A5 n5 c5) (.slice Ab a.boxes.length cb)) := by rw [hX2]; exact Whole.setRow_far e1o (by omega) _
      have e2 : TGRow X2 (w.heap.size + 1 + 1 + 1) (E) := by rw [hX2]; exact Whole.setRow h7X1 _
      have bbX2 : Below w.heap.size w X2 := by rw [hX2]; exact below_setRow bbX1 (by omega) _
      have htX2 : TGRow X2 w2.heap.size (E) := by rw [hX2]; exact Whole.setRow_far htX1 (by omega) _
      have kpX2 : ∀ b, p.heap.size ≤ b → X2.heap[b]? = w4.heap[b]? := by rw [hX2]; exact fun b hb => (setRow_other _ _ b _ (by omega)).trans (kpX1 b hb)
      have szX2 : w4.heap.size ≤ X2.heap.size := by rw [hX2]; exact Nat.le_trans szX1 (below_setRow (B := 0) (Below.refl 0 _) (Nat.zero_le _) _).size
      rw [if_pos (by kernel_rfl)]
      refine wp_store_row 28 _ _ rfl (w.heap.size + 1 + 1 + 1) _ rfl rfl 28 _ h7X1 (by rw [tagSize, tag_size (hEl)]) (by rw [ztr_size, tag_size (hEl)]) (tag_one _) ?_
      rw [← hX2]
      clear hX2
      refine hKK.out _ _ (⟨Whole.range hsX2, TGRow.range htX2⟩) (fun hHeld => ?_)
      clear hKK KK
      (try simp only [List.getElem_toArray, List.getElem_cons_succ, List.getElem_cons_zero, Act.put, List.setIfInBounds_toArray, List.set_cons_zero, List.set_cons_succ])
      apply wpAnyH_take (i := 4) rfl (by kernel_rfl) (by kernel_rfl) (by kernel_rfl)
      case hQ => exact fun _ _ _ h => h
      case hS => exact hHeld
      case hy => (refine Or.inl ⟨by rfl, ?_⟩; intro w hSw; (try go_split_ands); go_simp; (try with_reducible rfl))
      (try simp only [List.getElem_toArray, List.getElem_cons_succ, List.getElem_cons_zero, Act.put, List.setIfInBounds_toArray, List.set_cons_zero, List.set_cons_succ])
      refine wpAnyH_done (by kernel_rfl) ?_ _
      go_wp2_with fail
      have hbf := bbX2
      refine bodyPost_ret (results_alg3 Tryd.results10 _ rfl rfl _ rfl (alc_size _ _ _ _ _) (tag_size (hEl)) e1 e2) rfl ?_
      show AlgR _ _ _ R ∧ _
      rw [HRR.out]
      refine ⟨⟨_, rfl, ?_⟩, hbf⟩
      rw [HN5.out]
      have h := alv_more (a := a) (X := X) HL1.out (fun x hx => ((HB1.out x hx).below hbf (Nat.le_refl _)).mono fun _ _ h => .inl h) ((HS5.out.keep szX2 fun g _ hq => kpX2 g hq).mono fun g _ h => (by omega : w.heap.size ≤ g)) ((HV4.out.keep fun g _ hq => kpX2 g hq).mono fun g _ h => (by omega : w.heap.size ≤ g)) (HBX.out.below hbf (Nat.le_refl _)) HA.out HLN.out
      rw [HXE.out] at h
      exact h
end Go.Proofs.YtknhnkmooaopmaaDoor
