/-
  ChnMnt
-/
import Derived.Deep.CutBlock
import Derived.Deep.DeepCutAuto
import Derived.Deep.RegionHeld3
import Derived.Test.YtiikhjifjdpgdaaDoorKSq
import Derived.Test.YtiikhjifjdpgdaaDoorPk22
import Derived.Test.YtiikhjifjdpgdaaDoorPk26
namespace Go.Proofs.YtiikhjifjdpgdaaDoor
open Go Go.RowKit Sh Leaf

def cMnP (p : World) (R : Alg × List B8 × Int) (PQ : Nat → Prop) (s9 s10 s11 : Value) (wx : World) : Prop := ∃ (G9 G10 : Nat) (Am Ab : Option Addr) (cm cb : Nat), s9 = .pointer (some ⟨G9, 0, none⟩) ∧ s10 = .pointer (some ⟨G10, 0, none⟩) ∧ s11 = .int .i64 R.2.2 ∧ ALRow wx G9 R.1.free R.1.seed R.1.fresh (.slice Am R.1.macs.length cm) (.slice Ab R.1.boxes.length cb) ∧ TGRow wx G10 R.2.1 ∧ AlV wx (fun g => PQ g ∧ g ≠ G9 ∧ g ≠ G10) (.agg (alc R.1.free R.1.seed R.1.fresh (.slice Am R.1.macs.length cm) (.slice Ab R.1.boxes.length cb))) R.1 ∧ Below p.heap.size p wx ∧ p.heap.size ≤ G9 ∧ p.heap.size ≤ G10
theorem cepl_num {w : World} {g : Nat} {z : Int} {K : List B8} (h : Whole w g 49 (epl z K).toArray) : w.cell? ⟨g, 0, none⟩ = some (.int .i64 z) := by
  rw [Whole.cell h]; rfl
theorem cepl_key {w : World} {g : Nat} {z : Int} {K : List B8} (hK : K.length = 32) (h : Whole w g 49 (epl z K).toArray) : w.rangeAt g 1 (K.map byt) := fun i v hv => by
  rw [Whole.cell h, List.getElem?_toArray]
  unfold epl
  rw [p32_eq hK, show 1 + i = i + 1 by omega, List.getElem?_cons_succ]
  exact hv
set_option linter.unusedSimpArgs false in
set_option linter.unusedVariables false in
set_option maxRecDepth 100000 in
set_option maxHeartbeats 8000000 in
theorem cmint {w : World} {Q : Nat → Prop} {x : Value} {a : Alg} {K : List B8} (z s : Int) (hx : AlV w Q x a) (hlen : a.macs.length < 800) (hlK : K.length = 32) (hT : Tables w) :
    Calls Tryd.prog 19 #[x, .agg (epl z K).toArray, .int .i64 s] w fun e w' => PssR w' (fun g => Q g ∨ w.heap.size ≤ g) e (pMint a z K s) ∧ Below w.heap.size w w' := by
  obtain ⟨Ama, cma, Aba, cba, rfl, hM, hBx, hA⟩ := id hx
  obtain ⟨p, hp⟩ : ∃ p, p = (((w.alloc (.cells (alc a.free a.seed a.fresh (.slice Ama a.macs.length cma) (.slice Aba a.boxes.length cba)) 32)).alloc (.cells (epl z K).toArray 49)).alloc (.cells zar 32)).alloc (.cells zps 51) := ⟨_, rfl⟩
  have hr : ALRow p w.heap.size a.free a.seed a.fresh (.slice Ama a.macs.length cma) (.slice Aba a.boxes.length cba) := by rw [hp]; exact (((Whole.here _ _ _).alloc _).alloc _).alloc _
  have hk : Whole p (w.heap.size + 1) 49 (epl z K).toArray := by rw [hp]; exact ((Whole.at_ _ _ _ _ (by simp)).alloc _).alloc _
  have h6 : Whole p (w.heap.size + 1 + 1) 32 zar := by rw [hp]; exact (Whole.at_ _ _ _ _ (by simp)).alloc _
  have h7 : Whole p (w.heap.size + 1 + 1 + 1) 51 zps := by rw [hp]; exact Whole.at_ _ _ _ _ (by simp)
  have hb : Below w.heap.size w p := by rw [hp]; exact ((((Below.refl _ _).alloc (Nat.le_refl _) _).alloc (by simp) _).alloc (by simp; omega) _).alloc (by simp; omega) _
  have hps : (w.heap.size + 1 + 1 + 1) < p.heap.size := h7.lt
  have hcz := cepl_num hk
  have hxp := (hx.mono (Q' := fun g => Q g ∧ g < w.heap.size) fun g hg hq => ⟨hq, hg⟩).below hb (Nat.le_refl _)
  obtain ⟨R0, hR0⟩ : ∃ R, R = pMint a z K s := ⟨_, rfl⟩
  rw [← hR0]
  unfold pMint at hR0
  have HR0 := Lib.hid hR0
  have HXP := Lib.hid hxp
  have HTP := Lib.hid (hT.below (Nat.le_refl _) hb)
  have H1 : Hid (Below w.heap.size w p) := Lib.hid (hb)
  have H2 : Hid (ALRow p w.heap.size a.free a.seed a.fresh (.slice Ama a.macs.length cma) (.slice Aba a.boxes.length cba)) := Lib.hid (hr)
  have H3 : Hid (Whole p (w.heap.size + 1) 49 (epl z K).toArray) := Lib.hid (hk)
  have H4 : Hid (Whole p (w.heap.size + 1 + 1) 32 zar) := Lib.hid (h6)
  have H5 : Hid (Whole p (w.heap.size + 1 + 1 + 1) 51 zps) := Lib.hid (h7)
  have hl32 : ∀ m, (aNode a K m).2.1.length = 32 := fun m => by
    unfold aNode
    split
    · simp
    split
    · simp
    · exact AlV.mac_len hx _ _
  have HL32 := Lib.hid hl32
  clear hR0 hb hr hk h6 h7 hx hxp hM hBx hA hl32 hT
  have hcl := cismint z s p
  obtain ⟨D, hD⟩ : ∃ D, D = decide (minto z s) := ⟨_, rfl⟩
  rw [← hD] at hcl
  have HD := Lib.hid hD
  clear hD
  go_enter Tryd.func19, Tryd.ntmps19
  go_upto_region 1 with fail
  rw [zar_lit, zps_lit, ← hp]
  clear hp
  go_wp2_with fail
  refine hcl.mono ?_
  rintro e w1 ⟨rfl, hw1⟩
  replace hw1 := hw1.symm
  subst hw1
  clear hcl
  cases D
  case false =>
    have hmi : ¬ minto z s := of_decide_eq_false HD.out.symm
    have HRR : Hid (R0 = (zalg, zpss, 1)) := Lib.hid (by rw [HR0.out, if_neg hmi])
    clear hmi
    go_wp2_with (first
      | (with_reducible refine wpList_store_alg rfl _ _ rfl (g := (w.heap.size + 1 + 1)) rfl rfl H4.out zar_size rfl (by with_unfolding_all rfl) ?_)
      | (with_reducible refine wpList_store_pass rfl _ _ rfl (g := (w.heap.size + 1 + 1 + 1)) rfl rfl (Whole.setRow_far H5.out (by omega) _) zps_size rfl (by with_unfolding_all rfl) ?_))
    rw [zar_lit, zps_lit]
    have e1 := Whole.setRow_far (Whole.setRow H4.out zar) (g' := (w.heap.size + 1 + 1 + 1)) (by omega) zps
    have e2 := Whole.setRow (Whole.setRow_far H5.out (g' := (w.heap.size + 1 + 1)) (by omega) zar) zps
    refine bodyPost_ret (results_pass3 Tryd.results19 _ rfl rfl _ rfl zar_size zps_size e1 e2) rfl ?_
    rw [HRR.out]
    exact ⟨⟨_, _, rfl, alv_zero _ _, pss_zero _ _⟩, below_setRow (below_setRow H1.out (by omega) _) (by omega) _⟩
  have hmi : minto z s := of_decide_eq_true HD.out.symm
  obtain ⟨n, rfl⟩ := Int.eq_ofNat_of_zero_le (show 0 ≤ s by have := hmi.2.2.1; omega)
  have hn : n ≤ 281474976710656 := by have := hmi.2.2.2; omega
  obtain ⟨m, hm⟩ : ∃ m, m = mintm n := ⟨_, rfl⟩
  obtain ⟨R, hR⟩ : ∃ R, R = aNode a K m := ⟨_, rfl⟩
  have hlT : R.2.1.length = 32 := by rw [hR]; exact HL32.out m
  have HR1 : Hid (R0 = if R.2.2 ≠ 0 then (zalg, zpss, R.2.2) else (R.1, ⟨z, (n : Int), [], R.2.1⟩, 0)) := Lib.hid (by rw [HR0.out, if_pos hmi, Int.toNat_natCast, ← hm, ← hR])
  have hml : m.length ≤ 100000 := by rw [hm]; have := mintm_len hn; omega
  have HMI := Lib.hid hmi
  have HRE := Lib.hid hR
  have hcm := fun W => cmintm n hn W
  rw [← hm] at hcm
  have HCM := Lib.hid hcm
  have hi1 : (1 : Int) ≤ z := hmi.1
  have hi2 : z ≤ 1000 := hmi.2.1
  have hi3 : (1 : Int) ≤ (n : Int) := hmi.2.2.1
  have hi4 : (n : Int) ≤ 1073741824 := hmi.2.2.2
  clear hR HR0 hm hcm HL32 hn
  clear hmi
  go_upto_region 3 with fail
  (try simp only [Act.put])
  clear hi1 hi2 hi3 hi4
  go_cut [9, 10, 11] (fun s9 s10 s11 wx => cMnP p R (fun g => (Q g ∧ g < w.heap.size) ∨ p.heap.size ≤ g) s9 s10 s11 wx)
  case first =>
    have HCC : Hid (∀ W, Below p.heap.size p W → (fun W : World => W.rangeAt w.heap.size 0 (alcl a.free a.seed a.fresh (.slice Ama a.macs.length cma) (.slice Aba a.boxes.length cba)) ∧ W.rangeAt (w.heap.size + 1) 1 (K.map byt)) W) := Lib.hid fun W hb => ⟨Whole.range (Whole.below H2.out hb (Whole.lt H2.out)), cepl_key hlK (Whole.below H3.out hb (Whole.lt H3.out))⟩
    have hb0 : Below p.heap.size p p.drew := Below.drew (Below.refl _ _)
    have hs0 : p.heap.size ≤ p.drew.heap.size := hb0.size
    refine wp_region_held_drew (S := fun W : World => W.rangeAt w.heap.size 0 (alcl a.free a.seed a.fresh (.slice Ama a.macs.length cma) (.slice Aba a.boxes.length cba)) ∧ W.rangeAt (w.heap.size + 1) 1 (K.map byt)) (by kernel_rfl) (HCC.out _ hb0) (fun hHeld => ?_)
    apply wpT (i := 0) rfl (by kernel_rfl)
    case hQ => exact fun _ _ _ h => h
    case hS => exact hHeld
    case hy => exact yieldsIf_load_mid (by rfl) 32 _ rfl w.heap.size (0) rfl ((alcl a.free a.seed a.fresh (.slice Ama a.macs.length cma) (.slice Aba a.boxes.length cba))) _ (fun w hS => hS.1) Tryd.underlying32 rfl (by rw [algSize, alcl_length])
    (try simp only [sq])
    apply wpT (i := 1) rfl (by kernel_rfl)
    case hQ => exact fun _ _ _ h => h
    case hS => exact hHeld
    case hy => (refine Or.inl ⟨by rfl, ?_⟩; intro w hSw; (try go_split_ands); go_simp; (try with_reducible rfl))
    (try simp only [sq])
    apply wpT (i := 2) rfl (by kernel_rfl)
    case hQ => exact fun _ _ _ h => h
    case hS => exact hHeld
    case hy => exact yieldsIf_load_mid (by rfl) 28 _ rfl (w.heap.size + 1) (1) rfl ((K.map byt)) _ (fun w hS => hS.2) Tryd.underlying28 rfl (by rw [tagSize, List.length_map, hlK])
    (try simp only [sq])
    apply wpT (i := 3) rfl (by kernel_rfl)
    case hQ => exact fun _ _ _ h => h
    case hS => exact hHeld
    case hy => (refine Or.inl ⟨by rfl, ?_⟩; intro w hSw; (try go_split_ands); go_simp; (try with_reducible rfl))
    (try simp only [sq])
    refine wpAnyH_ready (rs := [4, 10, 11]) (by kernel_rfl) (by simp) ?_
    refine AllReadyH.cons rfl (fun KK hKK => ?_) (AllReadyH.cons rfl (fun KK hKK => ?_) (AllReadyH.cons rfl (fun KK hKK => ?_) AllReadyH.nil))
    · (try simp only [sq])
      go_simp
      go_at_call 55
      refine (HCM.out p.drew).mono ?_
      rintro e V1 ⟨hx1, hv1⟩
      have hs1 : p.drew.heap.size ≤ V1.heap.size := hv1.size
      have hb1 := Below.trans hb0 (Below.mono hv1 (Below.size hb0))
      obtain ⟨B1, d1, rfl, hby1⟩ := hx1
      have mb_1 : Bytes V1 (fun _ => True) (.slice B1 m.length d1) m := hby1.mono fun _ _ _ => trivial
      refine hKK.out _ _ (HCC.out _ hb1) (fun hHeld => ?_)
      clear hKK KK
      (try simp only [sq])
      refine wpAnyH_ready (rs := [5, 10, 11]) (by kernel_rfl) (by simp) ?_
      refine AllReadyH.cons rfl (fun KK hKK => ?_) (AllReadyH.cons rfl (fun KK hKK => ?_) (AllReadyH.cons rfl (fun KK hKK => ?_) AllReadyH.nil))
      · (try simp only [sq])
        go_simp
        go_at_call 54
        refine (cnode (AlV.below HXP.out hb1 (Nat.le_refl _)) (by omega) hlK mb_1 hml (Tables.below HTP.out (Nat.le_refl _) hb1)).mono ?_
        rintro e V2 ⟨hx2, hv2⟩
        have hs2 : V1.heap.size ≤ V2.heap.size := hv2.size
        have hb2 := Below.trans hb1 (Below.mono hv2 (Below.size hb1))
        have mb_2 := Bytes.below mb_1 hv2 (Nat.le_refl _)
        rw [← HRE.out] at hx2
        obtain ⟨v2, rfl, hav2⟩ := hx2
        obtain ⟨Amb, cmb, Abb, cbb, rfl, hM, hBx, hA⟩ := id hav2
        clear hM hBx hA
        have va_2 : AlV V2 (fun g => (Q g ∧ g < w.heap.size) ∨ (V1.heap.size ≤ g ∧ g < V2.heap.size)) (.agg (alc R.1.free R.1.seed R.1.fresh (.slice Amb R.1.macs.length cmb) (.slice Abb R.1.boxes.length cbb))) R.1 := AlV.mono hav2 fun g hg hq => hq.elim (fun h => .inl h) (fun h => .inr ⟨h, hg⟩)
        refine hKK.out _ _ (HCC.out _ hb2) (fun hHeld => ?_)
        clear hKK KK
        (try simp only [sq])
        apply wpT (i := 6) rfl (by kernel_rfl)
        case hQ => exact fun _ _ _ h => h
        case hS => exact hHeld
        case hy => (refine Or.inl ⟨by rfl, ?_⟩; intro w hSw; (try go_split_ands); go_simp; (try with_reducible rfl))
        (try simp only [sq])
        apply wpT (i := 7) rfl (by kernel_rfl)
        case hQ => exact fun _ _ _ h => h
        case hS => exact hHeld
        case hy => (refine Or.inl ⟨by rfl, ?_⟩; intro w hSw; (try go_split_ands); go_simp; (try with_reducible rfl))
        (try simp only [sq])
        apply wpT (i := 8) rfl (by kernel_rfl)
        case hQ => exact fun _ _ _ h => h
        case hS => exact hHeld
        case hy => (refine Or.inl ⟨by rfl, ?_⟩; intro w hSw; (try go_split_ands); go_simp; (try with_reducible rfl))
        (try simp only [sq])
        apply wpT (i := 9) rfl (by kernel_rfl)
        case hQ => exact fun _ _ _ h => h
        case hS => exact hHeld
        case hy => (refine Or.inl ⟨by rfl, ?_⟩; intro w hSw; (try go_split_ands); go_simp; (try with_reducible rfl))
        (try simp only [sq])
        refine wpAnyH_ready (rs := [10, 11]) (by kernel_rfl) (by simp) ?_
        refine AllReadyH.cons rfl (fun KK hKK => ?_) (AllReadyH.cons rfl (fun KK hKK => ?_) AllReadyH.nil)
        · (try simp only [sq])
          go_simp
          rw [zar_lit]
          obtain ⟨V3, hV3⟩ : ∃ x, x = (V2).alloc (.cells zar 32) := ⟨_, rfl⟩
          have hv3 : Below V2.heap.size V2 V3 := by rw [hV3]; exact Below.alloc (Below.refl _ _) (Nat.le_refl _) _
          have hs3 : V2.heap.size < V3.heap.size := by rw [hV3]; simp
          have hb3 : Below p.heap.size p V3 := Below.trans hb2 (Below.mono hv3 (Below.size hb2))
          have va_3 := AlV.below va_2 hv3 (Nat.le_refl _)
          have r_x9_3 : Whole V3 (V2.heap.size) 32 zar := by rw [hV3]; exact Whole.here _ _ _
          have hpx9 : p.heap.size ≤ V2.heap.size := Below.size hb2
          rw [← hV3]
          clear hV3
          refine hKK.out _ _ (HCC.out _ hb3) (fun hHeld => ?_)
          clear hKK KK
          (try simp only [sq])
          refine wpAnyH_ready (rs := [11]) (by kernel_rfl) (by simp) ?_
          refine AllReadyH.cons rfl (fun KK hKK => ?_) AllReadyH.nil
          (try simp only [sq])
          go_simp
          rw [ztr_lit]
          obtain ⟨V4, hV4⟩ : ∃ x, x = (V3).alloc (.cells ztr 28) := ⟨_, rfl⟩
          have hv4 : Below V3.heap.size V3 V4 := by rw [hV4]; exact Below.alloc (Below.refl _ _) (Nat.le_refl _) _
          have hs4 : V3.heap.size < V4.heap.size := by rw [hV4]; simp
          have hb4 : Below p.heap.size p V4 := Below.trans hb3 (Below.mono hv4 (Below.size hb3))
          have va_4 := AlV.below va_3 hv4 (Nat.le_refl _)
          have r_x9_4 := Whole.below r_x9_3 hv4 (Whole.lt r_x9_3)
          have r_x10_4 : Whole V4 (V3.heap.size) 28 ztr := by rw [hV4]; exact Whole.here _ _ _
          have hpx10 : p.heap.size ≤ V3.heap.size := Below.size hb3
          rw [← hV4]
          clear hV4
          refine hKK.out _ _ (HCC.out _ hb4) (fun hHeld => ?_)
          clear hKK KK
          (try simp only [sq])
          refine wpAnyH_ready (rs := [12]) (by kernel_rfl) (by simp) ?_
          refine AllReadyH.cons rfl (fun KK hKK => ?_) AllReadyH.nil
          obtain ⟨V5, hV5⟩ : ∃ x, x = (V4).setRow (V2.heap.size) (alc R.1.free R.1.seed R.1.fresh (.slice Amb R.1.macs.length cmb) (.slice Abb R.1.boxes.length cbb)) := ⟨_, rfl⟩
          have va_5 : AlV V5 (fun g => (Q g ∧ g < w.heap.size) ∨ (V1.heap.size ≤ g ∧ g < V2.heap.size)) (.agg (alc R.1.free R.1.seed R.1.fresh (.slice Amb R.1.macs.length cmb) (.slice Abb R.1.boxes.length cbb))) R.1 := by rw [hV5]; exact AlV.keep va_4 (by simp) fun g _ hq => setRow_other _ _ _ _ (by omega)
          have r_x10_5 : Whole V5 (V3.heap.size) 28 ztr := by rw [hV5]; exact Whole.setRow_far r_x10_4 (by omega) _
          have r_x9_5 : Whole V5 (V2.heap.size) 32 (alc R.1.free R.1.seed R.1.fresh (.slice Amb R.1.macs.length cmb) (.slice Abb R.1.boxes.length cbb)) := by rw [hV5]; exact Whole.setRow r_x9_4 _
          have hs5 : V4.heap.size ≤ V5.heap.size := by rw [hV5]; simp
          have hb5 : Below p.heap.size p V5 := by rw [hV5]; exact below_setRow hb4 (by omega) _
          rw [if_pos (by kernel_rfl)]
          refine wp_store_row 32 _ _ rfl (V2.heap.size) _ rfl rfl 32 _ r_x9_4 (by rw [algSize, alc_size]) (by rw [zar_size, alc_size]) (alc_one _ _ _ _ _ _ _ _ _) ?_
          rw [← hV5]
          clear hV5
          refine hKK.out _ _ (HCC.out _ hb5) (fun hHeld => ?_)
          clear hKK KK
          (try simp only [sq])
          refine wpAnyH_ready (rs := [13]) (by kernel_rfl) (by simp) ?_
          refine AllReadyH.cons rfl (fun KK hKK => ?_) AllReadyH.nil
          obtain ⟨V6, hV6⟩ : ∃ x, x = (V5).setRow (V3.heap.size) (R.2.1.map byt).toArray := ⟨_, rfl⟩
          have va_6 : AlV V6 (fun g => (Q g ∧ g < w.heap.size) ∨ (V1.heap.size ≤ g ∧ g < V2.heap.size)) (.agg (alc R.1.free R.1.seed R.1.fresh (.slice Amb R.1.macs.length cmb) (.slice Abb R.1.boxes.length cbb))) R.1 := by rw [hV6]; exact AlV.keep va_5 (by simp) fun g _ hq => setRow_other _ _ _ _ (by omega)
          have r_x9_6 : Whole V6 (V2.heap.size) 32 (alc R.1.free R.1.seed R.1.fresh (.slice Amb R.1.macs.length cmb) (.slice Abb R.1.boxes.length cbb)) := by rw [hV6]; exact Whole.setRow_far r_x9_5 (by omega) _
          have r_x10_6 : Whole V6 (V3.heap.size) 28 (R.2.1.map byt).toArray := by rw [hV6]; exact Whole.setRow r_x10_5 _
          have hs6 : V5.heap.size ≤ V6.heap.size := by rw [hV6]; simp
          have hb6 : Below p.heap.size p V6 := by rw [hV6]; exact below_setRow hb5 (by omega) _
          rw [if_pos (by kernel_rfl)]
          refine wp_store_row 28 _ _ rfl (V3.heap.size) _ rfl rfl 28 _ r_x10_5 (by rw [tagSize, tag_size hlT]) (by rw [ztr_size, tag_size hlT]) (tag_one _) ?_
          rw [← hV6]
          clear hV6
          refine hKK.out _ _ (HCC.out _ hb6) (fun hHeld => ?_)
          clear hKK KK
          (try simp only [sq])
          apply wpT (i := 14) rfl (by kernel_rfl)
          case hQ => exact fun _ _ _ h => h
          case hS => exact hHeld
          case hy => (refine Or.inl ⟨by rfl, ?_⟩; intro w hSw; (try go_split_ands); go_simp; (try with_reducible rfl))
          (try simp only [sq])
          refine wpAnyH_done (by kernel_rfl) ?_ _
          clear HCC hHeld
          go_wp2_with fail
          go_meet
          refine ⟨V2.heap.size, V3.heap.size, Amb, Abb, cmb, cbb, rfl, rfl, rfl, r_x9_6, r_x10_6, AlV.mono va_6 fun g hg hq => ⟨by rcases hq with hq | hq; exact .inl hq; exact .inr (by omega), by omega, by omega⟩, hb6, by omega, by omega⟩
        · (try simp only [sq])
          go_simp
          rw [ztr_lit]
          obtain ⟨V7, hV7⟩ : ∃ x, x = (V2).alloc (.cells ztr 28) := ⟨_, rfl⟩
          have hv7 : Below V2.heap.size V2 V7 := by rw [hV7]; exact Below.alloc (Below.refl _ _) (Nat.le_refl _) _
          have hs7 : V2.heap.size < V7.heap.size := by rw [hV7]; simp
          have hb7 : Below p.heap.size p V7 := Below.trans hb2 (Below.mono hv7 (Below.size hb2))
          have va_7 := AlV.below va_2 hv7 (Nat.le_refl _)
          have r_x10_7 : Whole V7 (V2.heap.size) 28 ztr := by rw [hV7]; exact Whole.here _ _ _
          have hpx10 : p.heap.size ≤ V2.heap.size := Below.size hb2
          rw [← hV7]
          clear hV7
          refine hKK.out _ _ (HCC.out _ hb7) (fun hHeld => ?_)
          clear hKK KK
          (try simp only [sq])
          refine wpAnyH_ready (rs := [10]) (by kernel_rfl) (by simp) ?_
          refine AllReadyH.cons rfl (fun KK hKK => ?_) AllReadyH.nil
          (try simp only [sq])
          go_simp
          rw [zar_lit]
          obtain ⟨V8, hV8⟩ : ∃ x, x = (V7).alloc (.cells zar 32) := ⟨_, rfl⟩
          have hv8 : Below V7.heap.size V7 V8 := by rw [hV8]; exact Below.alloc (Below.refl _ _) (Nat.le_refl _) _
          have hs8 : V7.heap.size < V8.heap.size := by rw [hV8]; simp
          have hb8 : Below p.heap.size p V8 := Below.trans hb7 (Below.mono hv8 (Below.size hb7))
          have va_8 := AlV.below va_7 hv8 (Nat.le_refl _)
          have r_x10_8 := Whole.below r_x10_7 hv8 (Whole.lt r_x10_7)
          have r_x9_8 : Whole V8 (V7.heap.size) 32 zar := by rw [hV8]; exact Whole.here _ _ _
          have hpx9 : p.heap.size ≤ V7.heap.size := Below.size hb7
          rw [← hV8]
          clear hV8
          refine hKK.out _ _ (HCC.out _ hb8) (fun hHeld => ?_)
          clear hKK KK
          (try simp only [sq])
          refine wpAnyH_ready (rs := [12]) (by kernel_rfl) (by simp) ?_
          refine AllReadyH.cons rfl (fun KK hKK => ?_) AllReadyH.nil
          obtain ⟨V9, hV9⟩ : ∃ x, x = (V8).setRow (V7.heap.size) (alc R.1.free R.1.seed R.1.fresh (.slice Amb R.1.macs.length cmb) (.slice Abb R.1.boxes.length cbb)) := ⟨_, rfl⟩
          have va_9 : AlV V9 (fun g => (Q g ∧ g < w.heap.size) ∨ (V1.heap.size ≤ g ∧ g < V2.heap.size)) (.agg (alc R.1.free R.1.seed R.1.fresh (.slice Amb R.1.macs.length cmb) (.slice Abb R.1.boxes.length cbb))) R.1 := by rw [hV9]; exact AlV.keep va_8 (by simp) fun g _ hq => setRow_other _ _ _ _ (by omega)
          have r_x10_9 : Whole V9 (V2.heap.size) 28 ztr := by rw [hV9]; exact Whole.setRow_far r_x10_8 (by omega) _
          have r_x9_9 : Whole V9 (V7.heap.size) 32 (alc R.1.free R.1.seed R.1.fresh (.slice Amb R.1.macs.length cmb) (.slice Abb R.1.boxes.length cbb)) := by rw [hV9]; exact Whole.setRow r_x9_8 _
          have hs9 : V8.heap.size ≤ V9.heap.size := by rw [hV9]; simp
          have hb9 : Below p.heap.size p V9 := by rw [hV9]; exact below_setRow hb8 (by omega) _
          rw [if_pos (by kernel_rfl)]
          refine wp_store_row 32 _ _ rfl (V7.heap.size) _ rfl rfl 32 _ r_x9_8 (by rw [algSize, alc_size]) (by rw [zar_size, alc_size]) (alc_one _ _ _ _ _ _ _ _ _) ?_
          rw [← hV9]
          clear hV9
          refine hKK.out _ _ (HCC.out _ hb9) (fun hHeld => ?_)
          clear hKK KK
          (try simp only [sq])
          refine wpAnyH_ready (rs := [13]) (by kernel_rfl) (by simp) ?_
          refine AllReadyH.cons rfl (fun KK hKK => ?_) AllReadyH.nil
          obtain ⟨V10, hV10⟩ : ∃ x, x = (V9).setRow (V2.heap.size) (R.2.1.map byt).toArray := ⟨_, rfl⟩
          have va_10 : AlV V10 (fun g => (Q g ∧ g < w.heap.size) ∨ (V1.heap.size ≤ g ∧ g < V2.heap.size)) (.agg (alc R.1.free R.1.seed R.1.fresh (.slice Amb R.1.macs.length cmb) (.slice Abb R.1.boxes.length cbb))) R.1 := by rw [hV10]; exact AlV.keep va_9 (by simp) fun g _ hq => setRow_other _ _ _ _ (by omega)
          have r_x9_10 : Whole V10 (V7.heap.size) 32 (alc R.1.free R.1.seed R.1.fresh (.slice Amb R.1.macs.length cmb) (.slice Abb R.1.boxes.length cbb)) := by rw [hV10]; exact Whole.setRow_far r_x9_9 (by omega) _
          have r_x10_10 : Whole V10 (V2.heap.size) 28 (R.2.1.map byt).toArray := by rw [hV10]; exact Whole.setRow r_x10_9 _
          have hs10 : V9.heap.size ≤ V10.heap.size := by rw [hV10]; simp
          have hb10 : Below p.heap.size p V10 := by rw [hV10]; exact below_setRow hb9 (by omega) _
          rw [if_pos (by kernel_rfl)]
          refine wp_store_row 28 _ _ rfl (V2.heap.size) _ rfl rfl 28 _ r_x10_9 (by rw [tagSize, tag_size hlT]) (by rw [ztr_size, tag_size hlT]) (tag_one _) ?_
          rw [← hV10]
          clear hV10
          refine hKK.out _ _ (HCC.out _ hb10) (fun hHeld => ?_)
          clear hKK KK
          (try simp only [sq])
          apply wpT (i := 14) rfl (by kernel_rfl)
          case hQ => exact fun _ _ _ h => h
          case hS => exact hHeld
          case hy => (refine Or.inl ⟨by rfl, ?_⟩; intro w hSw; (try go_split_ands); go_simp; (try with_reducible rfl))
          (try simp only [sq])
          refine wpAnyH_done (by kernel_rfl) ?_ _
          clear HCC hHeld
          go_wp2_with fail
          go_meet
          refine ⟨V7.heap.size, V2.heap.size, Amb, Abb, cmb, cbb, rfl, rfl, rfl, r_x9_10, r_x10_10, AlV.mono va_10 fun g hg hq => ⟨by rcases hq with hq | hq; exact .inl hq; exact .inr (by omega), by omega, by omega⟩, hb10, by omega, by omega⟩
      · (try simp only [sq])
        go_simp
        rw [zar_lit]
        obtain ⟨V11, hV11⟩ : ∃ x, x = (V1).alloc (.cells zar 32) := ⟨_, rfl⟩
        have hv11 : Below V1.heap.size V1 V11 := by rw [hV11]; exact Below.alloc (Below.refl _ _) (Nat.le_refl _) _
        have hs11 : V1.heap.size < V11.heap.size := by rw [hV11]; simp
        have hb11 : Below p.heap.size p V11 := Below.trans hb1 (Below.mono hv11 (Below.size hb1))
        have mb_11 := Bytes.below mb_1 hv11 (Nat.le_refl _)
        have r_x9_11 : Whole V11 (V1.heap.size) 32 zar := by rw [hV11]; exact Whole.here _ _ _
        have hpx9 : p.heap.size ≤ V1.heap.size := Below.size hb1
        rw [← hV11]
        clear hV11
        refine hKK.out _ _ (HCC.out _ hb11) (fun hHeld => ?_)
        clear hKK KK
        (try simp only [sq])
        refine wpAnyH_ready (rs := [5, 11]) (by kernel_rfl) (by simp) ?_
        refine AllReadyH.cons rfl (fun KK hKK => ?_) (AllReadyH.cons rfl (fun KK hKK => ?_) AllReadyH.nil)
        · (try simp only [sq])
          go_simp
          go_at_call 54
          refine (cnode (AlV.below HXP.out hb11 (Nat.le_refl _)) (by omega) hlK mb_11 hml (Tables.below HTP.out (Nat.le_refl _) hb11)).mono ?_
          rintro e V12 ⟨hx12, hv12⟩
          have hs12 : V11.heap.size ≤ V12.heap.size := hv12.size
          have hb12 := Below.trans hb11 (Below.mono hv12 (Below.size hb11))
          have mb_12 := Bytes.below mb_11 hv12 (Nat.le_refl _)
          have r_x9_12 := Whole.below r_x9_11 hv12 (Whole.lt r_x9_11)
          rw [← HRE.out] at hx12
          obtain ⟨v12, rfl, hav12⟩ := hx12
          obtain ⟨Amb, cmb, Abb, cbb, rfl, hM, hBx, hA⟩ := id hav12
          clear hM hBx hA
          have va_12 : AlV V12 (fun g => (Q g ∧ g < w.heap.size) ∨ (V11.heap.size ≤ g ∧ g < V12.heap.size)) (.agg (alc R.1.free R.1.seed R.1.fresh (.slice Amb R.1.macs.length cmb) (.slice Abb R.1.boxes.length cbb))) R.1 := AlV.mono hav12 fun g hg hq => hq.elim (fun h => .inl h) (fun h => .inr ⟨h, hg⟩)
          refine hKK.out _ _ (HCC.out _ hb12) (fun hHeld => ?_)
          clear hKK KK
          (try simp only [sq])
          apply wpT (i := 6) rfl (by kernel_rfl)
          case hQ => exact fun _ _ _ h => h
          case hS => exact hHeld
          case hy => (refine Or.inl ⟨by rfl, ?_⟩; intro w hSw; (try go_split_ands); go_simp; (try with_reducible rfl))
          (try simp only [sq])
          apply wpT (i := 7) rfl (by kernel_rfl)
          case hQ => exact fun _ _ _ h => h
          case hS => exact hHeld
          case hy => (refine Or.inl ⟨by rfl, ?_⟩; intro w hSw; (try go_split_ands); go_simp; (try with_reducible rfl))
          (try simp only [sq])
          apply wpT (i := 8) rfl (by kernel_rfl)
          case hQ => exact fun _ _ _ h => h
          case hS => exact hHeld
          case hy => (refine Or.inl ⟨by rfl, ?_⟩; intro w hSw; (try go_split_ands); go_simp; (try with_reducible rfl))
          (try simp only [sq])
          apply wpT (i := 9) rfl (by kernel_rfl)
          case hQ => exact fun _ _ _ h => h
          case hS => exact hHeld
          case hy => (refine Or.inl ⟨by rfl, ?_⟩; intro w hSw; (try go_split_ands); go_simp; (try with_reducible rfl))
          (try simp only [sq])
          refine wpAnyH_ready (rs := [11]) (by kernel_rfl) (by simp) ?_
          refine AllReadyH.cons rfl (fun KK hKK => ?_) AllReadyH.nil
          (try simp only [sq])
          go_simp
          rw [ztr_lit]
          obtain ⟨V13, hV13⟩ : ∃ x, x = (V12).alloc (.cells ztr 28) := ⟨_, rfl⟩
          have hv13 : Below V12.heap.size V12 V13 := by rw [hV13]; exact Below.alloc (Below.refl _ _) (Nat.le_refl _) _
          have hs13 : V12.heap.size < V13.heap.size := by rw [hV13]; simp
          have hb13 : Below p.heap.size p V13 := Below.trans hb12 (Below.mono hv13 (Below.size hb12))
          have r_x9_13 := Whole.below r_x9_12 hv13 (Whole.lt r_x9_12)
          have va_13 := AlV.below va_12 hv13 (Nat.le_refl _)
          have r_x10_13 : Whole V13 (V12.heap.size) 28 ztr := by rw [hV13]; exact Whole.here _ _ _
          have hpx10 : p.heap.size ≤ V12.heap.size := Below.size hb12
          rw [← hV13]
          clear hV13
          refine hKK.out _ _ (HCC.out _ hb13) (fun hHeld => ?_)
          clear hKK KK
          (try simp only [sq])
          refine wpAnyH_ready (rs := [12]) (by kernel_rfl) (by simp) ?_
          refine AllReadyH.cons rfl (fun KK hKK => ?_) AllReadyH.nil
          obtain ⟨V14, hV14⟩ : ∃ x, x = (V13).setRow (V1.heap.size) (alc R.1.free R.1.seed R.1.fresh (.slice Amb R.1.macs.length cmb) (.slice Abb R.1.boxes.length cbb)) := ⟨_, rfl⟩
          have va_14 : AlV V14 (fun g => (Q g ∧ g < w.heap.size) ∨ (V11.heap.size ≤ g ∧ g < V12.heap.size)) (.agg (alc R.1.free R.1.seed R.1.fresh (.slice Amb R.1.macs.length cmb) (.slice Abb R.1.boxes.length cbb))) R.1 := by rw [hV14]; exact AlV.keep va_13 (by simp) fun g _ hq => setRow_other _ _ _ _ (by omega)
          have r_x10_14 : Whole V14 (V12.heap.size) 28 ztr := by rw [hV14]; exact Whole.setRow_far r_x10_13 (by omega) _
          have r_x9_14 : Whole V14 (V1.heap.size) 32 (alc R.1.free R.1.seed R.1.fresh (.slice Amb R.1.macs.length cmb) (.slice Abb R.1.boxes.length cbb)) := by rw [hV14]; exact Whole.setRow r_x9_13 _
          have hs14 : V13.heap.size ≤ V14.heap.size := by rw [hV14]; simp
          have hb14 : Below p.heap.size p V14 := by rw [hV14]; exact below_setRow hb13 (by omega) _
          rw [if_pos (by kernel_rfl)]
          refine wp_store_row 32 _ _ rfl (V1.heap.size) _ rfl rfl 32 _ r_x9_13 (by rw [algSize, alc_size]) (by rw [zar_size, alc_size]) (alc_one _ _ _ _ _ _ _ _ _) ?_
          rw [← hV14]
          clear hV14
          refine hKK.out _ _ (HCC.out _ hb14) (fun hHeld => ?_)
          clear hKK KK
          (try simp only [sq])
          refine wpAnyH_ready (rs := [13]) (by kernel_rfl) (by simp) ?_
          refine AllReadyH.cons rfl (fun KK hKK => ?_) AllReadyH.nil
          obtain ⟨V15, hV15⟩ : ∃ x, x = (V14).setRow (V12.heap.size) (R.2.1.map byt).toArray := ⟨_, rfl⟩
          have va_15 : AlV V15 (fun g => (Q g ∧ g < w.heap.size) ∨ (V11.heap.size ≤ g ∧ g < V12.heap.size)) (.agg (alc R.1.free R.1.seed R.1.fresh (.slice Amb R.1.macs.length cmb) (.slice Abb R.1.boxes.length cbb))) R.1 := by rw [hV15]; exact AlV.keep va_14 (by simp) fun g _ hq => setRow_other _ _ _ _ (by omega)
          have r_x9_15 : Whole V15 (V1.heap.size) 32 (alc R.1.free R.1.seed R.1.fresh (.slice Amb R.1.macs.length cmb) (.slice Abb R.1.boxes.length cbb)) := by rw [hV15]; exact Whole.setRow_far r_x9_14 (by omega) _
          have r_x10_15 : Whole V15 (V12.heap.size) 28 (R.2.1.map byt).toArray := by rw [hV15]; exact Whole.setRow r_x10_14 _
          have hs15 : V14.heap.size ≤ V15.heap.size := by rw [hV15]; simp
          have hb15 : Below p.heap.size p V15 := by rw [hV15]; exact below_setRow hb14 (by omega) _
          rw [if_pos (by kernel_rfl)]
          refine wp_store_row 28 _ _ rfl (V12.heap.size) _ rfl rfl 28 _ r_x10_14 (by rw [tagSize, tag_size hlT]) (by rw [ztr_size, tag_size hlT]) (tag_one _) ?_
          rw [← hV15]
          clear hV15
          refine hKK.out _ _ (HCC.out _ hb15) (fun hHeld => ?_)
          clear hKK KK
          (try simp only [sq])
          apply wpT (i := 14) rfl (by kernel_rfl)
          case hQ => exact fun _ _ _ h => h
          case hS => exact hHeld
          case hy => (refine Or.inl ⟨by rfl, ?_⟩; intro w hSw; (try go_split_ands); go_simp; (try with_reducible rfl))
          (try simp only [sq])
          refine wpAnyH_done (by kernel_rfl) ?_ _
          clear HCC hHeld
          go_wp2_with fail
          go_meet
          refine ⟨V1.heap.size, V12.heap.size, Amb, Abb, cmb, cbb, rfl, rfl, rfl, r_x9_15, r_x10_15, AlV.mono va_15 fun g hg hq => ⟨by rcases hq with hq | hq; exact .inl hq; exact .inr (by omega), by omega, by omega⟩, hb15, by omega, by omega⟩
        · (try simp only [sq])
          go_simp
          rw [ztr_lit]
          obtain ⟨V16, hV16⟩ : ∃ x, x = (V11).alloc (.cells ztr 28) := ⟨_, rfl⟩
          have hv16 : Below V11.heap.size V11 V16 := by rw [hV16]; exact Below.alloc (Below.refl _ _) (Nat.le_refl _) _
          have hs16 : V11.heap.size < V16.heap.size := by rw [hV16]; simp
          have hb16 : Below p.heap.size p V16 := Below.trans hb11 (Below.mono hv16 (Below.size hb11))
          have mb_16 := Bytes.below mb_11 hv16 (Nat.le_refl _)
          have r_x9_16 := Whole.below r_x9_11 hv16 (Whole.lt r_x9_11)
          have r_x10_16 : Whole V16 (V11.heap.size) 28 ztr := by rw [hV16]; exact Whole.here _ _ _
          have hpx10 : p.heap.size ≤ V11.heap.size := Below.size hb11
          rw [← hV16]
          clear hV16
          refine hKK.out _ _ (HCC.out _ hb16) (fun hHeld => ?_)
          clear hKK KK
          (try simp only [sq])
          refine wpAnyH_ready (rs := [5]) (by kernel_rfl) (by simp) ?_
          refine AllReadyH.cons rfl (fun KK hKK => ?_) AllReadyH.nil
          (try simp only [sq])
          go_simp
          go_at_call 54
          refine (cnode (AlV.below HXP.out hb16 (Nat.le_refl _)) (by omega) hlK mb_16 hml (Tables.below HTP.out (Nat.le_refl _) hb16)).mono ?_
          rintro e V17 ⟨hx17, hv17⟩
          have hs17 : V16.heap.size ≤ V17.heap.size := hv17.size
          have hb17 := Below.trans hb16 (Below.mono hv17 (Below.size hb16))
          have mb_17 := Bytes.below mb_16 hv17 (Nat.le_refl _)
          have r_x9_17 := Whole.below r_x9_16 hv17 (Whole.lt r_x9_16)
          have r_x10_17 := Whole.below r_x10_16 hv17 (Whole.lt r_x10_16)
          rw [← HRE.out] at hx17
          obtain ⟨v17, rfl, hav17⟩ := hx17
          obtain ⟨Amb, cmb, Abb, cbb, rfl, hM, hBx, hA⟩ := id hav17
          clear hM hBx hA
          have va_17 : AlV V17 (fun g => (Q g ∧ g < w.heap.size) ∨ (V16.heap.size ≤ g ∧ g < V17.heap.size)) (.agg (alc R.1.free R.1.seed R.1.fresh (.slice Amb R.1.macs.length cmb) (.slice Abb R.1.boxes.length cbb))) R.1 := AlV.mono hav17 fun g hg hq => hq.elim (fun h => .inl h) (fun h => .inr ⟨h, hg⟩)
          refine hKK.out _ _ (HCC.out _ hb17) (fun hHeld => ?_)
          clear hKK KK
          (try simp only [sq])
          apply wpT (i := 6) rfl (by kernel_rfl)
          case hQ => exact fun _ _ _ h => h
          case hS => exact hHeld
          case hy => (refine Or.inl ⟨by rfl, ?_⟩; intro w hSw; (try go_split_ands); go_simp; (try with_reducible rfl))
          (try simp only [sq])
          apply wpT (i := 7) rfl (by kernel_rfl)
          case hQ => exact fun _ _ _ h => h
          case hS => exact hHeld
          case hy => (refine Or.inl ⟨by rfl, ?_⟩; intro w hSw; (try go_split_ands); go_simp; (try with_reducible rfl))
          (try simp only [sq])
          apply wpT (i := 8) rfl (by kernel_rfl)
          case hQ => exact fun _ _ _ h => h
          case hS => exact hHeld
          case hy => (refine Or.inl ⟨by rfl, ?_⟩; intro w hSw; (try go_split_ands); go_simp; (try with_reducible rfl))
          (try simp only [sq])
          apply wpT (i := 9) rfl (by kernel_rfl)
          case hQ => exact fun _ _ _ h => h
          case hS => exact hHeld
          case hy => (refine Or.inl ⟨by rfl, ?_⟩; intro w hSw; (try go_split_ands); go_simp; (try with_reducible rfl))
          (try simp only [sq])
          refine wpAnyH_ready (rs := [12]) (by kernel_rfl) (by simp) ?_
          refine AllReadyH.cons rfl (fun KK hKK => ?_) AllReadyH.nil
          obtain ⟨V18, hV18⟩ : ∃ x, x = (V17).setRow (V1.heap.size) (alc R.1.free R.1.seed R.1.fresh (.slice Amb R.1.macs.length cmb) (.slice Abb R.1.boxes.length cbb)) := ⟨_, rfl⟩
          have r_x10_18 : Whole V18 (V11.heap.size) 28 ztr := by rw [hV18]; exact Whole.setRow_far r_x10_17 (by omega) _
          have va_18 : AlV V18 (fun g => (Q g ∧ g < w.heap.size) ∨ (V16.heap.size ≤ g ∧ g < V17.heap.size)) (.agg (alc R.1.free R.1.seed R.1.fresh (.slice Amb R.1.macs.length cmb) (.slice Abb R.1.boxes.length cbb))) R.1 := by rw [hV18]; exact AlV.keep va_17 (by simp) fun g _ hq => setRow_other _ _ _ _ (by omega)
          have r_x9_18 : Whole V18 (V1.heap.size) 32 (alc R.1.free R.1.seed R.1.fresh (.slice Amb R.1.macs.length cmb) (.slice Abb R.1.boxes.length cbb)) := by rw [hV18]; exact Whole.setRow r_x9_17 _
          have hs18 : V17.heap.size ≤ V18.heap.size := by rw [hV18]; simp
          have hb18 : Below p.heap.size p V18 := by rw [hV18]; exact below_setRow hb17 (by omega) _
          rw [if_pos (by kernel_rfl)]
          refine wp_store_row 32 _ _ rfl (V1.heap.size) _ rfl rfl 32 _ r_x9_17 (by rw [algSize, alc_size]) (by rw [zar_size, alc_size]) (alc_one _ _ _ _ _ _ _ _ _) ?_
          rw [← hV18]
          clear hV18
          refine hKK.out _ _ (HCC.out _ hb18) (fun hHeld => ?_)
          clear hKK KK
          (try simp only [sq])
          refine wpAnyH_ready (rs := [13]) (by kernel_rfl) (by simp) ?_
          refine AllReadyH.cons rfl (fun KK hKK => ?_) AllReadyH.nil
          obtain ⟨V19, hV19⟩ : ∃ x, x = (V18).setRow (V11.heap.size) (R.2.1.map byt).toArray := ⟨_, rfl⟩
          have va_19 : AlV V19 (fun g => (Q g ∧ g < w.heap.size) ∨ (V16.heap.size ≤ g ∧ g < V17.heap.size)) (.agg (alc R.1.free R.1.seed R.1.fresh (.slice Amb R.1.macs.length cmb) (.slice Abb R.1.boxes.length cbb))) R.1 := by rw [hV19]; exact AlV.keep va_18 (by simp) fun g _ hq => setRow_other _ _ _ _ (by omega)
          have r_x9_19 : Whole V19 (V1.heap.size) 32 (alc R.1.free R.1.seed R.1.fresh (.slice Amb R.1.macs.length cmb) (.slice Abb R.1.boxes.length cbb)) := by rw [hV19]; exact Whole.setRow_far r_x9_18 (by omega) _
          have r_x10_19 : Whole V19 (V11.heap.size) 28 (R.2.1.map byt).toArray := by rw [hV19]; exact Whole.setRow r_x10_18 _
          have hs19 : V18.heap.size ≤ V19.heap.size := by rw [hV19]; simp
          have hb19 : Below p.heap.size p V19 := by rw [hV19]; exact below_setRow hb18 (by omega) _
          rw [if_pos (by kernel_rfl)]
          refine wp_store_row 28 _ _ rfl (V11.heap.size) _ rfl rfl 28 _ r_x10_18 (by rw [tagSize, tag_size hlT]) (by rw [ztr_size, tag_size hlT]) (tag_one _) ?_
          rw [← hV19]
          clear hV19
          refine hKK.out _ _ (HCC.out _ hb19) (fun hHeld => ?_)
          clear hKK KK
          (try simp only [sq])
          apply wpT (i := 14) rfl (by kernel_rfl)
          case hQ => exact fun _ _ _ h => h
          case hS => exact hHeld
          case hy => (refine Or.inl ⟨by rfl, ?_⟩; intro w hSw; (try go_split_ands); go_simp; (try with_reducible rfl))
          (try simp only [sq])
          refine wpAnyH_done (by kernel_rfl) ?_ _
          clear HCC hHeld
          go_wp2_with fail
          go_meet
          refine ⟨V1.heap.size, V11.heap.size, Amb, Abb, cmb, cbb, rfl, rfl, rfl, r_x9_19, r_x10_19, AlV.mono va_19 fun g hg hq => ⟨by rcases hq with hq | hq; exact .inl hq; exact .inr (by omega), by omega, by omega⟩, hb19, by omega, by omega⟩
      · (try simp only [sq])
        go_simp
        rw [ztr_lit]
        obtain ⟨V20, hV20⟩ : ∃ x, x = (V1).alloc (.cells ztr 28) := ⟨_, rfl⟩
        have hv20 : Below V1.heap.size V1 V20 := by rw [hV20]; exact Below.alloc (Below.refl _ _) (Nat.le_refl _) _
        have hs20 : V1.heap.size < V20.heap.size := by rw [hV20]; simp
        have hb20 : Below p.heap.size p V20 := Below.trans hb1 (Below.mono hv20 (Below.size hb1))
        have mb_20 := Bytes.below mb_1 hv20 (Nat.le_refl _)
        have r_x10_20 : Whole V20 (V1.heap.size) 28 ztr := by rw [hV20]; exact Whole.here _ _ _
        have hpx10 : p.heap.size ≤ V1.heap.size := Below.size hb1
        rw [← hV20]
        clear hV20
        refine hKK.out _ _ (HCC.out _ hb20) (fun hHeld => ?_)
        clear hKK KK
        (try simp only [sq])
        refine wpAnyH_ready (rs := [5, 10]) (by kernel_rfl) (by simp) ?_
        refine AllReadyH.cons rfl (fun KK hKK => ?_) (AllReadyH.cons rfl (fun KK hKK => ?_) AllReadyH.nil)
        · (try simp only [sq])
          go_simp
          go_at_call 54
          refine (cnode (AlV.below HXP.out hb20 (Nat.le_refl _)) (by omega) hlK mb_20 hml (Tables.below HTP.out (Nat.le_refl _) hb20)).mono ?_
          rintro e V21 ⟨hx21, hv21⟩
          have hs21 : V20.heap.size ≤ V21.heap.size := hv21.size
          have hb21 := Below.trans hb20 (Below.mono hv21 (Below.size hb20))
          have mb_21 := Bytes.below mb_20 hv21 (Nat.le_refl _)
          have r_x10_21 := Whole.below r_x10_20 hv21 (Whole.lt r_x10_20)
          rw [← HRE.out] at hx21
          obtain ⟨v21, rfl, hav21⟩ := hx21
          obtain ⟨Amb, cmb, Abb, cbb, rfl, hM, hBx, hA⟩ := id hav21
          clear hM hBx hA
          have va_21 : AlV V21 (fun g => (Q g ∧ g < w.heap.size) ∨ (V20.heap.size ≤ g ∧ g < V21.heap.size)) (.agg (alc R.1.free R.1.seed R.1.fresh (.slice Amb R.1.macs.length cmb) (.slice Abb R.1.boxes.length cbb))) R.1 := AlV.mono hav21 fun g hg hq => hq.elim (fun h => .inl h) (fun h => .inr ⟨h, hg⟩)
          refine hKK.out _ _ (HCC.out _ hb21) (fun hHeld => ?_)
          clear hKK KK
          (try simp only [sq])
          apply wpT (i := 6) rfl (by kernel_rfl)
          case hQ => exact fun _ _ _ h => h
          case hS => exact hHeld
          case hy => (refine Or.inl ⟨by rfl, ?_⟩; intro w hSw; (try go_split_ands); go_simp; (try with_reducible rfl))
          (try simp only [sq])
          apply wpT (i := 7) rfl (by kernel_rfl)
          case hQ => exact fun _ _ _ h => h
          case hS => exact hHeld
          case hy => (refine Or.inl ⟨by rfl, ?_⟩; intro w hSw; (try go_split_ands); go_simp; (try with_reducible rfl))
          (try simp only [sq])
          apply wpT (i := 8) rfl (by kernel_rfl)
          case hQ => exact fun _ _ _ h => h
          case hS => exact hHeld
          case hy => (refine Or.inl ⟨by rfl, ?_⟩; intro w hSw; (try go_split_ands); go_simp; (try with_reducible rfl))
          (try simp only [sq])
          apply wpT (i := 9) rfl (by kernel_rfl)
          case hQ => exact fun _ _ _ h => h
          case hS => exact hHeld
          case hy => (refine Or.inl ⟨by rfl, ?_⟩; intro w hSw; (try go_split_ands); go_simp; (try with_reducible rfl))
          (try simp only [sq])
          refine wpAnyH_ready (rs := [10]) (by kernel_rfl) (by simp) ?_
          refine AllReadyH.cons rfl (fun KK hKK => ?_) AllReadyH.nil
          (try simp only [sq])
          go_simp
          rw [zar_lit]
          obtain ⟨V22, hV22⟩ : ∃ x, x = (V21).alloc (.cells zar 32) := ⟨_, rfl⟩
          have hv22 : Below V21.heap.size V21 V22 := by rw [hV22]; exact Below.alloc (Below.refl _ _) (Nat.le_refl _) _
          have hs22 : V21.heap.size < V22.heap.size := by rw [hV22]; simp
          have hb22 : Below p.heap.size p V22 := Below.trans hb21 (Below.mono hv22 (Below.size hb21))
          have r_x10_22 := Whole.below r_x10_21 hv22 (Whole.lt r_x10_21)
          have va_22 := AlV.below va_21 hv22 (Nat.le_refl _)
          have r_x9_22 : Whole V22 (V21.heap.size) 32 zar := by rw [hV22]; exact Whole.here _ _ _
          have hpx9 : p.heap.size ≤ V21.heap.size := Below.size hb21
          rw [← hV22]
          clear hV22
          refine hKK.out _ _ (HCC.out _ hb22) (fun hHeld => ?_)
          clear hKK KK
          (try simp only [sq])
          refine wpAnyH_ready (rs := [12]) (by kernel_rfl) (by simp) ?_
          refine AllReadyH.cons rfl (fun KK hKK => ?_) AllReadyH.nil
          obtain ⟨V23, hV23⟩ : ∃ x, x = (V22).setRow (V21.heap.size) (alc R.1.free R.1.seed R.1.fresh (.slice Amb R.1.macs.length cmb) (.slice Abb R.1.boxes.length cbb)) := ⟨_, rfl⟩
          have r_x10_23 : Whole V23 (V1.heap.size) 28 ztr := by rw [hV23]; exact Whole.setRow_far r_x10_22 (by omega) _
          have va_23 : AlV V23 (fun g => (Q g ∧ g < w.heap.size) ∨ (V20.heap.size ≤ g ∧ g < V21.heap.size)) (.agg (alc R.1.free R.1.seed R.1.fresh (.slice Amb R.1.macs.length cmb) (.slice Abb R.1.boxes.length cbb))) R.1 := by rw [hV23]; exact AlV.keep va_22 (by simp) fun g _ hq => setRow_other _ _ _ _ (by omega)
          have r_x9_23 : Whole V23 (V21.heap.size) 32 (alc R.1.free R.1.seed R.1.fresh (.slice Amb R.1.macs.length cmb) (.slice Abb R.1.boxes.length cbb)) := by rw [hV23]; exact Whole.setRow r_x9_22 _
          have hs23 : V22.heap.size ≤ V23.heap.size := by rw [hV23]; simp
          have hb23 : Below p.heap.size p V23 := by rw [hV23]; exact below_setRow hb22 (by omega) _
          rw [if_pos (by kernel_rfl)]
          refine wp_store_row 32 _ _ rfl (V21.heap.size) _ rfl rfl 32 _ r_x9_22 (by rw [algSize, alc_size]) (by rw [zar_size, alc_size]) (alc_one _ _ _ _ _ _ _ _ _) ?_
          rw [← hV23]
          clear hV23
          refine hKK.out _ _ (HCC.out _ hb23) (fun hHeld => ?_)
          clear hKK KK
          (try simp only [sq])
          refine wpAnyH_ready (rs := [13]) (by kernel_rfl) (by simp) ?_
          refine AllReadyH.cons rfl (fun KK hKK => ?_) AllReadyH.nil
          obtain ⟨V24, hV24⟩ : ∃ x, x = (V23).setRow (V1.heap.size) (R.2.1.map byt).toArray := ⟨_, rfl⟩
          have va_24 : AlV V24 (fun g => (Q g ∧ g < w.heap.size) ∨ (V20.heap.size ≤ g ∧ g < V21.heap.size)) (.agg (alc R.1.free R.1.seed R.1.fresh (.slice Amb R.1.macs.length cmb) (.slice Abb R.1.boxes.length cbb))) R.1 := by rw [hV24]; exact AlV.keep va_23 (by simp) fun g _ hq => setRow_other _ _ _ _ (by omega)
          have r_x9_24 : Whole V24 (V21.heap.size) 32 (alc R.1.free R.1.seed R.1.fresh (.slice Amb R.1.macs.length cmb) (.slice Abb R.1.boxes.length cbb)) := by rw [hV24]; exact Whole.setRow_far r_x9_23 (by omega) _
          have r_x10_24 : Whole V24 (V1.heap.size) 28 (R.2.1.map byt).toArray := by rw [hV24]; exact Whole.setRow r_x10_23 _
          have hs24 : V23.heap.size ≤ V24.heap.size := by rw [hV24]; simp
          have hb24 : Below p.heap.size p V24 := by rw [hV24]; exact below_setRow hb23 (by omega) _
          rw [if_pos (by kernel_rfl)]
          refine wp_store_row 28 _ _ rfl (V1.heap.size) _ rfl rfl 28 _ r_x10_23 (by rw [tagSize, tag_size hlT]) (by rw [ztr_size, tag_size hlT]) (tag_one _) ?_
          rw [← hV24]
          clear hV24
          refine hKK.out _ _ (HCC.out _ hb24) (fun hHeld => ?_)
          clear hKK KK
          (try simp only [sq])
          apply wpT (i := 14) rfl (by kernel_rfl)
          case hQ => exact fun _ _ _ h => h
          case hS => exact hHeld
          case hy => (refine Or.inl ⟨by rfl, ?_⟩; intro w hSw; (try go_split_ands); go_simp; (try with_reducible rfl))
          (try simp only [sq])
          refine wpAnyH_done (by kernel_rfl) ?_ _
          clear HCC hHeld
          go_wp2_with fail
          go_meet
          refine ⟨V21.heap.size, V1.heap.size, Amb, Abb, cmb, cbb, rfl, rfl, rfl, r_x9_24, r_x10_24, AlV.mono va_24 fun g hg hq => ⟨by rcases hq with hq | hq; exact .inl hq; exact .inr (by omega), by omega, by omega⟩, hb24, by omega, by omega⟩
        · (try simp only [sq])
          go_simp
          rw [zar_lit]
          obtain ⟨V25, hV25⟩ : ∃ x, x = (V20).alloc (.cells zar 32) := ⟨_, rfl⟩
          have hv25 : Below V20.heap.size V20 V25 := by rw [hV25]; exact Below.alloc (Below.refl _ _) (Nat.le_refl _) _
          have hs25 : V20.heap.size < V25.heap.size := by rw [hV25]; simp
          have hb25 : Below p.heap.size p V25 := Below.trans hb20 (Below.mono hv25 (Below.size hb20))
          have mb_25 := Bytes.below mb_20 hv25 (Nat.le_refl _)
          have r_x10_25 := Whole.below r_x10_20 hv25 (Whole.lt r_x10_20)
          have r_x9_25 : Whole V25 (V20.heap.size) 32 zar := by rw [hV25]; exact Whole.here _ _ _
          have hpx9 : p.heap.size ≤ V20.heap.size := Below.size hb20
          rw [← hV25]
          clear hV25
          refine hKK.out _ _ (HCC.out _ hb25) (fun hHeld => ?_)
          clear hKK KK
          (try simp only [sq])
          refine wpAnyH_ready (rs := [5]) (by kernel_rfl) (by simp) ?_
          refine AllReadyH.cons rfl (fun KK hKK => ?_) AllReadyH.nil
          (try simp only [sq])
          go_simp
          go_at_call 54
          refine (cnode (AlV.below HXP.out hb25 (Nat.le_refl _)) (by omega) hlK mb_25 hml (Tables.below HTP.out (Nat.le_refl _) hb25)).mono ?_
          rintro e V26 ⟨hx26, hv26⟩
          have hs26 : V25.heap.size ≤ V26.heap.size := hv26.size
          have hb26 := Below.trans hb25 (Below.mono hv26 (Below.size hb25))
          have mb_26 := Bytes.below mb_25 hv26 (Nat.le_refl _)
          have r_x10_26 := Whole.below r_x10_25 hv26 (Whole.lt r_x10_25)
          have r_x9_26 := Whole.below r_x9_25 hv26 (Whole.lt r_x9_25)
          rw [← HRE.out] at hx26
          obtain ⟨v26, rfl, hav26⟩ := hx26
          obtain ⟨Amb, cmb, Abb, cbb, rfl, hM, hBx, hA⟩ := id hav26
          clear hM hBx hA
          have va_26 : AlV V26 (fun g => (Q g ∧ g < w.heap.size) ∨ (V25.heap.size ≤ g ∧ g < V26.heap.size)) (.agg (alc R.1.free R.1.seed R.1.fresh (.slice Amb R.1.macs.length cmb) (.slice Abb R.1.boxes.length cbb))) R.1 := AlV.mono hav26 fun g hg hq => hq.elim (fun h => .inl h) (fun h => .inr ⟨h, hg⟩)
          refine hKK.out _ _ (HCC.out _ hb26) (fun hHeld => ?_)
          clear hKK KK
          (try simp only [sq])
          apply wpT (i := 6) rfl (by kernel_rfl)
          case hQ => exact fun _ _ _ h => h
          case hS => exact hHeld
          case hy => (refine Or.inl ⟨by rfl, ?_⟩; intro w hSw; (try go_split_ands); go_simp; (try with_reducible rfl))
          (try simp only [sq])
          apply wpT (i := 7) rfl (by kernel_rfl)
          case hQ => exact fun _ _ _ h => h
          case hS => exact hHeld
          case hy => (refine Or.inl ⟨by rfl, ?_⟩; intro w hSw; (try go_split_ands); go_simp; (try with_reducible rfl))
          (try simp only [sq])
          apply wpT (i := 8) rfl (by kernel_rfl)
          case hQ => exact fun _ _ _ h => h
          case hS => exact hHeld
          case hy => (refine Or.inl ⟨by rfl, ?_⟩; intro w hSw; (try go_split_ands); go_simp; (try with_reducible rfl))
          (try simp only [sq])
          apply wpT (i := 9) rfl (by kernel_rfl)
          case hQ => exact fun _ _ _ h => h
          case hS => exact hHeld
          case hy => (refine Or.inl ⟨by rfl, ?_⟩; intro w hSw; (try go_split_ands); go_simp; (try with_reducible rfl))
          (try simp only [sq])
          refine wpAnyH_ready (rs := [12]) (by kernel_rfl) (by simp) ?_
          refine AllReadyH.cons rfl (fun KK hKK => ?_) AllReadyH.nil
          obtain ⟨V27, hV27⟩ : ∃ x, x = (V26).setRow (V20.heap.size) (alc R.1.free R.1.seed R.1.fresh (.slice Amb R.1.macs.length cmb) (.slice Abb R.1.boxes.length cbb)) := ⟨_, rfl⟩
          have r_x10_27 : Whole V27 (V1.heap.size) 28 ztr := by rw [hV27]; exact Whole.setRow_far r_x10_26 (by omega) _
          have va_27 : AlV V27 (fun g => (Q g ∧ g < w.heap.size) ∨ (V25.heap.size ≤ g ∧ g < V26.heap.size)) (.agg (alc R.1.free R.1.seed R.1.fresh (.slice Amb R.1.macs.length cmb) (.slice Abb R.1.boxes.length cbb))) R.1 := by rw [hV27]; exact AlV.keep va_26 (by simp) fun g _ hq => setRow_other _ _ _ _ (by omega)
          have r_x9_27 : Whole V27 (V20.heap.size) 32 (alc R.1.free R.1.seed R.1.fresh (.slice Amb R.1.macs.length cmb) (.slice Abb R.1.boxes.length cbb)) := by rw [hV27]; exact Whole.setRow r_x9_26 _
          have hs27 : V26.heap.size ≤ V27.heap.size := by rw [hV27]; simp
          have hb27 : Below p.heap.size p V27 := by rw [hV27]; exact below_setRow hb26 (by omega) _
          rw [if_pos (by kernel_rfl)]
          refine wp_store_row 32 _ _ rfl (V20.heap.size) _ rfl rfl 32 _ r_x9_26 (by rw [algSize, alc_size]) (by rw [zar_size, alc_size]) (alc_one _ _ _ _ _ _ _ _ _) ?_
          rw [← hV27]
          clear hV27
          refine hKK.out _ _ (HCC.out _ hb27) (fun hHeld => ?_)
          clear hKK KK
          (try simp only [sq])
          refine wpAnyH_ready (rs := [13]) (by kernel_rfl) (by simp) ?_
          refine AllReadyH.cons rfl (fun KK hKK => ?_) AllReadyH.nil
          obtain ⟨V28, hV28⟩ : ∃ x, x = (V27).setRow (V1.heap.size) (R.2.1.map byt).toArray := ⟨_, rfl⟩
          have va_28 : AlV V28 (fun g => (Q g ∧ g < w.heap.size) ∨ (V25.heap.size ≤ g ∧ g < V26.heap.size)) (.agg (alc R.1.free R.1.seed R.1.fresh (.slice Amb R.1.macs.length cmb) (.slice Abb R.1.boxes.length cbb))) R.1 := by rw [hV28]; exact AlV.keep va_27 (by simp) fun g _ hq => setRow_other _ _ _ _ (by omega)
          have r_x9_28 : Whole V28 (V20.heap.size) 32 (alc R.1.free R.1.seed R.1.fresh (.slice Amb R.1.macs.length cmb) (.slice Abb R.1.boxes.length cbb)) := by rw [hV28]; exact Whole.setRow_far r_x9_27 (by omega) _
          have r_x10_28 : Whole V28 (V1.heap.size) 28 (R.2.1.map byt).toArray := by rw [hV28]; exact Whole.setRow r_x10_27 _
          have hs28 : V27.heap.size ≤ V28.heap.size := by rw [hV28]; simp
          have hb28 : Below p.heap.size p V28 := by rw [hV28]; exact below_setRow hb27 (by omega) _
          rw [if_pos (by kernel_rfl)]
          refine wp_store_row 28 _ _ rfl (V1.heap.size) _ rfl rfl 28 _ r_x10_27 (by rw [tagSize, tag_size hlT]) (by rw [ztr_size, tag_size hlT]) (tag_one _) ?_
          rw [← hV28]
          clear hV28
          refine hKK.out _ _ (HCC.out _ hb28) (fun hHeld => ?_)
          clear hKK KK
          (try simp only [sq])
          apply wpT (i := 14) rfl (by kernel_rfl)
          case hQ => exact fun _ _ _ h => h
          case hS => exact hHeld
          case hy => (refine Or.inl ⟨by rfl, ?_⟩; intro w hSw; (try go_split_ands); go_simp; (try with_reducible rfl))
          (try simp only [sq])
          refine wpAnyH_done (by kernel_rfl) ?_ _
          clear HCC hHeld
          go_wp2_with fail
          go_meet
          refine ⟨V20.heap.size, V1.heap.size, Amb, Abb, cmb, cbb, rfl, rfl, rfl, r_x9_28, r_x10_28, AlV.mono va_28 fun g hg hq => ⟨by rcases hq with hq | hq; exact .inl hq; exact .inr (by omega), by omega, by omega⟩, hb28, by omega, by omega⟩
    · (try simp only [sq])
      go_simp
      rw [zar_lit]
      obtain ⟨V29, hV29⟩ : ∃ x, x = (p.alloc (.cells zar 32)).drew := ⟨_, rfl⟩
      have hv29 : Below p.drew.heap.size p.drew V29 := by rw [hV29]; exact Below.alloc (Below.refl _ _) (Nat.le_refl _) _
      have hs29 : p.heap.size < V29.heap.size := by rw [hV29]; simp
      have hb29 : Below p.heap.size p V29 := Below.trans hb0 (Below.mono hv29 (Below.size hb0))
      have r_x9_29 : Whole V29 (p.heap.size) 32 zar := by rw [hV29]; exact Whole.here _ _ _
      have hpx9 : p.heap.size ≤ p.heap.size := Nat.le_refl _
      rw [← hV29]
      clear hV29
      refine hKK.out _ _ (HCC.out _ hb29) (fun hHeld => ?_)
      clear hKK KK
      (try simp only [sq])
      refine wpAnyH_ready (rs := [4, 11]) (by kernel_rfl) (by simp) ?_
      refine AllReadyH.cons rfl (fun KK hKK => ?_) (AllReadyH.cons rfl (fun KK hKK => ?_) AllReadyH.nil)
      · (try simp only [sq])
        go_simp
        go_at_call 55
        refine (HCM.out V29).mono ?_
        rintro e V30 ⟨hx30, hv30⟩
        have hs30 : V29.heap.size ≤ V30.heap.size := hv30.size
        have hb30 := Below.trans hb29 (Below.mono hv30 (Below.size hb29))
        have r_x9_30 := Whole.below r_x9_29 hv30 (Whole.lt r_x9_29)
        obtain ⟨B30, d30, rfl, hby30⟩ := hx30
        have mb_30 : Bytes V30 (fun _ => True) (.slice B30 m.length d30) m := hby30.mono fun _ _ _ => trivial
        refine hKK.out _ _ (HCC.out _ hb30) (fun hHeld => ?_)
        clear hKK KK
        (try simp only [sq])
        refine wpAnyH_ready (rs := [5, 11]) (by kernel_rfl) (by simp) ?_
        refine AllReadyH.cons rfl (fun KK hKK => ?_) (AllReadyH.cons rfl (fun KK hKK => ?_) AllReadyH.nil)
        · (try simp only [sq])
          go_simp
          go_at_call 54
          refine (cnode (AlV.below HXP.out hb30 (Nat.le_refl _)) (by omega) hlK mb_30 hml (Tables.below HTP.out (Nat.le_refl _) hb30)).mono ?_
          rintro e V31 ⟨hx31, hv31⟩
          have hs31 : V30.heap.size ≤ V31.heap.size := hv31.size
          have hb31 := Below.trans hb30 (Below.mono hv31 (Below.size hb30))
          have r_x9_31 := Whole.below r_x9_30 hv31 (Whole.lt r_x9_30)
          have mb_31 := Bytes.below mb_30 hv31 (Nat.le_refl _)
          rw [← HRE.out] at hx31
          obtain ⟨v31, rfl, hav31⟩ := hx31
          obtain ⟨Amb, cmb, Abb, cbb, rfl, hM, hBx, hA⟩ := id hav31
          clear hM hBx hA
          have va_31 : AlV V31 (fun g => (Q g ∧ g < w.heap.size) ∨ (V30.heap.size ≤ g ∧ g < V31.heap.size)) (.agg (alc R.1.free R.1.seed R.1.fresh (.slice Amb R.1.macs.length cmb) (.slice Abb R.1.boxes.length cbb))) R.1 := AlV.mono hav31 fun g hg hq => hq.elim (fun h => .inl h) (fun h => .inr ⟨h, hg⟩)
          refine hKK.out _ _ (HCC.out _ hb31) (fun hHeld => ?_)
          clear hKK KK
          (try simp only [sq])
          apply wpT (i := 6) rfl (by kernel_rfl)
          case hQ => exact fun _ _ _ h => h
          case hS => exact hHeld
          case hy => (refine Or.inl ⟨by rfl, ?_⟩; intro w hSw; (try go_split_ands); go_simp; (try with_reducible rfl))
          (try simp only [sq])
          apply wpT (i := 7) rfl (by kernel_rfl)
          case hQ => exact fun _ _ _ h => h
          case hS => exact hHeld
          case hy => (refine Or.inl ⟨by rfl, ?_⟩; intro w hSw; (try go_split_ands); go_simp; (try with_reducible rfl))
          (try simp only [sq])
          apply wpT (i := 8) rfl (by kernel_rfl)
          case hQ => exact fun _ _ _ h => h
          case hS => exact hHeld
          case hy => (refine Or.inl ⟨by rfl, ?_⟩; intro w hSw; (try go_split_ands); go_simp; (try with_reducible rfl))
          (try simp only [sq])
          apply wpT (i := 9) rfl (by kernel_rfl)
          case hQ => exact fun _ _ _ h => h
          case hS => exact hHeld
          case hy => (refine Or.inl ⟨by rfl, ?_⟩; intro w hSw; (try go_split_ands); go_simp; (try with_reducible rfl))
          (try simp only [sq])
          refine wpAnyH_ready (rs := [11]) (by kernel_rfl) (by simp) ?_
          refine AllReadyH.cons rfl (fun KK hKK => ?_) AllReadyH.nil
          (try simp only [sq])
          go_simp
          rw [ztr_lit]
          obtain ⟨V32, hV32⟩ : ∃ x, x = (V31).alloc (.cells ztr 28) := ⟨_, rfl⟩
          have hv32 : Below V31.heap.size V31 V32 := by rw [hV32]; exact Below.alloc (Below.refl _ _) (Nat.le_refl _) _
          have hs32 : V31.heap.size < V32.heap.size := by rw [hV32]; simp
          have hb32 : Below p.heap.size p V32 := Below.trans hb31 (Below.mono hv32 (Below.size hb31))
          have r_x9_32 := Whole.below r_x9_31 hv32 (Whole.lt r_x9_31)
          have va_32 := AlV.below va_31 hv32 (Nat.le_refl _)
          have r_x10_32 : Whole V32 (V31.heap.size) 28 ztr := by rw [hV32]; exact Whole.here _ _ _
          have hpx10 : p.heap.size ≤ V31.heap.size := Below.size hb31
          rw [← hV32]
          clear hV32
          refine hKK.out _ _ (HCC.out _ hb32) (fun hHeld => ?_)
          clear hKK KK
          (try simp only [sq])
          refine wpAnyH_ready (rs := [12]) (by kernel_rfl) (by simp) ?_
          refine AllReadyH.cons rfl (fun KK hKK => ?_) AllReadyH.nil
          obtain ⟨V33, hV33⟩ : ∃ x, x = (V32).setRow (p.heap.size) (alc R.1.free R.1.seed R.1.fresh (.slice Amb R.1.macs.length cmb) (.slice Abb R.1.boxes.length cbb)) := ⟨_, rfl⟩
          have va_33 : AlV V33 (fun g => (Q g ∧ g < w.heap.size) ∨ (V30.heap.size ≤ g ∧ g < V31.heap.size)) (.agg (alc R.1.free R.1.seed R.1.fresh (.slice Amb R.1.macs.length cmb) (.slice Abb R.1.boxes.length cbb))) R.1 := by rw [hV33]; exact AlV.keep va_32 (by simp) fun g _ hq => setRow_other _ _ _ _ (by omega)
          have r_x10_33 : Whole V33 (V31.heap.size) 28 ztr := by rw [hV33]; exact Whole.setRow_far r_x10_32 (by omega) _
          have r_x9_33 : Whole V33 (p.heap.size) 32 (alc R.1.free R.1.seed R.1.fresh (.slice Amb R.1.macs.length cmb) (.slice Abb R.1.boxes.length cbb)) := by rw [hV33]; exact Whole.setRow r_x9_32 _
          have hs33 : V32.heap.size ≤ V33.heap.size := by rw [hV33]; simp
          have hb33 : Below p.heap.size p V33 := by rw [hV33]; exact below_setRow hb32 (by omega) _
          rw [if_pos (by kernel_rfl)]
          refine wp_store_row 32 _ _ rfl (p.heap.size) _ rfl rfl 32 _ r_x9_32 (by rw [algSize, alc_size]) (by rw [zar_size, alc_size]) (alc_one _ _ _ _ _ _ _ _ _) ?_
          rw [← hV33]
          clear hV33
          refine hKK.out _ _ (HCC.out _ hb33) (fun hHeld => ?_)
          clear hKK KK
          (try simp only [sq])
          refine wpAnyH_ready (rs := [13]) (by kernel_rfl) (by simp) ?_
          refine AllReadyH.cons rfl (fun KK hKK => ?_) AllReadyH.nil
          obtain ⟨V34, hV34⟩ : ∃ x, x = (V33).setRow (V31.heap.size) (R.2.1.map byt).toArray := ⟨_, rfl⟩
          have va_34 : AlV V34 (fun g => (Q g ∧ g < w.heap.size) ∨ (V30.heap.size ≤ g ∧ g < V31.heap.size)) (.agg (alc R.1.free R.1.seed R.1.fresh (.slice Amb R.1.macs.length cmb) (.slice Abb R.1.boxes.length cbb))) R.1 := by rw [hV34]; exact AlV.keep va_33 (by simp) fun g _ hq => setRow_other _ _ _ _ (by omega)
          have r_x9_34 : Whole V34 (p.heap.size) 32 (alc R.1.free R.1.seed R.1.fresh (.slice Amb R.1.macs.length cmb) (.slice Abb R.1.boxes.length cbb)) := by rw [hV34]; exact Whole.setRow_far r_x9_33 (by omega) _
          have r_x10_34 : Whole V34 (V31.heap.size) 28 (R.2.1.map byt).toArray := by rw [hV34]; exact Whole.setRow r_x10_33 _
          have hs34 : V33.heap.size ≤ V34.heap.size := by rw [hV34]; simp
          have hb34 : Below p.heap.size p V34 := by rw [hV34]; exact below_setRow hb33 (by omega) _
          rw [if_pos (by kernel_rfl)]
          refine wp_store_row 28 _ _ rfl (V31.heap.size) _ rfl rfl 28 _ r_x10_33 (by rw [tagSize, tag_size hlT]) (by rw [ztr_size, tag_size hlT]) (tag_one _) ?_
          rw [← hV34]
          clear hV34
          refine hKK.out _ _ (HCC.out _ hb34) (fun hHeld => ?_)
          clear hKK KK
          (try simp only [sq])
          apply wpT (i := 14) rfl (by kernel_rfl)
          case hQ => exact fun _ _ _ h => h
          case hS => exact hHeld
          case hy => (refine Or.inl ⟨by rfl, ?_⟩; intro w hSw; (try go_split_ands); go_simp; (try with_reducible rfl))
          (try simp only [sq])
          refine wpAnyH_done (by kernel_rfl) ?_ _
          clear HCC hHeld
          go_wp2_with fail
          go_meet
          refine ⟨p.heap.size, V31.heap.size, Amb, Abb, cmb, cbb, rfl, rfl, rfl, r_x9_34, r_x10_34, AlV.mono va_34 fun g hg hq => ⟨by rcases hq with hq | hq; exact .inl hq; exact .inr (by omega), by omega, by omega⟩, hb34, by omega, by omega⟩
        · (try simp only [sq])
          go_simp
          rw [ztr_lit]
          obtain ⟨V35, hV35⟩ : ∃ x, x = (V30).alloc (.cells ztr 28) := ⟨_, rfl⟩
          have hv35 : Below V30.heap.size V30 V35 := by rw [hV35]; exact Below.alloc (Below.refl _ _) (Nat.le_refl _) _
          have hs35 : V30.heap.size < V35.heap.size := by rw [hV35]; simp
          have hb35 : Below p.heap.size p V35 := Below.trans hb30 (Below.mono hv35 (Below.size hb30))
          have r_x9_35 := Whole.below r_x9_30 hv35 (Whole.lt r_x9_30)
          have mb_35 := Bytes.below mb_30 hv35 (Nat.le_refl _)
          have r_x10_35 : Whole V35 (V30.heap.size) 28 ztr := by rw [hV35]; exact Whole.here _ _ _
          have hpx10 : p.heap.size ≤ V30.heap.size := Below.size hb30
          rw [← hV35]
          clear hV35
          refine hKK.out _ _ (HCC.out _ hb35) (fun hHeld => ?_)
          clear hKK KK
          (try simp only [sq])
          refine wpAnyH_ready (rs := [5]) (by kernel_rfl) (by simp) ?_
          refine AllReadyH.cons rfl (fun KK hKK => ?_) AllReadyH.nil
          (try simp only [sq])
          go_simp
          go_at_call 54
          refine (cnode (AlV.below HXP.out hb35 (Nat.le_refl _)) (by omega) hlK mb_35 hml (Tables.below HTP.out (Nat.le_refl _) hb35)).mono ?_
          rintro e V36 ⟨hx36, hv36⟩
          have hs36 : V35.heap.size ≤ V36.heap.size := hv36.size
          have hb36 := Below.trans hb35 (Below.mono hv36 (Below.size hb35))
          have r_x9_36 := Whole.below r_x9_35 hv36 (Whole.lt r_x9_35)
          have mb_36 := Bytes.below mb_35 hv36 (Nat.le_refl _)
          have r_x10_36 := Whole.below r_x10_35 hv36 (Whole.lt r_x10_35)
          rw [← HRE.out] at hx36
          obtain ⟨v36, rfl, hav36⟩ := hx36
          obtain ⟨Amb, cmb, Abb, cbb, rfl, hM, hBx, hA⟩ := id hav36
          clear hM hBx hA
          have va_36 : AlV V36 (fun g => (Q g ∧ g < w.heap.size) ∨ (V35.heap.size ≤ g ∧ g < V36.heap.size)) (.agg (alc R.1.free R.1.seed R.1.fresh (.slice Amb R.1.macs.length cmb) (.slice Abb R.1.boxes.length cbb))) R.1 := AlV.mono hav36 fun g hg hq => hq.elim (fun h => .inl h) (fun h => .inr ⟨h, hg⟩)
          refine hKK.out _ _ (HCC.out _ hb36) (fun hHeld => ?_)
          clear hKK KK
          (try simp only [sq])
          apply wpT (i := 6) rfl (by kernel_rfl)
          case hQ => exact fun _ _ _ h => h
          case hS => exact hHeld
          case hy => (refine Or.inl ⟨by rfl, ?_⟩; intro w hSw; (try go_split_ands); go_simp; (try with_reducible rfl))
          (try simp only [sq])
          apply wpT (i := 7) rfl (by kernel_rfl)
          case hQ => exact fun _ _ _ h => h
          case hS => exact hHeld
          case hy => (refine Or.inl ⟨by rfl, ?_⟩; intro w hSw; (try go_split_ands); go_simp; (try with_reducible rfl))
          (try simp only [sq])
          apply wpT (i := 8) rfl (by kernel_rfl)
          case hQ => exact fun _ _ _ h => h
          case hS => exact hHeld
          case hy => (refine Or.inl ⟨by rfl, ?_⟩; intro w hSw; (try go_split_ands); go_simp; (try with_reducible rfl))
          (try simp only [sq])
          apply wpT (i := 9) rfl (by kernel_rfl)
          case hQ => exact fun _ _ _ h => h
          case hS => exact hHeld
          case hy => (refine Or.inl ⟨by rfl, ?_⟩; intro w hSw; (try go_split_ands); go_simp; (try with_reducible rfl))
          (try simp only [sq])
          refine wpAnyH_ready (rs := [12]) (by kernel_rfl) (by simp) ?_
          refine AllReadyH.cons rfl (fun KK hKK => ?_) AllReadyH.nil
          obtain ⟨V37, hV37⟩ : ∃ x, x = (V36).setRow (p.heap.size) (alc R.1.free R.1.seed R.1.fresh (.slice Amb R.1.macs.length cmb) (.slice Abb R.1.boxes.length cbb)) := ⟨_, rfl⟩
          have r_x10_37 : Whole V37 (V30.heap.size) 28 ztr := by rw [hV37]; exact Whole.setRow_far r_x10_36 (by omega) _
          have va_37 : AlV V37 (fun g => (Q g ∧ g < w.heap.size) ∨ (V35.heap.size ≤ g ∧ g < V36.heap.size)) (.agg (alc R.1.free R.1.seed R.1.fresh (.slice Amb R.1.macs.length cmb) (.slice Abb R.1.boxes.length cbb))) R.1 := by rw [hV37]; exact AlV.keep va_36 (by simp) fun g _ hq => setRow_other _ _ _ _ (by omega)
          have r_x9_37 : Whole V37 (p.heap.size) 32 (alc R.1.free R.1.seed R.1.fresh (.slice Amb R.1.macs.length cmb) (.slice Abb R.1.boxes.length cbb)) := by rw [hV37]; exact Whole.setRow r_x9_36 _
          have hs37 : V36.heap.size ≤ V37.heap.size := by rw [hV37]; simp
          have hb37 : Below p.heap.size p V37 := by rw [hV37]; exact below_setRow hb36 (by omega) _
          rw [if_pos (by kernel_rfl)]
          refine wp_store_row 32 _ _ rfl (p.heap.size) _ rfl rfl 32 _ r_x9_36 (by rw [algSize, alc_size]) (by rw [zar_size, alc_size]) (alc_one _ _ _ _ _ _ _ _ _) ?_
          rw [← hV37]
          clear hV37
          refine hKK.out _ _ (HCC.out _ hb37) (fun hHeld => ?_)
          clear hKK KK
          (try simp only [sq])
          refine wpAnyH_ready (rs := [13]) (by kernel_rfl) (by simp) ?_
          refine AllReadyH.cons rfl (fun KK hKK => ?_) AllReadyH.nil
          obtain ⟨V38, hV38⟩ : ∃ x, x = (V37).setRow (V30.heap.size) (R.2.1.map byt).toArray := ⟨_, rfl⟩
          have va_38 : AlV V38 (fun g => (Q g ∧ g < w.heap.size) ∨ (V35.heap.size ≤ g ∧ g < V36.heap.size)) (.agg (alc R.1.free R.1.seed R.1.fresh (.slice Amb R.1.macs.length cmb) (.slice Abb R.1.boxes.length cbb))) R.1 := by rw [hV38]; exact AlV.keep va_37 (by simp) fun g _ hq => setRow_other _ _ _ _ (by omega)
          have r_x9_38 : Whole V38 (p.heap.size) 32 (alc R.1.free R.1.seed R.1.fresh (.slice Amb R.1.macs.length cmb) (.slice Abb R.1.boxes.length cbb)) := by rw [hV38]; exact Whole.setRow_far r_x9_37 (by omega) _
          have r_x10_38 : Whole V38 (V30.heap.size) 28 (R.2.1.map byt).toArray := by rw [hV38]; exact Whole.setRow r_x10_37 _
          have hs38 : V37.heap.size ≤ V38.heap.size := by rw [hV38]; simp
          have hb38 : Below p.heap.size p V38 := by rw [hV38]; exact below_setRow hb37 (by omega) _
          rw [if_pos (by kernel_rfl)]
          refine wp_store_row 28 _ _ rfl (V30.heap.size) _ rfl rfl 28 _ r_x10_37 (by rw [tagSize, tag_size hlT]) (by rw [ztr_size, tag_size hlT]) (tag_one _) ?_
          rw [← hV38]
          clear hV38
          refine hKK.out _ _ (HCC.out _ hb38) (fun hHeld => ?_)
          clear hKK KK
          (try simp only [sq])
          apply wpT (i := 14) rfl (by kernel_rfl)
          case hQ => exact fun _ _ _ h => h
          case hS => exact hHeld
          case hy => (refine Or.inl ⟨by rfl, ?_⟩; intro w hSw; (try go_split_ands); go_simp; (try with_reducible rfl))
          (try simp only [sq])
          refine wpAnyH_done (by kernel_rfl) ?_ _
          clear HCC hHeld
          go_wp2_with fail
          go_meet
          refine ⟨p.heap.size, V30.heap.size, Amb, Abb, cmb, cbb, rfl, rfl, rfl, r_x9_38, r_x10_38, AlV.mono va_38 fun g hg hq => ⟨by rcases hq with hq | hq; exact .inl hq; exact .inr (by omega), by omega, by omega⟩, hb38, by omega, by omega⟩
      · (try simp only [sq])
        go_simp
        rw [ztr_lit]
        obtain ⟨V39, hV39⟩ : ∃ x, x = (V29).alloc (.cells ztr 28) := ⟨_, rfl⟩
        have hv39 : Below V29.heap.size V29 V39 := by rw [hV39]; exact Below.alloc (Below.refl _ _) (Nat.le_refl _) _
        have hs39 : V29.heap.size < V39.heap.size := by rw [hV39]; simp
        have hb39 : Below p.heap.size p V39 := Below.trans hb29 (Below.mono hv39 (Below.size hb29))
        have r_x9_39 := Whole.below r_x9_29 hv39 (Whole.lt r_x9_29)
        have r_x10_39 : Whole V39 (V29.heap.size) 28 ztr := by rw [hV39]; exact Whole.here _ _ _
        have hpx10 : p.heap.size ≤ V29.heap.size := Below.size hb29
        rw [← hV39]
        clear hV39
        refine hKK.out _ _ (HCC.out _ hb39) (fun hHeld => ?_)
        clear hKK KK
        (try simp only [sq])
        refine wpAnyH_ready (rs := [4]) (by kernel_rfl) (by simp) ?_
        refine AllReadyH.cons rfl (fun KK hKK => ?_) AllReadyH.nil
        (try simp only [sq])
        go_simp
        go_at_call 55
        refine (HCM.out V39).mono ?_
        rintro e V40 ⟨hx40, hv40⟩
        have hs40 : V39.heap.size ≤ V40.heap.size := hv40.size
        have hb40 := Below.trans hb39 (Below.mono hv40 (Below.size hb39))
        have r_x9_40 := Whole.below r_x9_39 hv40 (Whole.lt r_x9_39)
        have r_x10_40 := Whole.below r_x10_39 hv40 (Whole.lt r_x10_39)
        obtain ⟨B40, d40, rfl, hby40⟩ := hx40
        have mb_40 : Bytes V40 (fun _ => True) (.slice B40 m.length d40) m := hby40.mono fun _ _ _ => trivial
        refine hKK.out _ _ (HCC.out _ hb40) (fun hHeld => ?_)
        clear hKK KK
        (try simp only [sq])
        refine wpAnyH_ready (rs := [5]) (by kernel_rfl) (by simp) ?_
        refine AllReadyH.cons rfl (fun KK hKK => ?_) AllReadyH.nil
        (try simp only [sq])
        go_simp
        go_at_call 54
        refine (cnode (AlV.below HXP.out hb40 (Nat.le_refl _)) (by omega) hlK mb_40 hml (Tables.below HTP.out (Nat.le_refl _) hb40)).mono ?_
        rintro e V41 ⟨hx41, hv41⟩
        have hs41 : V40.heap.size ≤ V41.heap.size := hv41.size
        have hb41 := Below.trans hb40 (Below.mono hv41 (Below.size hb40))
        have r_x9_41 := Whole.below r_x9_40 hv41 (Whole.lt r_x9_40)
        have r_x10_41 := Whole.below r_x10_40 hv41 (Whole.lt r_x10_40)
        have mb_41 := Bytes.below mb_40 hv41 (Nat.le_refl _)
        rw [← HRE.out] at hx41
        obtain ⟨v41, rfl, hav41⟩ := hx41
        obtain ⟨Amb, cmb, Abb, cbb, rfl, hM, hBx, hA⟩ := id hav41
        clear hM hBx hA
        have va_41 : AlV V41 (fun g => (Q g ∧ g < w.heap.size) ∨ (V40.heap.size ≤ g ∧ g < V41.heap.size)) (.agg (alc R.1.free R.1.seed R.1.fresh (.slice Amb R.1.macs.length cmb) (.slice Abb R.1.boxes.length cbb))) R.1 := AlV.mono hav41 fun g hg hq => hq.elim (fun h => .inl h) (fun h => .inr ⟨h, hg⟩)
        refine hKK.out _ _ (HCC.out _ hb41) (fun hHeld => ?_)
        clear hKK KK
        (try simp only [sq])
        apply wpT (i := 6) rfl (by kernel_rfl)
        case hQ => exact fun _ _ _ h => h
        case hS => exact hHeld
        case hy => (refine Or.inl ⟨by rfl, ?_⟩; intro w hSw; (try go_split_ands); go_simp; (try with_reducible rfl))
        (try simp only [sq])
        apply wpT (i := 7) rfl (by kernel_rfl)
        case hQ => exact fun _ _ _ h => h
        case hS => exact hHeld
        case hy => (refine Or.inl ⟨by rfl, ?_⟩; intro w hSw; (try go_split_ands); go_simp; (try with_reducible rfl))
        (try simp only [sq])
        apply wpT (i := 8) rfl (by kernel_rfl)
        case hQ => exact fun _ _ _ h => h
        case hS => exact hHeld
        case hy => (refine Or.inl ⟨by rfl, ?_⟩; intro w hSw; (try go_split_ands); go_simp; (try with_reducible rfl))
        (try simp only [sq])
        apply wpT (i := 9) rfl (by kernel_rfl)
        case hQ => exact fun _ _ _ h => h
        case hS => exact hHeld
        case hy => (refine Or.inl ⟨by rfl, ?_⟩; intro w hSw; (try go_split_ands); go_simp; (try with_reducible rfl))
        (try simp only [sq])
        refine wpAnyH_ready (rs := [12]) (by kernel_rfl) (by simp) ?_
        refine AllReadyH.cons rfl (fun KK hKK => ?_) AllReadyH.nil
        obtain ⟨V42, hV42⟩ : ∃ x, x = (V41).setRow (p.heap.size) (alc R.1.free R.1.seed R.1.fresh (.slice Amb R.1.macs.length cmb) (.slice Abb R.1.boxes.length cbb)) := ⟨_, rfl⟩
        have r_x10_42 : Whole V42 (V29.heap.size) 28 ztr := by rw [hV42]; exact Whole.setRow_far r_x10_41 (by omega) _
        have va_42 : AlV V42 (fun g => (Q g ∧ g < w.heap.size) ∨ (V40.heap.size ≤ g ∧ g < V41.heap.size)) (.agg (alc R.1.free R.1.seed R.1.fresh (.slice Amb R.1.macs.length cmb) (.slice Abb R.1.boxes.length cbb))) R.1 := by rw [hV42]; exact AlV.keep va_41 (by simp) fun g _ hq => setRow_other _ _ _ _ (by omega)
        have r_x9_42 : Whole V42 (p.heap.size) 32 (alc R.1.free R.1.seed R.1.fresh (.slice Amb R.1.macs.length cmb) (.slice Abb R.1.boxes.length cbb)) := by rw [hV42]; exact Whole.setRow r_x9_41 _
        have hs42 : V41.heap.size ≤ V42.heap.size := by rw [hV42]; simp
        have hb42 : Below p.heap.size p V42 := by rw [hV42]; exact below_setRow hb41 (by omega) _
        rw [if_pos (by kernel_rfl)]
        refine wp_store_row 32 _ _ rfl (p.heap.size) _ rfl rfl 32 _ r_x9_41 (by rw [algSize, alc_size]) (by rw [zar_size, alc_size]) (alc_one _ _ _ _ _ _ _ _ _) ?_
        rw [← hV42]
        clear hV42
        refine hKK.out _ _ (HCC.out _ hb42) (fun hHeld => ?_)
        clear hKK KK
        (try simp only [sq])
        refine wpAnyH_ready (rs := [13]) (by kernel_rfl) (by simp) ?_
        refine AllReadyH.cons rfl (fun KK hKK => ?_) AllReadyH.nil
        obtain ⟨V43, hV43⟩ : ∃ x, x = (V42).setRow (V29.heap.size) (R.2.1.map byt).toArray := ⟨_, rfl⟩
        have va_43 : AlV V43 (fun g => (Q g ∧ g < w.heap.size) ∨ (V40.heap.size ≤ g ∧ g < V41.heap.size)) (.agg (alc R.1.free R.1.seed R.1.fresh (.slice Amb R.1.macs.length cmb) (.slice Abb R.1.boxes.length cbb))) R.1 := by rw [hV43]; exact AlV.keep va_42 (by simp) fun g _ hq => setRow_other _ _ _ _ (by omega)
        have r_x9_43 : Whole V43 (p.heap.size) 32 (alc R.1.free R.1.seed R.1.fresh (.slice Amb R.1.macs.length cmb) (.slice Abb R.1.boxes.length cbb)) := by rw [hV43]; exact Whole.setRow_far r_x9_42 (by omega) _
        have r_x10_43 : Whole V43 (V29.heap.size) 28 (R.2.1.map byt).toArray := by rw [hV43]; exact Whole.setRow r_x10_42 _
        have hs43 : V42.heap.size ≤ V43.heap.size := by rw [hV43]; simp
        have hb43 : Below p.heap.size p V43 := by rw [hV43]; exact below_setRow hb42 (by omega) _
        rw [if_pos (by kernel_rfl)]
        refine wp_store_row 28 _ _ rfl (V29.heap.size) _ rfl rfl 28 _ r_x10_42 (by rw [tagSize, tag_size hlT]) (by rw [ztr_size, tag_size hlT]) (tag_one _) ?_
        rw [← hV43]
        clear hV43
        refine hKK.out _ _ (HCC.out _ hb43) (fun hHeld => ?_)
        clear hKK KK
        (try simp only [sq])
        apply wpT (i := 14) rfl (by kernel_rfl)
        case hQ => exact fun _ _ _ h => h
        case hS => exact hHeld
        case hy => (refine Or.inl ⟨by rfl, ?_⟩; intro w hSw; (try go_split_ands); go_simp; (try with_reducible rfl))
        (try simp only [sq])
        refine wpAnyH_done (by kernel_rfl) ?_ _
        clear HCC hHeld
        go_wp2_with fail
        go_meet
        refine ⟨p.heap.size, V29.heap.size, Amb, Abb, cmb, cbb, rfl, rfl, rfl, r_x9_43, r_x10_43, AlV.mono va_43 fun g hg hq => ⟨by rcases hq with hq | hq; exact .inl hq; exact .inr (by omega), by omega, by omega⟩, hb43, by omega, by omega⟩
    · (try simp only [sq])
      go_simp
      rw [ztr_lit]
      obtain ⟨V44, hV44⟩ : ∃ x, x = (p.alloc (.cells ztr 28)).drew := ⟨_, rfl⟩
      have hv44 : Below p.drew.heap.size p.drew V44 := by rw [hV44]; exact Below.alloc (Below.refl _ _) (Nat.le_refl _) _
      have hs44 : p.heap.size < V44.heap.size := by rw [hV44]; simp
      have hb44 : Below p.heap.size p V44 := Below.trans hb0 (Below.mono hv44 (Below.size hb0))
      have r_x10_44 : Whole V44 (p.heap.size) 28 ztr := by rw [hV44]; exact Whole.here _ _ _
      have hpx10 : p.heap.size ≤ p.heap.size := Nat.le_refl _
      rw [← hV44]
      clear hV44
      refine hKK.out _ _ (HCC.out _ hb44) (fun hHeld => ?_)
      clear hKK KK
      (try simp only [sq])
      refine wpAnyH_ready (rs := [4, 10]) (by kernel_rfl) (by simp) ?_
      refine AllReadyH.cons rfl (fun KK hKK => ?_) (AllReadyH.cons rfl (fun KK hKK => ?_) AllReadyH.nil)
      · (try simp only [sq])
        go_simp
        go_at_call 55
        refine (HCM.out V44).mono ?_
        rintro e V45 ⟨hx45, hv45⟩
        have hs45 : V44.heap.size ≤ V45.heap.size := hv45.size
        have hb45 := Below.trans hb44 (Below.mono hv45 (Below.size hb44))
        have r_x10_45 := Whole.below r_x10_44 hv45 (Whole.lt r_x10_44)
        obtain ⟨B45, d45, rfl, hby45⟩ := hx45
        have mb_45 : Bytes V45 (fun _ => True) (.slice B45 m.length d45) m := hby45.mono fun _ _ _ => trivial
        refine hKK.out _ _ (HCC.out _ hb45) (fun hHeld => ?_)
        clear hKK KK
        (try simp only [sq])
        refine wpAnyH_ready (rs := [5, 10]) (by kernel_rfl) (by simp) ?_
        refine AllReadyH.cons rfl (fun KK hKK => ?_) (AllReadyH.cons rfl (fun KK hKK => ?_) AllReadyH.nil)
        · (try simp only [sq])
          go_simp
          go_at_call 54
          refine (cnode (AlV.below HXP.out hb45 (Nat.le_refl _)) (by omega) hlK mb_45 hml (Tables.below HTP.out (Nat.le_refl _) hb45)).mono ?_
          rintro e V46 ⟨hx46, hv46⟩
          have hs46 : V45.heap.size ≤ V46.heap.size := hv46.size
          have hb46 := Below.trans hb45 (Below.mono hv46 (Below.size hb45))
          have r_x10_46 := Whole.below r_x10_45 hv46 (Whole.lt r_x10_45)
          have mb_46 := Bytes.below mb_45 hv46 (Nat.le_refl _)
          rw [← HRE.out] at hx46
          obtain ⟨v46, rfl, hav46⟩ := hx46
          obtain ⟨Amb, cmb, Abb, cbb, rfl, hM, hBx, hA⟩ := id hav46
          clear hM hBx hA
          have va_46 : AlV V46 (fun g => (Q g ∧ g < w.heap.size) ∨ (V45.heap.size ≤ g ∧ g < V46.heap.size)) (.agg (alc R.1.free R.1.seed R.1.fresh (.slice Amb R.1.macs.length cmb) (.slice Abb R.1.boxes.length cbb))) R.1 := AlV.mono hav46 fun g hg hq => hq.elim (fun h => .inl h) (fun h => .inr ⟨h, hg⟩)
          refine hKK.out _ _ (HCC.out _ hb46) (fun hHeld => ?_)
          clear hKK KK
          (try simp only [sq])
          apply wpT (i := 6) rfl (by kernel_rfl)
          case hQ => exact fun _ _ _ h => h
          case hS => exact hHeld
          case hy => (refine Or.inl ⟨by rfl, ?_⟩; intro w hSw; (try go_split_ands); go_simp; (try with_reducible rfl))
          (try simp only [sq])
          apply wpT (i := 7) rfl (by kernel_rfl)
          case hQ => exact fun _ _ _ h => h
          case hS => exact hHeld
          case hy => (refine Or.inl ⟨by rfl, ?_⟩; intro w hSw; (try go_split_ands); go_simp; (try with_reducible rfl))
          (try simp only [sq])
          apply wpT (i := 8) rfl (by kernel_rfl)
          case hQ => exact fun _ _ _ h => h
          case hS => exact hHeld
          case hy => (refine Or.inl ⟨by rfl, ?_⟩; intro w hSw; (try go_split_ands); go_simp; (try with_reducible rfl))
          (try simp only [sq])
          apply wpT (i := 9) rfl (by kernel_rfl)
          case hQ => exact fun _ _ _ h => h
          case hS => exact hHeld
          case hy => (refine Or.inl ⟨by rfl, ?_⟩; intro w hSw; (try go_split_ands); go_simp; (try with_reducible rfl))
          (try simp only [sq])
          refine wpAnyH_ready (rs := [10]) (by kernel_rfl) (by simp) ?_
          refine AllReadyH.cons rfl (fun KK hKK => ?_) AllReadyH.nil
          (try simp only [sq])
          go_simp
          rw [zar_lit]
          obtain ⟨V47, hV47⟩ : ∃ x, x = (V46).alloc (.cells zar 32) := ⟨_, rfl⟩
          have hv47 : Below V46.heap.size V46 V47 := by rw [hV47]; exact Below.alloc (Below.refl _ _) (Nat.le_refl _) _
          have hs47 : V46.heap.size < V47.heap.size := by rw [hV47]; simp
          have hb47 : Below p.heap.size p V47 := Below.trans hb46 (Below.mono hv47 (Below.size hb46))
          have r_x10_47 := Whole.below r_x10_46 hv47 (Whole.lt r_x10_46)
          have va_47 := AlV.below va_46 hv47 (Nat.le_refl _)
          have r_x9_47 : Whole V47 (V46.heap.size) 32 zar := by rw [hV47]; exact Whole.here _ _ _
          have hpx9 : p.heap.size ≤ V46.heap.size := Below.size hb46
          rw [← hV47]
          clear hV47
          refine hKK.out _ _ (HCC.out _ hb47) (fun hHeld => ?_)
          clear hKK KK
          (try simp only [sq])
          refine wpAnyH_ready (rs := [12]) (by kernel_rfl) (by simp) ?_
          refine AllReadyH.cons rfl (fun KK hKK => ?_) AllReadyH.nil
          obtain ⟨V48, hV48⟩ : ∃ x, x = (V47).setRow (V46.heap.size) (alc R.1.free R.1.seed R.1.fresh (.slice Amb R.1.macs.length cmb) (.slice Abb R.1.boxes.length cbb)) := ⟨_, rfl⟩
          have r_x10_48 : Whole V48 (p.heap.size) 28 ztr := by rw [hV48]; exact Whole.setRow_far r_x10_47 (by omega) _
          have va_48 : AlV V48 (fun g => (Q g ∧ g < w.heap.size) ∨ (V45.heap.size ≤ g ∧ g < V46.heap.size)) (.agg (alc R.1.free R.1.seed R.1.fresh (.slice Amb R.1.macs.length cmb) (.slice Abb R.1.boxes.length cbb))) R.1 := by rw [hV48]; exact AlV.keep va_47 (by simp) fun g _ hq => setRow_other _ _ _ _ (by omega)
          have r_x9_48 : Whole V48 (V46.heap.size) 32 (alc R.1.free R.1.seed R.1.fresh (.slice Amb R.1.macs.length cmb) (.slice Abb R.1.boxes.length cbb)) := by rw [hV48]; exact Whole.setRow r_x9_47 _
          have hs48 : V47.heap.size ≤ V48.heap.size := by rw [hV48]; simp
          have hb48 : Below p.heap.size p V48 := by rw [hV48]; exact below_setRow hb47 (by omega) _
          rw [if_pos (by kernel_rfl)]
          refine wp_store_row 32 _ _ rfl (V46.heap.size) _ rfl rfl 32 _ r_x9_47 (by rw [algSize, alc_size]) (by rw [zar_size, alc_size]) (alc_one _ _ _ _ _ _ _ _ _) ?_
          rw [← hV48]
          clear hV48
          refine hKK.out _ _ (HCC.out _ hb48) (fun hHeld => ?_)
          clear hKK KK
          (try simp only [sq])
          refine wpAnyH_ready (rs := [13]) (by kernel_rfl) (by simp) ?_
          refine AllReadyH.cons rfl (fun KK hKK => ?_) AllReadyH.nil
          obtain ⟨V49, hV49⟩ : ∃ x, x = (V48).setRow (p.heap.size) (R.2.1.map byt).toArray := ⟨_, rfl⟩
          have va_49 : AlV V49 (fun g => (Q g ∧ g < w.heap.size) ∨ (V45.heap.size ≤ g ∧ g < V46.heap.size)) (.agg (alc R.1.free R.1.seed R.1.fresh (.slice Amb R.1.macs.length cmb) (.slice Abb R.1.boxes.length cbb))) R.1 := by rw [hV49]; exact AlV.keep va_48 (by simp) fun g _ hq => setRow_other _ _ _ _ (by omega)
          have r_x9_49 : Whole V49 (V46.heap.size) 32 (alc R.1.free R.1.seed R.1.fresh (.slice Amb R.1.macs.length cmb) (.slice Abb R.1.boxes.length cbb)) := by rw [hV49]; exact Whole.setRow_far r_x9_48 (by omega) _
          have r_x10_49 : Whole V49 (p.heap.size) 28 (R.2.1.map byt).toArray := by rw [hV49]; exact Whole.setRow r_x10_48 _
          have hs49 : V48.heap.size ≤ V49.heap.size := by rw [hV49]; simp
          have hb49 : Below p.heap.size p V49 := by rw [hV49]; exact below_setRow hb48 (by omega) _
          rw [if_pos (by kernel_rfl)]
          refine wp_store_row 28 _ _ rfl (p.heap.size) _ rfl rfl 28 _ r_x10_48 (by rw [tagSize, tag_size hlT]) (by rw [ztr_size, tag_size hlT]) (tag_one _) ?_
          rw [← hV49]
          clear hV49
          refine hKK.out _ _ (HCC.out _ hb49) (fun hHeld => ?_)
          clear hKK KK
          (try simp only [sq])
          apply wpT (i := 14) rfl (by kernel_rfl)
          case hQ => exact fun _ _ _ h => h
          case hS => exact hHeld
          case hy => (refine Or.inl ⟨by rfl, ?_⟩; intro w hSw; (try go_split_ands); go_simp; (try with_reducible rfl))
          (try simp only [sq])
          refine wpAnyH_done (by kernel_rfl) ?_ _
          clear HCC hHeld
          go_wp2_with fail
          go_meet
          refine ⟨V46.heap.size, p.heap.size, Amb, Abb, cmb, cbb, rfl, rfl, rfl, r_x9_49, r_x10_49, AlV.mono va_49 fun g hg hq => ⟨by rcases hq with hq | hq; exact .inl hq; exact .inr (by omega), by omega, by omega⟩, hb49, by omega, by omega⟩
        · (try simp only [sq])
          go_simp
          rw [zar_lit]
          obtain ⟨V50, hV50⟩ : ∃ x, x = (V45).alloc (.cells zar 32) := ⟨_, rfl⟩
          have hv50 : Below V45.heap.size V45 V50 := by rw [hV50]; exact Below.alloc (Below.refl _ _) (Nat.le_refl _) _
          have hs50 : V45.heap.size < V50.heap.size := by rw [hV50]; simp
          have hb50 : Below p.heap.size p V50 := Below.trans hb45 (Below.mono hv50 (Below.size hb45))
          have r_x10_50 := Whole.below r_x10_45 hv50 (Whole.lt r_x10_45)
          have mb_50 := Bytes.below mb_45 hv50 (Nat.le_refl _)
          have r_x9_50 : Whole V50 (V45.heap.size) 32 zar := by rw [hV50]; exact Whole.here _ _ _
          have hpx9 : p.heap.size ≤ V45.heap.size := Below.size hb45
          rw [← hV50]
          clear hV50
          refine hKK.out _ _ (HCC.out _ hb50) (fun hHeld => ?_)
          clear hKK KK
          (try simp only [sq])
          refine wpAnyH_ready (rs := [5]) (by kernel_rfl) (by simp) ?_
          refine AllReadyH.cons rfl (fun KK hKK => ?_) AllReadyH.nil
          (try simp only [sq])
          go_simp
          go_at_call 54
          refine (cnode (AlV.below HXP.out hb50 (Nat.le_refl _)) (by omega) hlK mb_50 hml (Tables.below HTP.out (Nat.le_refl _) hb50)).mono ?_
          rintro e V51 ⟨hx51, hv51⟩
          have hs51 : V50.heap.size ≤ V51.heap.size := hv51.size
          have hb51 := Below.trans hb50 (Below.mono hv51 (Below.size hb50))
          have r_x10_51 := Whole.below r_x10_50 hv51 (Whole.lt r_x10_50)
          have mb_51 := Bytes.below mb_50 hv51 (Nat.le_refl _)
          have r_x9_51 := Whole.below r_x9_50 hv51 (Whole.lt r_x9_50)
          rw [← HRE.out] at hx51
          obtain ⟨v51, rfl, hav51⟩ := hx51
          obtain ⟨Amb, cmb, Abb, cbb, rfl, hM, hBx, hA⟩ := id hav51
          clear hM hBx hA
          have va_51 : AlV V51 (fun g => (Q g ∧ g < w.heap.size) ∨ (V50.heap.size ≤ g ∧ g < V51.heap.size)) (.agg (alc R.1.free R.1.seed R.1.fresh (.slice Amb R.1.macs.length cmb) (.slice Abb R.1.boxes.length cbb))) R.1 := AlV.mono hav51 fun g hg hq => hq.elim (fun h => .inl h) (fun h => .inr ⟨h, hg⟩)
          refine hKK.out _ _ (HCC.out _ hb51) (fun hHeld => ?_)
          clear hKK KK
          (try simp only [sq])
          apply wpT (i := 6) rfl (by kernel_rfl)
          case hQ => exact fun _ _ _ h => h
          case hS => exact hHeld
          case hy => (refine Or.inl ⟨by rfl, ?_⟩; intro w hSw; (try go_split_ands); go_simp; (try with_reducible rfl))
          (try simp only [sq])
          apply wpT (i := 7) rfl (by kernel_rfl)
          case hQ => exact fun _ _ _ h => h
          case hS => exact hHeld
          case hy => (refine Or.inl ⟨by rfl, ?_⟩; intro w hSw; (try go_split_ands); go_simp; (try with_reducible rfl))
          (try simp only [sq])
          apply wpT (i := 8) rfl (by kernel_rfl)
          case hQ => exact fun _ _ _ h => h
          case hS => exact hHeld
          case hy => (refine Or.inl ⟨by rfl, ?_⟩; intro w hSw; (try go_split_ands); go_simp; (try with_reducible rfl))
          (try simp only [sq])
          apply wpT (i := 9) rfl (by kernel_rfl)
          case hQ => exact fun _ _ _ h => h
          case hS => exact hHeld
          case hy => (refine Or.inl ⟨by rfl, ?_⟩; intro w hSw; (try go_split_ands); go_simp; (try with_reducible rfl))
          (try simp only [sq])
          refine wpAnyH_ready (rs := [12]) (by kernel_rfl) (by simp) ?_
          refine AllReadyH.cons rfl (fun KK hKK => ?_) AllReadyH.nil
          obtain ⟨V52, hV52⟩ : ∃ x, x = (V51).setRow (V45.heap.size) (alc R.1.free R.1.seed R.1.fresh (.slice Amb R.1.macs.length cmb) (.slice Abb R.1.boxes.length cbb)) := ⟨_, rfl⟩
          have r_x10_52 : Whole V52 (p.heap.size) 28 ztr := by rw [hV52]; exact Whole.setRow_far r_x10_51 (by omega) _
          have va_52 : AlV V52 (fun g => (Q g ∧ g < w.heap.size) ∨ (V50.heap.size ≤ g ∧ g < V51.heap.size)) (.agg (alc R.1.free R.1.seed R.1.fresh (.slice Amb R.1.macs.length cmb) (.slice Abb R.1.boxes.length cbb))) R.1 := by rw [hV52]; exact AlV.keep va_51 (by simp) fun g _ hq => setRow_other _ _ _ _ (by omega)
          have r_x9_52 : Whole V52 (V45.heap.size) 32 (alc R.1.free R.1.seed R.1.fresh (.slice Amb R.1.macs.length cmb) (.slice Abb R.1.boxes.length cbb)) := by rw [hV52]; exact Whole.setRow r_x9_51 _
          have hs52 : V51.heap.size ≤ V52.heap.size := by rw [hV52]; simp
          have hb52 : Below p.heap.size p V52 := by rw [hV52]; exact below_setRow hb51 (by omega) _
          rw [if_pos (by kernel_rfl)]
          refine wp_store_row 32 _ _ rfl (V45.heap.size) _ rfl rfl 32 _ r_x9_51 (by rw [algSize, alc_size]) (by rw [zar_size, alc_size]) (alc_one _ _ _ _ _ _ _ _ _) ?_
          rw [← hV52]
          clear hV52
          refine hKK.out _ _ (HCC.out _ hb52) (fun hHeld => ?_)
          clear hKK KK
          (try simp only [sq])
          refine wpAnyH_ready (rs := [13]) (by kernel_rfl) (by simp) ?_
          refine AllReadyH.cons rfl (fun KK hKK => ?_) AllReadyH.nil
          obtain ⟨V53, hV53⟩ : ∃ x, x = (V52).setRow (p.heap.size) (R.2.1.map byt).toArray := ⟨_, rfl⟩
          have va_53 : AlV V53 (fun g => (Q g ∧ g < w.heap.size) ∨ (V50.heap.size ≤ g ∧ g < V51.heap.size)) (.agg (alc R.1.free R.1.seed R.1.fresh (.slice Amb R.1.macs.length cmb) (.slice Abb R.1.boxes.length cbb))) R.1 := by rw [hV53]; exact AlV.keep va_52 (by simp) fun g _ hq => setRow_other _ _ _ _ (by omega)
          have r_x9_53 : Whole V53 (V45.heap.size) 32 (alc R.1.free R.1.seed R.1.fresh (.slice Amb R.1.macs.length cmb) (.slice Abb R.1.boxes.length cbb)) := by rw [hV53]; exact Whole.setRow_far r_x9_52 (by omega) _
          have r_x10_53 : Whole V53 (p.heap.size) 28 (R.2.1.map byt).toArray := by rw [hV53]; exact Whole.setRow r_x10_52 _
          have hs53 : V52.heap.size ≤ V53.heap.size := by rw [hV53]; simp
          have hb53 : Below p.heap.size p V53 := by rw [hV53]; exact below_setRow hb52 (by omega) _
          rw [if_pos (by kernel_rfl)]
          refine wp_store_row 28 _ _ rfl (p.heap.size) _ rfl rfl 28 _ r_x10_52 (by rw [tagSize, tag_size hlT]) (by rw [ztr_size, tag_size hlT]) (tag_one _) ?_
          rw [← hV53]
          clear hV53
          refine hKK.out _ _ (HCC.out _ hb53) (fun hHeld => ?_)
          clear hKK KK
          (try simp only [sq])
          apply wpT (i := 14) rfl (by kernel_rfl)
          case hQ => exact fun _ _ _ h => h
          case hS => exact hHeld
          case hy => (refine Or.inl ⟨by rfl, ?_⟩; intro w hSw; (try go_split_ands); go_simp; (try with_reducible rfl))
          (try simp only [sq])
          refine wpAnyH_done (by kernel_rfl) ?_ _
          clear HCC hHeld
          go_wp2_with fail
          go_meet
          refine ⟨V45.heap.size, p.heap.size, Amb, Abb, cmb, cbb, rfl, rfl, rfl, r_x9_53, r_x10_53, AlV.mono va_53 fun g hg hq => ⟨by rcases hq with hq | hq; exact .inl hq; exact .inr (by omega), by omega, by omega⟩, hb53, by omega, by omega⟩
      · (try simp only [sq])
        go_simp
        rw [zar_lit]
        obtain ⟨V54, hV54⟩ : ∃ x, x = (V44).alloc (.cells zar 32) := ⟨_, rfl⟩
        have hv54 : Below V44.heap.size V44 V54 := by rw [hV54]; exact Below.alloc (Below.refl _ _) (Nat.le_refl _) _
        have hs54 : V44.heap.size < V54.heap.size := by rw [hV54]; simp
        have hb54 : Below p.heap.size p V54 := Below.trans hb44 (Below.mono hv54 (Below.size hb44))
        have r_x10_54 := Whole.below r_x10_44 hv54 (Whole.lt r_x10_44)
        have r_x9_54 : Whole V54 (V44.heap.size) 32 zar := by rw [hV54]; exact Whole.here _ _ _
        have hpx9 : p.heap.size ≤ V44.heap.size := Below.size hb44
        rw [← hV54]
        clear hV54
        refine hKK.out _ _ (HCC.out _ hb54) (fun hHeld => ?_)
        clear hKK KK
        (try simp only [sq])
        refine wpAnyH_ready (rs := [4]) (by kernel_rfl) (by simp) ?_
        refine AllReadyH.cons rfl (fun KK hKK => ?_) AllReadyH.nil
        (try simp only [sq])
        go_simp
        go_at_call 55
        refine (HCM.out V54).mono ?_
        rintro e V55 ⟨hx55, hv55⟩
        have hs55 : V54.heap.size ≤ V55.heap.size := hv55.size
        have hb55 := Below.trans hb54 (Below.mono hv55 (Below.size hb54))
        have r_x10_55 := Whole.below r_x10_54 hv55 (Whole.lt r_x10_54)
        have r_x9_55 := Whole.below r_x9_54 hv55 (Whole.lt r_x9_54)
        obtain ⟨B55, d55, rfl, hby55⟩ := hx55
        have mb_55 : Bytes V55 (fun _ => True) (.slice B55 m.length d55) m := hby55.mono fun _ _ _ => trivial
        refine hKK.out _ _ (HCC.out _ hb55) (fun hHeld => ?_)
        clear hKK KK
        (try simp only [sq])
        refine wpAnyH_ready (rs := [5]) (by kernel_rfl) (by simp) ?_
        refine AllReadyH.cons rfl (fun KK hKK => ?_) AllReadyH.nil
        (try simp only [sq])
        go_simp
        go_at_call 54
        refine (cnode (AlV.below HXP.out hb55 (Nat.le_refl _)) (by omega) hlK mb_55 hml (Tables.below HTP.out (Nat.le_refl _) hb55)).mono ?_
        rintro e V56 ⟨hx56, hv56⟩
        have hs56 : V55.heap.size ≤ V56.heap.size := hv56.size
        have hb56 := Below.trans hb55 (Below.mono hv56 (Below.size hb55))
        have r_x10_56 := Whole.below r_x10_55 hv56 (Whole.lt r_x10_55)
        have r_x9_56 := Whole.below r_x9_55 hv56 (Whole.lt r_x9_55)
        have mb_56 := Bytes.below mb_55 hv56 (Nat.le_refl _)
        rw [← HRE.out] at hx56
        obtain ⟨v56, rfl, hav56⟩ := hx56
        obtain ⟨Amb, cmb, Abb, cbb, rfl, hM, hBx, hA⟩ := id hav56
        clear hM hBx hA
        have va_56 : AlV V56 (fun g => (Q g ∧ g < w.heap.size) ∨ (V55.heap.size ≤ g ∧ g < V56.heap.size)) (.agg (alc R.1.free R.1.seed R.1.fresh (.slice Amb R.1.macs.length cmb) (.slice Abb R.1.boxes.length cbb))) R.1 := AlV.mono hav56 fun g hg hq => hq.elim (fun h => .inl h) (fun h => .inr ⟨h, hg⟩)
        refine hKK.out _ _ (HCC.out _ hb56) (fun hHeld => ?_)
        clear hKK KK
        (try simp only [sq])
        apply wpT (i := 6) rfl (by kernel_rfl)
        case hQ => exact fun _ _ _ h => h
        case hS => exact hHeld
        case hy => (refine Or.inl ⟨by rfl, ?_⟩; intro w hSw; (try go_split_ands); go_simp; (try with_reducible rfl))
        (try simp only [sq])
        apply wpT (i := 7) rfl (by kernel_rfl)
        case hQ => exact fun _ _ _ h => h
        case hS => exact hHeld
        case hy => (refine Or.inl ⟨by rfl, ?_⟩; intro w hSw; (try go_split_ands); go_simp; (try with_reducible rfl))
        (try simp only [sq])
        apply wpT (i := 8) rfl (by kernel_rfl)
        case hQ => exact fun _ _ _ h => h
        case hS => exact hHeld
        case hy => (refine Or.inl ⟨by rfl, ?_⟩; intro w hSw; (try go_split_ands); go_simp; (try with_reducible rfl))
        (try simp only [sq])
        apply wpT (i := 9) rfl (by kernel_rfl)
        case hQ => exact fun _ _ _ h => h
        case hS => exact hHeld
        case hy => (refine Or.inl ⟨by rfl, ?_⟩; intro w hSw; (try go_split_ands); go_simp; (try with_reducible rfl))
        (try simp only [sq])
        refine wpAnyH_ready (rs := [12]) (by kernel_rfl) (by simp) ?_
        refine AllReadyH.cons rfl (fun KK hKK => ?_) AllReadyH.nil
        obtain ⟨V57, hV57⟩ : ∃ x, x = (V56).setRow (V44.heap.size) (alc R.1.free R.1.seed R.1.fresh (.slice Amb R.1.macs.length cmb) (.slice Abb R.1.boxes.length cbb)) := ⟨_, rfl⟩
        have r_x10_57 : Whole V57 (p.heap.size) 28 ztr := by rw [hV57]; exact Whole.setRow_far r_x10_56 (by omega) _
        have va_57 : AlV V57 (fun g => (Q g ∧ g < w.heap.size) ∨ (V55.heap.size ≤ g ∧ g < V56.heap.size)) (.agg (alc R.1.free R.1.seed R.1.fresh (.slice Amb R.1.macs.length cmb) (.slice Abb R.1.boxes.length cbb))) R.1 := by rw [hV57]; exact AlV.keep va_56 (by simp) fun g _ hq => setRow_other _ _ _ _ (by omega)
        have r_x9_57 : Whole V57 (V44.heap.size) 32 (alc R.1.free R.1.seed R.1.fresh (.slice Amb R.1.macs.length cmb) (.slice Abb R.1.boxes.length cbb)) := by rw [hV57]; exact Whole.setRow r_x9_56 _
        have hs57 : V56.heap.size ≤ V57.heap.size := by rw [hV57]; simp
        have hb57 : Below p.heap.size p V57 := by rw [hV57]; exact below_setRow hb56 (by omega) _
        rw [if_pos (by kernel_rfl)]
        refine wp_store_row 32 _ _ rfl (V44.heap.size) _ rfl rfl 32 _ r_x9_56 (by rw [algSize, alc_size]) (by rw [zar_size, alc_size]) (alc_one _ _ _ _ _ _ _ _ _) ?_
        rw [← hV57]
        clear hV57
        refine hKK.out _ _ (HCC.out _ hb57) (fun hHeld => ?_)
        clear hKK KK
        (try simp only [sq])
        refine wpAnyH_ready (rs := [13]) (by kernel_rfl) (by simp) ?_
        refine AllReadyH.cons rfl (fun KK hKK => ?_) AllReadyH.nil
        obtain ⟨V58, hV58⟩ : ∃ x, x = (V57).setRow (p.heap.size) (R.2.1.map byt).toArray := ⟨_, rfl⟩
        have va_58 : AlV V58 (fun g => (Q g ∧ g < w.heap.size) ∨ (V55.heap.size ≤ g ∧ g < V56.heap.size)) (.agg (alc R.1.free R.1.seed R.1.fresh (.slice Amb R.1.macs.length cmb) (.slice Abb R.1.boxes.length cbb))) R.1 := by rw [hV58]; exact AlV.keep va_57 (by simp) fun g _ hq => setRow_other _ _ _ _ (by omega)
        have r_x9_58 : Whole V58 (V44.heap.size) 32 (alc R.1.free R.1.seed R.1.fresh (.slice Amb R.1.macs.length cmb) (.slice Abb R.1.boxes.length cbb)) := by rw [hV58]; exact Whole.setRow_far r_x9_57 (by omega) _
        have r_x10_58 : Whole V58 (p.heap.size) 28 (R.2.1.map byt).toArray := by rw [hV58]; exact Whole.setRow r_x10_57 _
        have hs58 : V57.heap.size ≤ V58.heap.size := by rw [hV58]; simp
        have hb58 : Below p.heap.size p V58 := by rw [hV58]; exact below_setRow hb57 (by omega) _
        rw [if_pos (by kernel_rfl)]
        refine wp_store_row 28 _ _ rfl (p.heap.size) _ rfl rfl 28 _ r_x10_57 (by rw [tagSize, tag_size hlT]) (by rw [ztr_size, tag_size hlT]) (tag_one _) ?_
        rw [← hV58]
        clear hV58
        refine hKK.out _ _ (HCC.out _ hb58) (fun hHeld => ?_)
        clear hKK KK
        (try simp only [sq])
        apply wpT (i := 14) rfl (by kernel_rfl)
        case hQ => exact fun _ _ _ h => h
        case hS => exact hHeld
        case hy => (refine Or.inl ⟨by rfl, ?_⟩; intro w hSw; (try go_split_ands); go_simp; (try with_reducible rfl))
        (try simp only [sq])
        refine wpAnyH_done (by kernel_rfl) ?_ _
        clear HCC hHeld
        go_wp2_with fail
        go_meet
        refine ⟨V44.heap.size, p.heap.size, Amb, Abb, cmb, cbb, rfl, rfl, rfl, r_x9_58, r_x10_58, AlV.mono va_58 fun g hg hq => ⟨by rcases hq with hq | hq; exact .inl hq; exact .inr (by omega), by omega, by omega⟩, hb58, by omega, by omega⟩
  case rest =>
    obtain ⟨G9, G10, Am9, Ab9, cm9, cb9, rfl, rfl, rfl, hr9, hr10, hva, hbc, hg9, hg10⟩ := hcut
    have hswc : p.heap.size ≤ wc.heap.size := hbc.size
    have H6 : Hid (Below w.heap.size w wc) := Lib.hid ((Below.trans H1.out (Below.mono hbc (Below.size H1.out))))
    have H7 : Hid (ALRow wc w.heap.size a.free a.seed a.fresh (.slice Ama a.macs.length cma) (.slice Aba a.boxes.length cba)) := Lib.hid ((Whole.below H2.out hbc (Whole.lt H2.out)))
    have H8 : Hid (Whole wc (w.heap.size + 1) 49 (epl z K).toArray) := Lib.hid ((Whole.below H3.out hbc (Whole.lt H3.out)))
    have H9 : Hid (Whole wc (w.heap.size + 1 + 1) 32 zar) := Lib.hid ((Whole.below H4.out hbc (Whole.lt H4.out)))
    have H10 : Hid (Whole wc (w.heap.size + 1 + 1 + 1) 51 zps) := Lib.hid ((Whole.below H5.out hbc (Whole.lt H5.out)))
    clear H1 H2 H3 H4 H5
    obtain ⟨b, T, eb⟩ := R
    dsimp only at hr9 hr10 hva hlT HR1 ⊢
    have HR9 := Lib.hid hr9
    have HR10 := Lib.hid hr10
    have HVA := Lib.hid hva
    clear hr9 hr10 hva hbc HCM HRE
    by_cases he : eb = 0
    case neg =>
      have HRR : Hid (R0 = (zalg, zpss, eb)) := Lib.hid (by rw [HR1.out, if_pos he])
      have hne : (eb != 0) = true := by simpa using he
      clear he
      go_wp2_with (first
        | (with_reducible refine wpList_store_alg rfl _ _ rfl (g := (w.heap.size + 1 + 1)) rfl rfl H9.out zar_size rfl (by with_unfolding_all rfl) ?_)
        | (with_reducible refine wpList_store_pass rfl _ _ rfl (g := (w.heap.size + 1 + 1 + 1)) rfl rfl (Whole.setRow_far H10.out (by omega) _) zps_size rfl (by with_unfolding_all rfl) ?_))
      rw [zar_lit, zps_lit]
      have e1 := Whole.setRow_far (Whole.setRow H9.out zar) (g' := (w.heap.size + 1 + 1 + 1)) (by omega) zps
      have e2 := Whole.setRow (Whole.setRow_far H10.out (g' := (w.heap.size + 1 + 1)) (by omega) zar) zps
      refine bodyPost_ret (results_pass3 Tryd.results19 _ rfl rfl _ rfl zar_size zps_size e1 e2) rfl ?_
      rw [HRR.out]
      exact ⟨⟨_, _, rfl, alv_zero _ _, pss_zero _ _⟩, below_setRow (below_setRow H6.out (by omega) _) (by omega) _⟩
    subst he
    have HRR : Hid (R0 = (b, ⟨z, (n : Int), [], T⟩, 0)) := Lib.hid (by rw [HR1.out, if_neg (by simp)])
    have hsz : (Tryd.prog.info? 32).map (·.size) = some (alcl b.free b.seed b.fresh (.slice Am9 b.macs.length cm9) (.slice Ab9 b.boxes.length cb9)).length := by rw [alcl_length]; exact algSize
    have hst : (Tryd.prog.info? 28).map (·.size) = some (T.map byt).length := by rw [List.length_map, hlT]; exact tagSize
    have h6d : Whole wc.drew (w.heap.size + 1 + 1) 32 zar := Whole.drew H9.out
    have h7d : Whole wc.drew (w.heap.size + 1 + 1 + 1) 51 zps := Whole.drew H10.out
    have bbd : Below w.heap.size w wc.drew := Below.drew H6.out
    have i0d : wc.drew.rangeAt G9 0 (alcl b.free b.seed b.fresh (.slice Am9 b.macs.length cm9) (.slice Ab9 b.boxes.length cb9)) := (Whole.range (Whole.drew HR9.out))
    have i1d : wc.drew.rangeAt G10 0 (T.map byt) := (TGRow.range (Whole.drew HR10.out))
    have i2d : wc.drew.cell? ⟨(w.heap.size + 1), 0, none⟩ = some (.int .i64 z) := cepl_num (Whole.drew H8.out)
    have kvd : AlV wc.drew (fun g => ((Q g ∧ g < w.heap.size) ∨ p.heap.size ≤ g) ∧ g ≠ G9 ∧ g ≠ G10) (.agg (alc b.free b.seed b.fresh (.slice Am9 b.macs.length cm9) (.slice Ab9 b.boxes.length cb9))) b := AlV.below HVA.out (Below.drew (Below.refl _ _)) (Nat.le_refl _)
    go_upto_region 6 with fail
    refine wp_region_held_drew (S := fun W => W.rangeAt G9 0 (alcl b.free b.seed b.fresh (.slice Am9 b.macs.length cm9) (.slice Ab9 b.boxes.length cb9)) ∧ W.rangeAt G10 0 (T.map byt) ∧ W.cell? ⟨(w.heap.size + 1), 0, none⟩ = some (.int .i64 z)) (by kernel_rfl) (⟨i0d, i1d, i2d⟩) (fun hHeld => ?_)
    apply wpT (i := 0) rfl (by kernel_rfl)
    case hQ => exact fun _ _ _ h => h
    case hS => exact hHeld
    case hy => exact yieldsIf_load_mid (by rfl) 32 _ rfl G9 0 rfl (alcl b.free b.seed b.fresh (.slice Am9 b.macs.length cm9) (.slice Ab9 b.boxes.length cb9)) _ (fun w hS => hS.1) Tryd.underlying32 rfl hsz
    (try simp only [sq])
    apply wpT (i := 1) rfl (by kernel_rfl)
    case hQ => exact fun _ _ _ h => h
    case hS => exact hHeld
    case hy => (refine Or.inl ⟨by rfl, ?_⟩; intro w hSw; (try go_split_ands); go_simp; (try with_reducible rfl))
    (try simp only [sq])
    apply wpT (i := 2) rfl (by kernel_rfl)
    case hQ => exact fun _ _ _ h => h
    case hS => exact hHeld
    case hy => (refine Or.inl ⟨by rfl, ?_⟩; intro w hSw; (try go_split_ands); go_simp; (try with_reducible rfl))
    (try simp only [sq])
    apply wpT (i := 3) rfl (by kernel_rfl)
    case hQ => exact fun _ _ _ h => h
    case hS => exact hHeld
    case hy => (refine Or.inl ⟨by rfl, ?_⟩; intro w hSw; (try go_split_ands); go_simp; (try with_reducible rfl))
    (try simp only [sq])
    apply wpT (i := 4) rfl (by kernel_rfl)
    case hQ => exact fun _ _ _ h => h
    case hS => exact hHeld
    case hy => exact yieldsIf_load_mid (by rfl) 28 _ rfl G10 0 rfl (T.map byt) _ (fun w hS => hS.2.1) Tryd.underlying28 rfl hst
    (try simp only [sq])
    apply wpT (i := 5) rfl (by kernel_rfl)
    case hQ => exact fun _ _ _ h => h
    case hS => exact hHeld
    case hy => exact yieldsIf_build_pass3 (by rfl) _ _ _ rfl hlT rfl rfl rfl
    (try simp only [sq])
    refine wpAnyH_ready (rs := [6]) (by kernel_rfl) (by simp) ?_
    refine AllReadyH.cons rfl (fun KK hKK => ?_) AllReadyH.nil
    obtain ⟨X1, hX1⟩ : ∃ x, x = wc.drew.setRow (w.heap.size + 1 + 1) (alcl b.free b.seed b.fresh (.slice Am9 b.macs.length cm9) (.slice Ab9 b.boxes.length cb9)).toArray := ⟨_, rfl⟩
    have e1 : Whole X1 (w.heap.size + 1 + 1) 32 (alcl b.free b.seed b.fresh (.slice Am9 b.macs.length cm9) (.slice Ab9 b.boxes.length cb9)).toArray := by rw [hX1]; exact Whole.setRow h6d _
    have h7X1 : Whole X1 (w.heap.size + 1 + 1 + 1) 51 zps := by rw [hX1]; exact Whole.setRow_far h7d (by omega) _
    have bbX1 : Below w.heap.size w X1 := by rw [hX1]; exact below_setRow bbd (by omega) _
    have i0X1 : X1.rangeAt G9 0 (alcl b.free b.seed b.fresh (.slice Am9 b.macs.length cm9) (.slice Ab9 b.boxes.length cb9)) := by rw [hX1]; exact (fun i v hv => (cell_setRow_other _ _ _ _ (by show G9 ≠ (w.heap.size + 1 + 1); omega)).trans (i0d i v hv))
    have i1X1 : X1.rangeAt G10 0 (T.map byt) := by rw [hX1]; exact (fun i v hv => (cell_setRow_other _ _ _ _ (by show G10 ≠ (w.heap.size + 1 + 1); omega)).trans (i1d i v hv))
    have i2X1 : X1.cell? ⟨(w.heap.size + 1), 0, none⟩ = some (.int .i64 z) := by rw [hX1]; exact (cell_setRow_other _ _ _ _ (by show (w.heap.size + 1) ≠ (w.heap.size + 1 + 1); omega)).trans i2d
    have kvX1 : AlV X1 (fun g => ((Q g ∧ g < w.heap.size) ∨ p.heap.size ≤ g) ∧ g ≠ G9 ∧ g ≠ G10) (.agg (alc b.free b.seed b.fresh (.slice Am9 b.macs.length cm9) (.slice Ab9 b.boxes.length cb9))) b := by rw [hX1]; exact AlV.keep kvd (by simp) fun g _ hq => setRow_other _ _ _ _ (by omega)
    rw [if_pos (by kernel_rfl)]
    refine wp_store_row 32 _ _ rfl (w.heap.size + 1 + 1) _ rfl rfl 32 _ h6d (by rw [algSize, List.size_toArray, alcl_length]) (by rw [zar_size, List.size_toArray, alcl_length]) (alc_one _ _ _ _ _ _ _ _ _) ?_
    rw [← hX1]
    clear hX1
    refine hKK.out _ _ (⟨i0X1, i1X1, i2X1⟩) (fun hHeld => ?_)
    clear hKK KK
    (try simp only [sq])
    refine wpAnyH_ready (rs := [7]) (by kernel_rfl) (by simp) ?_
    refine AllReadyH.cons rfl (fun KK hKK => ?_) AllReadyH.nil
    obtain ⟨X2, hX2⟩ : ∃ x, x = X1.setRow (w.heap.size + 1 + 1 + 1) (psl z (n : Int) (.slice none 0 0) T).toArray := ⟨_, rfl⟩
    have e1b : Whole X2 (w.heap.size + 1 + 1) 32 (alcl b.free b.seed b.fresh (.slice Am9 b.macs.length cm9) (.slice Ab9 b.boxes.length cb9)).toArray := by rw [hX2]; exact Whole.setRow_far e1 (by omega) _
    have e2 : Whole X2 (w.heap.size + 1 + 1 + 1) 51 (psl z (n : Int) (.slice none 0 0) T).toArray := by rw [hX2]; exact Whole.setRow h7X1 _
    have bbX2 : Below w.heap.size w X2 := by rw [hX2]; exact below_setRow bbX1 (by omega) _
    have i0X2 : X2.rangeAt G9 0 (alcl b.free b.seed b.fresh (.slice Am9 b.macs.length cm9) (.slice Ab9 b.boxes.length cb9)) := by rw [hX2]; exact (fun i v hv => (cell_setRow_other _ _ _ _ (by show G9 ≠ (w.heap.size + 1 + 1 + 1); omega)).trans (i0X1 i v hv))
    have i1X2 : X2.rangeAt G10 0 (T.map byt) := by rw [hX2]; exact (fun i v hv => (cell_setRow_other _ _ _ _ (by show G10 ≠ (w.heap.size + 1 + 1 + 1); omega)).trans (i1X1 i v hv))
    have i2X2 : X2.cell? ⟨(w.heap.size + 1), 0, none⟩ = some (.int .i64 z) := by rw [hX2]; exact (cell_setRow_other _ _ _ _ (by show (w.heap.size + 1) ≠ (w.heap.size + 1 + 1 + 1); omega)).trans i2X1
    have kvX2 : AlV X2 (fun g => ((Q g ∧ g < w.heap.size) ∨ p.heap.size ≤ g) ∧ g ≠ G9 ∧ g ≠ G10) (.agg (alc b.free b.seed b.fresh (.slice Am9 b.macs.length cm9) (.slice Ab9 b.boxes.length cb9))) b := by rw [hX2]; exact AlV.keep kvX1 (by simp) fun g _ hq => setRow_other _ _ _ _ (by omega)
    rw [if_pos (by kernel_rfl)]
    refine wp_store_row 51 _ _ rfl (w.heap.size + 1 + 1 + 1) _ rfl rfl 51 _ h7X1 (by rw [passSize, psl_size]) (by rw [zps_size, psl_size]) (psl_one _ _ _ _ _ _) ?_
    rw [← hX2]
    clear hX2
    refine hKK.out _ _ (⟨i0X2, i1X2, i2X2⟩) (fun hHeld => ?_)
    clear hKK KK
    (try simp only [sq])
    apply wpT (i := 8) rfl (by kernel_rfl)
    case hQ => exact fun _ _ _ h => h
    case hS => exact hHeld
    case hy => (refine Or.inl ⟨by rfl, ?_⟩; intro w hSw; (try go_split_ands); go_simp; (try with_reducible rfl))
    (try simp only [sq])
    refine wpAnyH_done (by kernel_rfl) ?_ _
    go_wp2_with fail
    refine bodyPost_ret (results_pass3 Tryd.results19 _ rfl rfl _ rfl (by rw [List.size_toArray, alcl_length]) (by rw [psl_size]) e1b e2) rfl ?_
    rw [HRR.out]
    exact ⟨⟨_, _, rfl, AlV.mono kvX2 fun g _ hq => by rcases hq.1 with hq | hq; exact .inl hq.1; exact .inr (by omega), none, 0, rfl, Cavs.nil _ _, hlT⟩, bbX2⟩
end Go.Proofs.YtiikhjifjdpgdaaDoor
