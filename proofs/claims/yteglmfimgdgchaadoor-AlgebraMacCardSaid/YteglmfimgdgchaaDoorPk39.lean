/-
  The law AlgebraMac.
-/
import Derived.Deep.CutBlock
import Derived.Deep.RegionHeld3
import Derived.Deep.DeepCutAuto
import Derived.Test.YteglmfimgdgchaaDoorPk21
import Derived.Test.YteglmfimgdgchaaDoorPk27
import Derived.Test.YteglmfimgdgchaaDoorPk3
import Derived.Test.YteglmfimgdgchaaDoorPk15
import Derived.Test.YteglmfimgdgchaaDoorPk20
import Derived.Test.YteglmfimgdgchaaDoorPk34
import Derived.Test.YteglmfimgdgchaaDoorPk37
namespace Go.Proofs.YteglmfimgdgchaaDoor
open Go Go.RowKit Sh Leaf

set_option linter.unusedSimpArgs false in
set_option linter.unusedVariables false in
set_option maxRecDepth 100000 in
set_option maxHeartbeats 8000000 in
theorem amac_law (A0 : Option Addr) (l0 : List Int) (c0 : Nat) {Q1 : Nat → Prop} (A1 : Option Addr) (x : List B8) (c1 : Nat) (m : Nat) (w : World) (hT : Tables w) (hI0 : Ints w (fun b => b < w.heap.size) A0 c0 l0) (hB1 : Bytes w Q1 (.slice A1 x.length c1) x) (hi2 : m < 256) :
    Calls Tryd.prog 4 #[.slice A0 l0.length c0, .slice A1 x.length c1, .int .u8 (m : Int)] w fun e w' => e = .returned (.bool true) ∧ Below w.heap.size w w' := by
  have HT := Lib.hid hT
  clear hT
  have H1 : Hid (Below w.heap.size w w) := Lib.hid (Below.refl _ _)
  obtain ⟨n0, hn0⟩ : ∃ n, n = l0.length := ⟨_, rfl⟩
  rw [← hn0]
  have HI0 := Lib.hid hI0
  have HN0 := Lib.hid hn0
  clear hI0 hn0
  have H2 : Hid (Bytes w (Off []) (.slice A1 x.length c1) x) := Lib.hid (hB1.mono fun _ _ _ => by intro y hy; cases hy)
  clear hB1
  go_enter Tryd.func4, Tryd.ntmps4
  have hcl := ashort H2.out
  go_wp2_with fail
  refine hcl.mono ?_
  rintro e w1 ⟨⟨X, rfl, hqX, hbx⟩, hww⟩
  clear hcl
  replace hww := hww.symm
  subst hww
  clear H2
  have H3 : Hid (Bytes w (Off []) (.slice A1 X.length c1) X) := Lib.hid (hbx)
  clear hbx
  have hcl := dnew A0 _ c0 l0 w HN0.out ((HI0.out.below H1.out).mono (Below.size H1.out))
  go_wp2_with fail
  refine hcl.mono ?_
  rintro e d0 ⟨rfl, hdk, hbu⟩
  clear hcl
  have hsd0 : w.heap.size < d0.heap.size := hdk.lt
  have H4 : Hid (Bytes w (Off [w.heap.size]) (.slice A1 X.length c1) X) := Lib.hid (Bytes.grow H3.out (by omega))
  clear H3
  have H5 : Hid (Below w.heap.size w d0) := Lib.hid ((Below.trans H1.out (Below.mono hbu (Below.size H1.out))))
  have H6 : Hid (Bytes d0 (Off [w.heap.size]) (.slice A1 X.length c1) X) := Lib.hid ((Bytes.below H4.out hbu (Nat.le_refl _)))
  clear H1 H4
  have H7 : Hid (Deck w.heap.size d0) := Lib.hid (hdk)
  clear hdk hbu HI0 HN0
  have hcl := dalg w.heap.size d0 H7.out
  go_wp2_with fail
  refine hcl.mono ?_
  rintro e u1 ⟨⟨v, a, rfl, hv, h4a, hb4a, hf4a, hgd⟩, ht⟩
  clear hcl
  have HGa := Lib.hid hgd
  obtain ⟨Ama, cma, Aba, cba, rfl, hM, hBx, hA⟩ := hv
  have hsla : a.seed.length = 32 := hA.seed
  have hfra : 0 ≤ a.fresh := hA.lo
  have hsu1 : d0.heap.size ≤ u1.heap.size := Turn.size ht
  have H8 : Hid (Below w.heap.size w u1) := Lib.hid ((base_turn H5.out ht (by omega)))
  have H9 : Hid (Bytes u1 (Off [w.heap.size]) (.slice A1 X.length c1) X) := Lib.hid ((Bytes.turn H6.out ht (by simp)))
  have H10 : Hid (Deck w.heap.size u1) := Lib.hid ((ht).1)
  clear H5 H6 H7
  have H11 : Hid (AlV u1 (Off [w.heap.size]) (.agg (alc a.free a.seed a.fresh (.slice Ama a.macs.length cma) (.slice Aba a.boxes.length cba))) a) := Lib.hid (AlV.mono ⟨Ama, cma, Aba, cba, rfl, hM, hBx, hA⟩ (fun _ _ h => off_one h))
  clear hM hBx hA ht hgd
  have ks0 : ∀ z0 : Array Value, Whole (u1.alloc (.cells z0 28)) u1.heap.size 28 z0 := fun _ => (Whole.here _ _ _)
  go_upto_region 4 with (with_reducible refine wpList_store_alg rfl _ _ rfl (g := u1.heap.size) rfl rfl (ks0 _) rfl (alc_size _ _ _ _ _) (alc_one _ _ _ _ _ _ _ _ _) ?_)
  clear ks0
  rw [zar_lit]
  obtain ⟨q2, hq⟩ : ∃ q, q = ((u1.alloc (.cells zar 28)).setRow u1.heap.size (alc a.free a.seed a.fresh (.slice Ama a.macs.length cma) (.slice Aba a.boxes.length cba))) := ⟨_, rfl⟩
  rw [← hq]
  have hsq2 : u1.heap.size + 1 ≤ q2.heap.size := by rw [hq]; simp
  have H12 : Hid (Below w.heap.size w q2) := Lib.hid (by rw [hq]; exact (below_setRow (Below.trans H8.out (Below.mono (Below.alloc (Below.refl _ _) (Nat.le_refl _) _) (Below.size H8.out))) (by omega) _))
  have H13 : Hid (Bytes q2 (Off [u1.heap.size, w.heap.size]) (.slice A1 X.length c1) X) := Lib.hid (by rw [hq]; exact (Bytes.store (Bytes.below (Bytes.grow H9.out (by omega)) (Below.alloc (Below.refl _ _) (Nat.le_refl _) _) (Nat.le_refl _)) (by simp) _))
  have H14 : Hid (Deck w.heap.size q2) := Lib.hid (by rw [hq]; exact (Deck.store (Deck.below H10.out (Below.alloc (Below.refl _ _) (Nat.le_refl _) _) (Deck.lt H10.out)) (by omega) _))
  have H15 : Hid (AlV q2 (Off [u1.heap.size, w.heap.size]) (.agg (alc a.free a.seed a.fresh (.slice Ama a.macs.length cma) (.slice Aba a.boxes.length cba))) a) := Lib.hid (by rw [hq]; exact (AlV.store (AlV.below (AlV.grow H11.out (by omega)) (Below.alloc (Below.refl _ _) (Nat.le_refl _) _) (Nat.le_refl _)) (by simp) _))
  clear H8 H9 H10 H11
  have H16 : Hid (ALRow q2 u1.heap.size a.free a.seed a.fresh (.slice Ama a.macs.length cma) (.slice Aba a.boxes.length cba)) := Lib.hid (by rw [hq]; exact (Whole.setRow (Whole.here _ _ _) _))
  clear hq
  have hcl := dknown w.heap.size q2 H14.out H15.out (fun b h => h _ (by simp))
  go_wp2_with (with_reducible refine wpList_load_alg rfl _ rfl rfl H16.out (alc_size _ _ _ _ _) ?_)
  refine hcl.mono ?_
  rintro e u3 ⟨⟨K, hlK, rfl⟩, ht⟩
  clear hcl
  have hsu3 : q2.heap.size ≤ u3.heap.size := Turn.size ht
  have H17 : Hid (Below w.heap.size w u3) := Lib.hid ((base_turn H12.out ht (by omega)))
  have H18 : Hid (Bytes u3 (Off [u1.heap.size, w.heap.size]) (.slice A1 X.length c1) X) := Lib.hid ((Bytes.turn H13.out ht (by simp)))
  have H19 : Hid (Deck w.heap.size u3) := Lib.hid ((ht).1)
  have H20 : Hid (AlV u3 (Off [u1.heap.size, w.heap.size]) (.agg (alc a.free a.seed a.fresh (.slice Ama a.macs.length cma) (.slice Aba a.boxes.length cba))) a) := Lib.hid ((AlV.turn H15.out ht (by simp) (Turn.size ht)))
  have H21 : Hid (ALRow u3 u1.heap.size a.free a.seed a.fresh (.slice Ama a.macs.length cma) (.slice Aba a.boxes.length cba)) := Lib.hid (((ht).2.2.oth _ _ _ (by omega) H16.out))
  clear H12 H13 H14 H15 H16
  clear ht
  have ks0 : ∀ z0 : Array Value, Whole (u3.alloc (.cells z0 23)) u3.heap.size 23 z0 := fun _ => (Whole.here _ _ _)
  go_upto_region 5 with (with_reducible refine wpList_store_tag rfl _ _ rfl (g := u3.heap.size) rfl rfl (ks0 _) rfl (tag_size hlK) (tag_one _) ?_)
  clear ks0
  rw [ztr_lit]
  obtain ⟨q4, hq⟩ : ∃ q, q = ((u3.alloc (.cells ztr 23)).setRow u3.heap.size (K.map byt).toArray) := ⟨_, rfl⟩
  rw [← hq]
  have hsq4 : u3.heap.size + 1 ≤ q4.heap.size := by rw [hq]; simp
  have H22 : Hid (Below w.heap.size w q4) := Lib.hid (by rw [hq]; exact (below_setRow (Below.trans H17.out (Below.mono (Below.alloc (Below.refl _ _) (Nat.le_refl _) _) (Below.size H17.out))) (by omega) _))
  have H23 : Hid (Bytes q4 (Off [u3.heap.size, u1.heap.size, w.heap.size]) (.slice A1 X.length c1) X) := Lib.hid (by rw [hq]; exact (Bytes.store (Bytes.below (Bytes.grow H18.out (by omega)) (Below.alloc (Below.refl _ _) (Nat.le_refl _) _) (Nat.le_refl _)) (by simp) _))
  have H24 : Hid (Deck w.heap.size q4) := Lib.hid (by rw [hq]; exact (Deck.store (Deck.below H19.out (Below.alloc (Below.refl _ _) (Nat.le_refl _) _) (Deck.lt H19.out)) (by omega) _))
  have H25 : Hid (AlV q4 (Off [u3.heap.size, u1.heap.size, w.heap.size]) (.agg (alc a.free a.seed a.fresh (.slice Ama a.macs.length cma) (.slice Aba a.boxes.length cba))) a) := Lib.hid (by rw [hq]; exact (AlV.store (AlV.below (AlV.grow H20.out (by omega)) (Below.alloc (Below.refl _ _) (Nat.le_refl _) _) (Nat.le_refl _)) (by simp) _))
  have H26 : Hid (ALRow q4 u1.heap.size a.free a.seed a.fresh (.slice Ama a.macs.length cma) (.slice Aba a.boxes.length cba)) := Lib.hid (by rw [hq]; exact (Whole.setRow_far (Whole.below H21.out (Below.alloc (Below.refl _ _) (Nat.le_refl _) _) (Whole.lt H21.out)) (by omega) _))
  clear H17 H18 H19 H20 H21
  have H27 : Hid (TGRow q4 u3.heap.size K) := Lib.hid (by rw [hq]; exact (Whole.setRow (Whole.here _ _ _) _))
  clear hq
  obtain ⟨m3, hm3⟩ : ∃ z : Nat, z = 4095 + m % 3 := ⟨_, rfl⟩
  have hm4 : m3 ≤ 4097 := by omega
  have hmk := make_bytes (m3 : Int) m3 rfl (by omega)
  have hw1 : IntKind.i64.wrap (m : Int) = (m : Int) := by rw [IntKind.wrap_i64]; omega
  have hw2 : IntKind.i64.wrap (4095 + (m : Int).tmod 3) = (m3 : Int) := by rw [Int.tmod_eq_emod_of_nonneg (by omega), IntKind.wrap_i64]; omega
  have hmm : ¬ ((3 : Int) = 0) := by omega
  clear hm3
  simp only [Act.put]
  go_cut [10] (fun s10 wx => LstP w.heap.size q4 [X, [], List.replicate m3 0] s10 wx)
  case first =>
    have hg0 : w.heap.size < q4.heap.size := (H24.out).lt
    have hT0 : Turn w.heap.size q4 q4.drew := ⟨Deck.drew H24.out, (Below.refl _ _).drew, (Oth.refl _ _).drew⟩
    refine wp_region_held_drew (S := fun _ => True) (by kernel_rfl) (trivial) (fun hHeld => ?_)
    apply wpAnyH_take (i := 0) rfl (by kernel_rfl) (by kernel_rfl) (by kernel_rfl)
    case hQ => exact fun _ _ _ h => h
    case hS => exact hHeld
    case hy => (refine Or.inl ⟨by rfl, ?_⟩; intro w hSw; (try go_split_ands); go_simp; (try with_reducible rfl))
    (try simp only [List.getElem_toArray, List.getElem_cons_zero, Act.put, List.setIfInBounds_toArray, List.set_cons_zero, List.set_cons_succ])
    apply wpAnyH_take (i := 1) rfl (by kernel_rfl) (by kernel_rfl) (by kernel_rfl)
    case hQ => exact fun _ _ _ h => h
    case hS => exact hHeld
    case hy => (refine Or.inl ⟨by rfl, ?_⟩; intro w hSw; (try go_split_ands); go_simp; (try with_reducible rfl))
    (try simp only [List.getElem_toArray, List.getElem_cons_succ, List.getElem_cons_zero, Act.put, List.setIfInBounds_toArray, List.set_cons_zero, List.set_cons_succ])
    apply wpAnyH_take (i := 2) rfl (by kernel_rfl) (by kernel_rfl) (by kernel_rfl)
    case hQ => exact fun _ _ _ h => h
    case hS => exact hHeld
    case hy => (refine Or.inl ⟨by rfl, ?_⟩; intro w hSw; (try go_split_ands); go_simp; (try with_reducible rfl))
    (try simp only [List.getElem_toArray, List.getElem_cons_succ, List.getElem_cons_zero, Act.put, List.setIfInBounds_toArray, List.set_cons_zero, List.set_cons_succ])
    apply wpAnyH_take (i := 3) rfl (by kernel_rfl) (by kernel_rfl) (by kernel_rfl)
    case hQ => exact fun _ _ _ h => h
    case hS => exact hHeld
    case hy => (refine Or.inl ⟨by rfl, ?_⟩; intro w hSw; (try go_split_ands); go_simp; (try with_reducible rfl))
    (try simp only [List.getElem_toArray, List.getElem_cons_succ, List.getElem_cons_zero, Act.put, List.setIfInBounds_toArray, List.set_cons_zero, List.set_cons_succ])
    apply wpAnyH_take (i := 4) rfl (by kernel_rfl) (by kernel_rfl) (by kernel_rfl)
    case hQ => exact fun _ _ _ h => h
    case hS => exact hHeld
    case hy => (refine Or.inl ⟨by rfl, ?_⟩; intro w hSw; (try go_split_ands); go_simp; (try with_reducible rfl))
    (try simp only [List.getElem_toArray, List.getElem_cons_succ, List.getElem_cons_zero, Act.put, List.setIfInBounds_toArray, List.set_cons_zero, List.set_cons_succ])
    apply wpAnyH_take (i := 6) rfl (by kernel_rfl) (by kernel_rfl) (by kernel_rfl)
    case hQ => exact fun _ _ _ h => h
    case hS => exact hHeld
    case hy => (refine Or.inl ⟨by rfl, ?_⟩; intro w hSw; (try go_split_ands); go_simp; (try with_reducible rfl))
    (try simp only [List.getElem_toArray, List.getElem_cons_succ, List.getElem_cons_zero, Act.put, List.setIfInBounds_toArray, List.set_cons_zero, List.set_cons_succ])
    refine wpAnyH_ready (rs := [5, 7]) (by kernel_rfl) (by simp) ?_
    refine AllReadyH.cons rfl (fun KK hKK => ?_) (AllReadyH.cons rfl (fun KK hKK => ?_) AllReadyH.nil)
    · (try simp only [List.getElem_toArray, List.getElem_cons_succ, List.getElem_cons_zero])
      go_simp
      obtain ⟨V1, hV1⟩ : ∃ x, x = (q4.alloc (.cells (brow m3 fun _ => 0#8) 5)).drew := ⟨_, rfl⟩
      have hz1 : Bytes V1 (fun b => b = q4.heap.size) (.slice (some ⟨q4.heap.size, 0, none⟩) m3 m3) (List.replicate m3 (0 : B8)) := by rw [hV1]; exact made_bytes _ m3 (by omega)
      have hT1 : Turn w.heap.size q4 V1 := by rw [hV1]; exact Turn.below (Deck.refl H24.out) (((Below.refl _ _).alloc (Nat.le_refl _) _).drew) hg0 (Nat.le_refl _)
      rw [← hV1]
      clear hV1
      refine hKK.out _ _ (trivial) (fun hHeld => ?_)
      clear hKK KK
      (try simp only [List.getElem_toArray, List.getElem_cons_succ, List.getElem_cons_zero, Act.put, List.setIfInBounds_toArray, List.set_cons_zero, List.set_cons_succ])
      refine wpAnyH_ready (rs := [7]) (by kernel_rfl) (by simp) ?_
      refine AllReadyH.cons rfl (fun KK hKK => ?_) AllReadyH.nil
      (try simp only [List.getElem_toArray, List.getElem_cons_succ, List.getElem_cons_zero])
      go_simp
      go_at_call 25
      refine (dbytes 6 (by omega) w.heap.size V1 hT1.1).mono ?_
      rintro e V2 ⟨⟨Ab, cb9, bs, hbl, rfl, hb2⟩, ht2⟩
      have hT2 := Turn.trans hT1 ht2
      have hz2 := hz1.oth ht2.2.2 (fun b hb => by have h1 := hg0; have h2 := Turn.size hT0; omega)
      clear ht2
      refine hKK.out _ _ (trivial) (fun hHeld => ?_)
      clear hKK KK
      (try simp only [List.getElem_toArray, List.getElem_cons_succ, List.getElem_cons_zero, Act.put, List.setIfInBounds_toArray, List.set_cons_zero, List.set_cons_succ])
      refine wpAnyH_ready (rs := [8]) (by kernel_rfl) (by simp) ?_
      refine AllReadyH.cons rfl (fun KK hKK => ?_) AllReadyH.nil
      (try simp only [List.getElem_toArray, List.getElem_cons_succ, List.getElem_cons_zero])
      go_simp
      have hX3 := (Bytes.turn H23.out hT2 (by simp)).elem
      have hL3 := LstP.of (l0 := [X, [], List.replicate m3 0]) (n := 4) hT2 (each4 hX3 (Elem.nil _ _) hz2.elem hb2.elem) rfl (by omega) hbl
      refine hKK.out _ _ (trivial) (fun hHeld => ?_)
      clear hKK KK
      (try simp only [List.getElem_toArray, List.getElem_cons_succ, List.getElem_cons_zero, Act.put, List.setIfInBounds_toArray, List.set_cons_zero, List.set_cons_succ])
      apply wpAnyH_take (i := 9) rfl (by kernel_rfl) (by kernel_rfl) (by kernel_rfl)
      case hQ => exact fun _ _ _ h => h
      case hS => exact hHeld
      case hy => (refine Or.inl ⟨by rfl, ?_⟩; intro w hSw; (try go_split_ands); go_simp; (try with_reducible rfl))
      (try simp only [List.getElem_toArray, List.getElem_cons_succ, List.getElem_cons_zero, Act.put, List.setIfInBounds_toArray, List.set_cons_zero, List.set_cons_succ])
      refine wpAnyH_done (by kernel_rfl) ?_ _
      go_wp2_with fail
      go_meet
      exact hL3
    · (try simp only [List.getElem_toArray, List.getElem_cons_succ, List.getElem_cons_zero])
      go_simp
      go_at_call 25
      refine (dbytes 6 (by omega) w.heap.size q4.drew hT0.1).mono ?_
      rintro e V4 ⟨⟨Ab, cb9, bs, hbl, rfl, hb4⟩, ht4⟩
      have hT4 := Turn.trans hT0 ht4
      clear ht4
      refine hKK.out _ _ (trivial) (fun hHeld => ?_)
      clear hKK KK
      (try simp only [List.getElem_toArray, List.getElem_cons_succ, List.getElem_cons_zero, Act.put, List.setIfInBounds_toArray, List.set_cons_zero, List.set_cons_succ])
      refine wpAnyH_ready (rs := [5]) (by kernel_rfl) (by simp) ?_
      refine AllReadyH.cons rfl (fun KK hKK => ?_) AllReadyH.nil
      (try simp only [List.getElem_toArray, List.getElem_cons_succ, List.getElem_cons_zero])
      go_simp
      obtain ⟨V5, hV5⟩ : ∃ x, x = (V4).alloc (.cells (brow m3 fun _ => 0#8) 5) := ⟨_, rfl⟩
      have hz5 : Bytes V5 (fun b => b = (V4).heap.size) (.slice (some ⟨(V4).heap.size, 0, none⟩) m3 m3) (List.replicate m3 (0 : B8)) := by rw [hV5]; exact made_bytes _ m3 (by omega)
      have hT5 : Turn w.heap.size q4 V5 := by rw [hV5]; exact Turn.below hT4 ((Below.refl _ _).alloc (Nat.le_refl _) _) (Nat.lt_of_lt_of_le hg0 (Turn.size hT4)) (Turn.size hT4)
      have hb5 := hb4.below (show Below (V4).heap.size (V4) V5 by rw [hV5]; exact (Below.refl _ _).alloc (Nat.le_refl _) _) (Nat.le_refl _)
      rw [← hV5]
      clear hV5
      refine hKK.out _ _ (trivial) (fun hHeld => ?_)
      clear hKK KK
      (try simp only [List.getElem_toArray, List.getElem_cons_succ, List.getElem_cons_zero, Act.put, List.setIfInBounds_toArray, List.set_cons_zero, List.set_cons_succ])
      refine wpAnyH_ready (rs := [8]) (by kernel_rfl) (by simp) ?_
      refine AllReadyH.cons rfl (fun KK hKK => ?_) AllReadyH.nil
      (try simp only [List.getElem_toArray, List.getElem_cons_succ, List.getElem_cons_zero])
      go_simp
      have hX6 := (Bytes.turn H23.out hT5 (by simp)).elem
      have hL6 := LstP.of (l0 := [X, [], List.replicate m3 0]) (n := 4) hT5 (each4 hX6 (Elem.nil _ _) hz5.elem hb5.elem) rfl (by omega) hbl
      refine hKK.out _ _ (trivial) (fun hHeld => ?_)
      clear hKK KK
      (try simp only [List.getElem_toArray, List.getElem_cons_succ, List.getElem_cons_zero, Act.put, List.setIfInBounds_toArray, List.set_cons_zero, List.set_cons_succ])
      apply wpAnyH_take (i := 9) rfl (by kernel_rfl) (by kernel_rfl) (by kernel_rfl)
      case hQ => exact fun _ _ _ h => h
      case hS => exact hHeld
      case hy => (refine Or.inl ⟨by rfl, ?_⟩; intro w hSw; (try go_split_ands); go_simp; (try with_reducible rfl))
      (try simp only [List.getElem_toArray, List.getElem_cons_succ, List.getElem_cons_zero, Act.put, List.setIfInBounds_toArray, List.set_cons_zero, List.set_cons_succ])
      refine wpAnyH_done (by kernel_rfl) ?_ _
      go_wp2_with fail
      go_meet
      exact hL6
  case rest =>
    obtain ⟨W0, us, bs, ht, hbw0, hown, heach, hbl⟩ := hcut
    clear hmk hw1 hw2 hmm
    obtain ⟨L0, hL0⟩ : ∃ L, L = [X, [], List.replicate m3 0] ++ [bs] := ⟨_, rfl⟩
    rw [← hL0] at heach
    have HL0 : Hid ((∀ x ∈ L0, x.length ≤ 5000) ∧ L0.length = 4) := Lib.hid (by
      rw [hL0]
      refine ⟨fun x hx => ?_, rfl⟩
      simp at hx
      rcases hx with rfl | rfl | rfl | rfl
      · omega
      · simp
      · simp; omega
      · omega)
    clear hL0 hbl
    have hsW0 : q4.heap.size ≤ W0.heap.size := Turn.size ht
    have H28 : Hid (Below w.heap.size w W0) := Lib.hid ((base_turn H22.out ht (by omega)))
    have H29 : Hid (Bytes W0 (Off [u3.heap.size, u1.heap.size, w.heap.size]) (.slice A1 X.length c1) X) := Lib.hid ((Bytes.turn H23.out ht (by simp)))
    have H30 : Hid (Deck w.heap.size W0) := Lib.hid ((ht).1)
    have H31 : Hid (AlV W0 (Off [u3.heap.size, u1.heap.size, w.heap.size]) (.agg (alc a.free a.seed a.fresh (.slice Ama a.macs.length cma) (.slice Aba a.boxes.length cba))) a) := Lib.hid ((AlV.turn H25.out ht (by simp) (Turn.size ht)))
    have H32 : Hid (ALRow W0 u1.heap.size a.free a.seed a.fresh (.slice Ama a.macs.length cma) (.slice Aba a.boxes.length cba)) := Lib.hid (((ht).2.2.oth _ _ _ (by omega) H26.out))
    have H33 : Hid (TGRow W0 u3.heap.size K) := Lib.hid (((ht).2.2.oth _ _ _ (by omega) H27.out))
    clear H22 H23 H24 H25 H26 H27
    clear H30
    clear H29
    clear ht
    have HMM := Lib.hid (AlV.parts (AlV.mono (Q' := fun b => b < W0.heap.size) H31.out fun b hb _ => hb)).1
    have HOW := Lib.hid (And.intro hown (And.intro heach hbw0))
    have hla : a.macs.length ≤ 4 := h4a
    clear hown heach hbw0
    go_wp2_with fail
    go_loopw [10, 11] (fun vl v wr => ∃ (j : Nat) (us : List Value), v = .int .i64 j ∧ j ≤ a.macs.length ∧ Below W0.heap.size W0 wr ∧ wr.ownsRow W0.heap.size 40 1 vl us.length us ∧ Each wr W0.heap.size us (L0 ++ (a.macs.take j).map (·.msg))) (fun _ v _ => a.macs.length - (intOf v).toNat)
    case atStart => exact ⟨0, us, rfl, by omega, HOW.out.2.2, HOW.out.1, by rw [List.take_zero, List.map_nil, List.append_nil]; exact HOW.out.2.1⟩
    case round =>
      clear HOW
      obtain ⟨j, us, rfl, hj, hbw, hown, heach⟩ := hrel
      have hswr : W0.heap.size ≤ wr.heap.size := hbw.size
      have husl : us.length ≤ 8 := by rw [heach.1, List.length_append, List.length_map, List.length_take, HL0.out.2]; omega
      have HBW := Lib.hid hbw
      have HOW := Lib.hid (And.intro hown heach)
      have H34 : Hid (Below w.heap.size w wr) := Lib.hid ((Below.trans H28.out (Below.mono hbw (Below.size H28.out))))
      have H35 : Hid (AlV wr (Off [u3.heap.size, u1.heap.size, w.heap.size]) (.agg (alc a.free a.seed a.fresh (.slice Ama a.macs.length cma) (.slice Aba a.boxes.length cba))) a) := Lib.hid ((AlV.below H31.out hbw (Nat.le_refl _)))
      have H36 : Hid (ALRow wr u1.heap.size a.free a.seed a.fresh (.slice Ama a.macs.length cma) (.slice Aba a.boxes.length cba)) := Lib.hid ((Whole.below H32.out hbw (Whole.lt H32.out)))
      have H37 : Hid (TGRow wr u3.heap.size K) := Lib.hid ((Whole.below H33.out hbw (Whole.lt H33.out)))
      clear H28 H31 H32 H33
      clear hbw
      have c34 := (ALRow.cells H36.out).2.2.1
      by_cases hlt : j < a.macs.length
      case pos =>
        obtain ⟨e, he⟩ : ∃ e, a.macs[j]? = some e := ⟨_, List.getElem?_eq_getElem hlt⟩
        obtain ⟨g0, o, D, dc, hAm, hq, hg, -, hsl, -, hby, hk32, ht32, hm5, -⟩ := Macs.get (HMM.out.below HBW.out (Nat.le_refl _)) j e he
        rw [hAm] at c34
        clear hAm
        have j0 : (0 : Int) ≤ (j : Int) := by omega
        have jn : (j : Int) < (a.macs.length : Int) := by omega
        obtain ⟨wa, hwa⟩ : ∃ x, x = wr.alloc (.cells #[.slice D e.msg.length dc] 40) := ⟨_, rfl⟩
        have hba : Below wr.heap.size wr wa := by rw [hwa]; exact (Below.refl _ _).alloc (Nat.le_refl _) _
        have hoa := own_below hown hba (Nat.le_refl _)
        have hga : wa.cell? ⟨wr.heap.size, 0, none⟩ = some (.slice D e.msg.length dc) := by rw [hwa]; exact cell_of_row _ _ _ _ _ _ (heap_alloc_new wr _)
        have hsa : W0.heap.size ≤ wa.heap.size := Nat.le_trans hswr hba.size
        have hea := heach.keep (hba.mono hswr) (Kb.below hba)
        have hla2 := (Elem.of_low hby).keep (hba.mono hswr) (Kb.below hba)
        have HX := Lib.hid (And.intro hea hla2)
        have HE := Lib.hid he
        have HBA := Lib.hid (Below.trans HBW.out (Below.mono hba hswr))
        clear hown heach hby hea hla2 he hba hq hm5
        rw [hwa] at hoa hga
        rw [hwa] at hsa
        go_wp2_with (at_builtin; go_must (refine wpList_append_elem (by rfl) _ _ rfl W0.heap.size _ us rfl hoa _ rfl wr.heap.size 1 rfl hga (by omega) hsa ?_; intro v2 w2 hown2 hbe2 hkb2 hgr2))
        go_roundw
        case rel =>
          rw [← hwa] at hbe2 hkb2
          refine ⟨j + 1, _, by go_num, by omega, HBA.out.trans hbe2, hown2, ?_⟩
          rw [List.take_add_one, HE.out, Option.toList_some, List.map_append, List.map_cons, List.map_nil, ← List.append_assoc]
          exact (HX.out.1.keep hbe2 hkb2).snoc (HX.out.2.keep hbe2 hkb2)
        case measure => simp [intOf]; omega
      case neg =>
        rename World => wv
        obtain rfl : j = a.macs.length := by omega
        have hLs := Lists.of_own hown heach
        have hLL : ∀ x ∈ L0 ++ (a.macs.take a.macs.length).map (·.msg), x.length ≤ 5000 := by
          intro x hx
          rcases List.mem_append.1 hx with hx | hx
          · exact HL0.out.1 x hx
          · obtain ⟨e, he, rfl⟩ := List.mem_map.1 hx
            have := HGa.out.lm e (List.mem_of_mem_take he)
            omega
        obtain ⟨LL, hLLe⟩ : ∃ L, L = L0 ++ (a.macs.take a.macs.length).map (·.msg) := ⟨_, rfl⟩
        rw [← hLLe] at hLs hLL
        have HLS := Lib.hid hLs
        have HLL := Lib.hid hLL
        have hLsl : LL.length ≤ 1000000000 := by rw [hLLe, List.length_append, List.length_map, List.length_take, HL0.out.2]; omega
        obtain ⟨Al, cl, us2, hvl, hLr⟩ := hLs
        subst hvl
        clear hLr hLL hLLe hown heach
        clear HOW
        go_wp2_with fail
        clear c34
        go_loopw [12] (fun v wr => ∃ i : Nat, v = .int .i64 i ∧ i ≤ LL.length ∧ Below wv.heap.size wv wr) (fun v _ => LL.length - (intOf v).toNat)
        case atStart => exact ⟨0, rfl, by omega, Below.refl _ _⟩
        case round =>
          obtain ⟨i, rfl, hi, hbw⟩ := hrel
          have hsw2 : wv.heap.size ≤ wr.heap.size := hbw.size
          have H38 : Hid (Below wv.heap.size wv wv) := Lib.hid (Below.refl _ _)
          have H39 : Hid (Below w.heap.size w wr) := Lib.hid ((Below.trans H34.out (Below.mono hbw (Below.size H34.out))))
          have H40 : Hid (AlV wr (Off [u3.heap.size, u1.heap.size, w.heap.size]) (.agg (alc a.free a.seed a.fresh (.slice Ama a.macs.length cma) (.slice Aba a.boxes.length cba))) a) := Lib.hid ((AlV.below H35.out hbw (Nat.le_refl _)))
          have H41 : Hid (ALRow wr u1.heap.size a.free a.seed a.fresh (.slice Ama a.macs.length cma) (.slice Aba a.boxes.length cba)) := Lib.hid ((Whole.below H36.out hbw (Whole.lt H36.out)))
          have H42 : Hid (TGRow wr u3.heap.size K) := Lib.hid ((Whole.below H37.out hbw (Whole.lt H37.out)))
          have H43 : Hid (Below wv.heap.size wv wr) := Lib.hid ((Below.trans H38.out (Below.mono hbw (Below.size H38.out))))
          clear H34 H35 H36 H37 H38
          have hLs := HLS.out.below hbw (Nat.le_refl _)
          clear hbw
          by_cases hlt2 : i < LL.length
          case neg =>
            obtain rfl : i = LL.length := by omega
            have hcl := aawk wr (Tables.below HT.out (Nat.le_refl _) H39.out)
            go_wp2_with fail
            refine hcl.mono ?_
            rintro e w9 ⟨rfl, hb9⟩
            clear hcl
            have HG := Lib.hid (Below.trans H39.out (Below.mono hb9 (Below.size H39.out)))
            go_wp2
            go_ret
            exact ⟨rfl, HG.out⟩
          case pos =>
            obtain ⟨-, -, -, hget⟩ := Lists.get hLs
            obtain ⟨g1, o1, A3, c3, hAl, hcl3, hb3, hg1⟩ := hget i hlt2
            clear hget hLs
            have hM5 : (LL[i]).length ≤ 5000 := HLL.out _ (List.getElem_mem hlt2)
            obtain ⟨M, hM⟩ : ∃ M, M = LL[i] := ⟨_, rfl⟩
            rw [← hM] at hM5 hb3 hcl3
            have HALL := Lib.hid hAl
            subst hAl
            have i0 : (0 : Int) ≤ (i : Int) := by omega
            have inn : (i : Int) < (LL.length : Int) := by omega
            have HB3 := Lib.hid hb3
            clear hM hb3
            go_upto_region 13 with fail
            have hav0 := AlV.mono (Q' := fun q => q < wr.heap.size) H40.out fun q hq _ => hq
            obtain ⟨R, hR⟩ : ∃ R, R = aMac a K M := ⟨_, rfl⟩
            have hlT : R.2.1.length = 32 := by rw [hR]; exact AlV.mac_len hav0 _ _
            have hcl : ∀ W, Below wr.heap.size wr W → Calls Tryd.prog 26 #[.agg (alc a.free a.seed a.fresh (.slice Ama a.macs.length cma) (.slice Aba a.boxes.length cba)), .agg (K.map byt).toArray, .slice A3 M.length c3] W fun e w' => AlgR w' (fun q => q < wr.heap.size ∨ W.heap.size ≤ q) e R ∧ Below W.heap.size W w' := fun W hb => by
              rw [hR]
              exact pmac (AlV.below hav0 hb (Nat.le_refl _)) (by omega) hlK (HB3.out.below hb (Nat.le_refl _)) (by omega) (Tables.below (Tables.below HT.out (Nat.le_refl _) H39.out) (Nat.le_refl _) hb)
            have HCL := Lib.hid hcl
            clear hcl hav0
            obtain ⟨b, T, eT⟩ := R
            have HEb := Lib.hid hR
            clear hR
            dsimp only at hlT
            (try simp only [Act.put])
            go_cut [13, 14, 15] (fun s13 s14 s15 wx => McP wr (b, T, eT) s13 s14 s15 wx)
            case first =>
              have hcl := HCL.out
              have hcc : ∀ W, Below wr.heap.size wr W → (fun W : World => W.rangeAt u1.heap.size 0 (alcl a.free a.seed a.fresh (.slice Ama a.macs.length cma) (.slice Aba a.boxes.length cba)) ∧ W.rangeAt u3.heap.size 0 (K.map byt) ∧ W.cell? ⟨g1, o1 + i, none⟩ = some (.slice A3 M.length c3)) W := fun W hb => ⟨Whole.range (Whole.below H41.out hb (Whole.lt H41.out)), TGRow.range (Whole.below H42.out hb (Whole.lt H42.out)), (hb.cell (p := ⟨g1, o1 + i, none⟩) hg1).trans hcl3⟩
              have HCC := Lib.hid hcc
              clear hcc
              have hb0 : Below wr.heap.size wr wr.drew := Below.drew (Below.refl _ _)
              refine wp_region_held_drew (S := fun W : World => W.rangeAt u1.heap.size 0 (alcl a.free a.seed a.fresh (.slice Ama a.macs.length cma) (.slice Aba a.boxes.length cba)) ∧ W.rangeAt u3.heap.size 0 (K.map byt) ∧ W.cell? ⟨g1, o1 + i, none⟩ = some (.slice A3 M.length c3)) (by kernel_rfl) (HCC.out _ hb0) (fun hHeld => ?_)
              apply wpAnyH_take (i := 0) rfl (by kernel_rfl) (by kernel_rfl) (by kernel_rfl)
              case hQ => exact fun _ _ _ h => h
              case hS => exact hHeld
              case hy => exact yieldsIf_load_mid (by rfl) 28 _ rfl u1.heap.size (0) rfl ((alcl a.free a.seed a.fresh (.slice Ama a.macs.length cma) (.slice Aba a.boxes.length cba))) _ (fun w hS => hS.1) Tryd.underlying28 rfl (by rw [algSize, alcl_length])
              (try simp only [List.getElem_toArray, List.getElem_cons_zero, Act.put, List.setIfInBounds_toArray, List.set_cons_zero, List.set_cons_succ])
              apply wpAnyH_take (i := 1) rfl (by kernel_rfl) (by kernel_rfl) (by kernel_rfl)
              case hQ => exact fun _ _ _ h => h
              case hS => exact hHeld
              case hy => exact yieldsIf_load_mid (by rfl) 23 _ rfl u3.heap.size (0) rfl ((K.map byt)) _ (fun w hS => hS.2.1) Tryd.underlying23 rfl (by rw [tagSize, List.length_map, hlK])
              (try simp only [List.getElem_toArray, List.getElem_cons_succ, List.getElem_cons_zero, Act.put, List.setIfInBounds_toArray, List.set_cons_zero, List.set_cons_succ])
              apply wpAnyH_take (i := 2) rfl (by kernel_rfl) (by kernel_rfl) (by kernel_rfl)
              case hQ => exact fun _ _ _ h => h
              case hS => exact hHeld
              case hy => (refine Or.inl ⟨by rfl, ?_⟩; intro w hSw; (try go_split_ands); go_simp; (try with_reducible rfl))
              (try simp only [List.getElem_toArray, List.getElem_cons_succ, List.getElem_cons_zero, Act.put, List.setIfInBounds_toArray, List.set_cons_zero, List.set_cons_succ])
              apply wpAnyH_take (i := 3) rfl (by kernel_rfl) (by kernel_rfl) (by kernel_rfl)
              case hQ => exact fun _ _ _ h => h
              case hS => exact hHeld
              case hy => (refine Or.inl ⟨by rfl, ?_⟩; intro w hSw; (try go_split_ands); go_simp; (try with_reducible rfl))
              (try simp only [List.getElem_toArray, List.getElem_cons_succ, List.getElem_cons_zero, Act.put, List.setIfInBounds_toArray, List.set_cons_zero, List.set_cons_succ])
              apply wpAnyH_take (i := 4) rfl (by kernel_rfl) (by kernel_rfl) (by kernel_rfl)
              case hQ => exact fun _ _ _ h => h
              case hS => exact hHeld
              case hy => (refine Or.inl ⟨by rfl, ?_⟩; intro w hSw; (try go_split_ands); go_simp; (try with_reducible rfl))
              (try simp only [List.getElem_toArray, List.getElem_cons_succ, List.getElem_cons_zero, Act.put, List.setIfInBounds_toArray, List.set_cons_zero, List.set_cons_succ])
              apply wpAnyH_take (i := 5) rfl (by kernel_rfl) (by kernel_rfl) (by kernel_rfl)
              case hQ => exact fun _ _ _ h => h
              case hS => exact hHeld
              case hy => (refine Or.inl ⟨by rfl, ?_⟩; intro w hSw; (try go_split_ands); go_simp; (try with_reducible rfl))
              (try simp only [List.getElem_toArray, List.getElem_cons_succ, List.getElem_cons_zero, Act.put, List.setIfInBounds_toArray, List.set_cons_zero, List.set_cons_succ])
              refine wpAnyH_ready (rs := [6, 11, 12]) (by kernel_rfl) (by simp) ?_
              refine AllReadyH.cons rfl (fun KK hKK => ?_) (AllReadyH.cons rfl (fun KK hKK => ?_) (AllReadyH.cons rfl (fun KK hKK => ?_) AllReadyH.nil))
              · (try simp only [List.getElem_toArray, List.getElem_cons_succ, List.getElem_cons_zero])
                go_simp
                go_at_call 26
                refine (hcl _ hb0).mono ?_
                rintro e V1 ⟨⟨x, rfl, hx⟩, hv1⟩
                have hb1 := Below.trans hb0 (Below.mono hv1 (Below.size hb0))
                obtain ⟨Amb, cmb, Abb, cbb, rfl, hM, hBx, hA⟩ := hx
                have hav1 : AlV V1 (Off []) (.agg (alc b.free b.seed b.fresh (.slice Amb b.macs.length cmb) (.slice Abb b.boxes.length cbb))) b := AlV.mono (Q := fun q => q < wr.heap.size ∨ (wr.drew).heap.size ≤ q) ⟨Amb, cmb, Abb, cbb, rfl, hM, hBx, hA⟩ fun q _ hq y hy => by cases hy
                clear hM hBx hA
                refine hKK.out _ _ (HCC.out _ hb1) (fun hHeld => ?_)
                clear hKK KK
                (try simp only [List.getElem_toArray, List.getElem_cons_succ, List.getElem_cons_zero, Act.put, List.setIfInBounds_toArray, List.set_cons_zero, List.set_cons_succ])
                apply wpAnyH_take (i := 7) rfl (by kernel_rfl) (by kernel_rfl) (by kernel_rfl)
                case hQ => exact fun _ _ _ h => h
                case hS => exact hHeld
                case hy => (refine Or.inl ⟨by rfl, ?_⟩; intro w hSw; (try go_split_ands); go_simp; (try with_reducible rfl))
                (try simp only [List.getElem_toArray, List.getElem_cons_succ, List.getElem_cons_zero, Act.put, List.setIfInBounds_toArray, List.set_cons_zero, List.set_cons_succ])
                apply wpAnyH_take (i := 8) rfl (by kernel_rfl) (by kernel_rfl) (by kernel_rfl)
                case hQ => exact fun _ _ _ h => h
                case hS => exact hHeld
                case hy => (refine Or.inl ⟨by rfl, ?_⟩; intro w hSw; (try go_split_ands); go_simp; (try with_reducible rfl))
                (try simp only [List.getElem_toArray, List.getElem_cons_succ, List.getElem_cons_zero, Act.put, List.setIfInBounds_toArray, List.set_cons_zero, List.set_cons_succ])
                apply wpAnyH_take (i := 9) rfl (by kernel_rfl) (by kernel_rfl) (by kernel_rfl)
                case hQ => exact fun _ _ _ h => h
                case hS => exact hHeld
                case hy => (refine Or.inl ⟨by rfl, ?_⟩; intro w hSw; (try go_split_ands); go_simp; (try with_reducible rfl))
                (try simp only [List.getElem_toArray, List.getElem_cons_succ, List.getElem_cons_zero, Act.put, List.setIfInBounds_toArray, List.set_cons_zero, List.set_cons_succ])
                apply wpAnyH_take (i := 10) rfl (by kernel_rfl) (by kernel_rfl) (by kernel_rfl)
                case hQ => exact fun _ _ _ h => h
                case hS => exact hHeld
                case hy => (refine Or.inl ⟨by rfl, ?_⟩; intro w hSw; (try go_split_ands); go_simp; (try with_reducible rfl))
                (try simp only [List.getElem_toArray, List.getElem_cons_succ, List.getElem_cons_zero, Act.put, List.setIfInBounds_toArray, List.set_cons_zero, List.set_cons_succ])
                refine wpAnyH_ready (rs := [11, 12]) (by kernel_rfl) (by simp) ?_
                refine AllReadyH.cons rfl (fun KK hKK => ?_) (AllReadyH.cons rfl (fun KK hKK => ?_) AllReadyH.nil)
                · (try simp only [List.getElem_toArray, List.getElem_cons_succ, List.getElem_cons_zero])
                  go_simp
                  rw [zar_lit]
                  obtain ⟨V2, hV2⟩ : ∃ x, x = (V1).alloc (.cells zar 28) := ⟨_, rfl⟩
                  have hv2 : Below V1.heap.size V1 V2 := by rw [hV2]; exact (Below.refl _ _).alloc (Nat.le_refl _) _
                  have hb2 : Below wr.heap.size wr V2 := Below.trans hb1 (Below.mono hv2 (Below.size hb1))
                  have nb2 : Whole V2 V1.heap.size 28 zar := by rw [hV2]; exact Whole.here _ _ _
                  have pb2 : wr.heap.size ≤ V1.heap.size := Below.size hb1
                  rw [← hV2]
                  clear hV2
                  have hav2 : AlV V2 (Off [V1.heap.size]) (.agg (alc b.free b.seed b.fresh (.slice Amb b.macs.length cmb) (.slice Abb b.boxes.length cbb))) b := AlV.below (AlV.grow hav1 (Nat.le_refl _)) hv2 (Nat.le_refl _)
                  refine hKK.out _ _ (HCC.out _ hb2) (fun hHeld => ?_)
                  clear hKK KK
                  (try simp only [List.getElem_toArray, List.getElem_cons_succ, List.getElem_cons_zero, Act.put, List.setIfInBounds_toArray, List.set_cons_zero, List.set_cons_succ])
                  refine wpAnyH_ready (rs := [12]) (by kernel_rfl) (by simp) ?_
                  refine AllReadyH.cons rfl (fun KK hKK => ?_) AllReadyH.nil
                  (try simp only [List.getElem_toArray, List.getElem_cons_succ, List.getElem_cons_zero])
                  go_simp
                  rw [ztr_lit]
                  obtain ⟨V3, hV3⟩ : ∃ x, x = (V2).alloc (.cells ztr 23) := ⟨_, rfl⟩
                  have hv3 : Below V2.heap.size V2 V3 := by rw [hV3]; exact (Below.refl _ _).alloc (Nat.le_refl _) _
                  have hb3 : Below wr.heap.size wr V3 := Below.trans hb2 (Below.mono hv3 (Below.size hb2))
                  have nT3 : Whole V3 V2.heap.size 23 ztr := by rw [hV3]; exact Whole.here _ _ _
                  have pT3 : wr.heap.size ≤ V2.heap.size := Below.size hb2
                  have rb3 := Whole.below nb2 hv3 (Whole.lt nb2)
                  rw [← hV3]
                  clear hV3
                  have hav3 : AlV V3 (Off [V2.heap.size, V1.heap.size]) (.agg (alc b.free b.seed b.fresh (.slice Amb b.macs.length cmb) (.slice Abb b.boxes.length cbb))) b := AlV.below (AlV.grow hav2 (Nat.le_refl _)) hv3 (Nat.le_refl _)
                  have dbT : V1.heap.size ≠ V2.heap.size := Nat.ne_of_lt (Whole.lt nb2)
                  refine hKK.out _ _ (HCC.out _ hb3) (fun hHeld => ?_)
                  clear hKK KK
                  (try simp only [List.getElem_toArray, List.getElem_cons_succ, List.getElem_cons_zero, Act.put, List.setIfInBounds_toArray, List.set_cons_zero, List.set_cons_succ])
                  refine wpAnyH_ready (rs := [13]) (by kernel_rfl) (by simp) ?_
                  refine AllReadyH.cons rfl (fun KK hKK => ?_) AllReadyH.nil
                  obtain ⟨V4, hV4⟩ : ∃ x, x = (V3).setRow (V1.heap.size) (alc b.free b.seed b.fresh (.slice Amb b.macs.length cmb) (.slice Abb b.boxes.length cbb)) := ⟨_, rfl⟩
                  have nb4 : Whole V4 (V1.heap.size) 28 (alc b.free b.seed b.fresh (.slice Amb b.macs.length cmb) (.slice Abb b.boxes.length cbb)) := by rw [hV4]; exact Whole.setRow rb3 _
                  have hb4 : Below wr.heap.size wr V4 := by rw [hV4]; exact below_setRow hb3 pb2 _
                  have rT4 := Whole.setRow_far nT3 (Ne.symm dbT) (alc b.free b.seed b.fresh (.slice Amb b.macs.length cmb) (.slice Abb b.boxes.length cbb))
                  rw [← hV4] at rT4
                  have hav4 : AlV V4 (Off [V2.heap.size, V1.heap.size]) (.agg (alc b.free b.seed b.fresh (.slice Amb b.macs.length cmb) (.slice Abb b.boxes.length cbb))) b := by rw [hV4]; exact AlV.store hav3 (by simp) _
                  rw [if_pos (by kernel_rfl)]
                  refine wp_store_row 28 _ _ rfl (V1.heap.size) _ rfl rfl 28 _ rb3 (by rw [algSize, alc_size]) (by rw [zar_size, alc_size]) (alc_one _ _ _ _ _ _ _ _ _) ?_
                  rw [← hV4]
                  clear hV4
                  refine hKK.out _ _ (HCC.out _ hb4) (fun hHeld => ?_)
                  clear hKK KK
                  (try simp only [List.getElem_toArray, List.getElem_cons_succ, List.getElem_cons_zero, Act.put, List.setIfInBounds_toArray, List.set_cons_zero, List.set_cons_succ])
                  refine wpAnyH_ready (rs := [14]) (by kernel_rfl) (by simp) ?_
                  refine AllReadyH.cons rfl (fun KK hKK => ?_) AllReadyH.nil
                  obtain ⟨V5, hV5⟩ : ∃ x, x = (V4).setRow (V2.heap.size) (T.map byt).toArray := ⟨_, rfl⟩
                  have nT5 : Whole V5 (V2.heap.size) 23 (T.map byt).toArray := by rw [hV5]; exact Whole.setRow rT4 _
                  have hb5 : Below wr.heap.size wr V5 := by rw [hV5]; exact below_setRow hb4 pT3 _
                  have rb5 := Whole.setRow_far nb4 (dbT) (T.map byt).toArray
                  rw [← hV5] at rb5
                  have hav5 : AlV V5 (Off [V2.heap.size, V1.heap.size]) (.agg (alc b.free b.seed b.fresh (.slice Amb b.macs.length cmb) (.slice Abb b.boxes.length cbb))) b := by rw [hV5]; exact AlV.store hav4 (by simp) _
                  rw [if_pos (by kernel_rfl)]
                  refine wp_store_row 23 _ _ rfl (V2.heap.size) _ rfl rfl 23 _ rT4 (by rw [tagSize, tag_size hlT]) (by rw [ztr_size, tag_size hlT]) (tag_one _) ?_
                  rw [← hV5]
                  clear hV5
                  refine hKK.out _ _ (HCC.out _ hb5) (fun hHeld => ?_)
                  clear hKK KK
                  (try simp only [List.getElem_toArray, List.getElem_cons_succ, List.getElem_cons_zero, Act.put, List.setIfInBounds_toArray, List.set_cons_zero, List.set_cons_succ])
                  apply wpAnyH_take (i := 15) rfl (by kernel_rfl) (by kernel_rfl) (by kernel_rfl)
                  case hQ => exact fun _ _ _ h => h
                  case hS => exact hHeld
                  case hy => (refine Or.inl ⟨by rfl, ?_⟩; intro w hSw; (try go_split_ands); go_simp; (try with_reducible rfl))
                  (try simp only [List.getElem_toArray, List.getElem_cons_succ, List.getElem_cons_zero, Act.put, List.setIfInBounds_toArray, List.set_cons_zero, List.set_cons_succ])
                  refine wpAnyH_done (by kernel_rfl) ?_ _
                  go_wp2_with fail
                  go_meet
                  exact ⟨_, _, Amb, cmb, Abb, cbb, rfl, rfl, rfl, rb5, nT5, hav5.mono fun _ _ _ => trivial, hb5⟩
                · (try simp only [List.getElem_toArray, List.getElem_cons_succ, List.getElem_cons_zero])
                  go_simp
                  rw [ztr_lit]
                  obtain ⟨V6, hV6⟩ : ∃ x, x = (V1).alloc (.cells ztr 23) := ⟨_, rfl⟩
                  have hv6 : Below V1.heap.size V1 V6 := by rw [hV6]; exact (Below.refl _ _).alloc (Nat.le_refl _) _
                  have hb6 : Below wr.heap.size wr V6 := Below.trans hb1 (Below.mono hv6 (Below.size hb1))
                  have nT6 : Whole V6 V1.heap.size 23 ztr := by rw [hV6]; exact Whole.here _ _ _
                  have pT6 : wr.heap.size ≤ V1.heap.size := Below.size hb1
                  rw [← hV6]
                  clear hV6
                  have hav6 : AlV V6 (Off [V1.heap.size]) (.agg (alc b.free b.seed b.fresh (.slice Amb b.macs.length cmb) (.slice Abb b.boxes.length cbb))) b := AlV.below (AlV.grow hav1 (Nat.le_refl _)) hv6 (Nat.le_refl _)
                  refine hKK.out _ _ (HCC.out _ hb6) (fun hHeld => ?_)
                  clear hKK KK
                  (try simp only [List.getElem_toArray, List.getElem_cons_succ, List.getElem_cons_zero, Act.put, List.setIfInBounds_toArray, List.set_cons_zero, List.set_cons_succ])
                  refine wpAnyH_ready (rs := [11]) (by kernel_rfl) (by simp) ?_
                  refine AllReadyH.cons rfl (fun KK hKK => ?_) AllReadyH.nil
                  (try simp only [List.getElem_toArray, List.getElem_cons_succ, List.getElem_cons_zero])
                  go_simp
                  rw [zar_lit]
                  obtain ⟨V7, hV7⟩ : ∃ x, x = (V6).alloc (.cells zar 28) := ⟨_, rfl⟩
                  have hv7 : Below V6.heap.size V6 V7 := by rw [hV7]; exact (Below.refl _ _).alloc (Nat.le_refl _) _
                  have hb7 : Below wr.heap.size wr V7 := Below.trans hb6 (Below.mono hv7 (Below.size hb6))
                  have nb7 : Whole V7 V6.heap.size 28 zar := by rw [hV7]; exact Whole.here _ _ _
                  have pb7 : wr.heap.size ≤ V6.heap.size := Below.size hb6
                  have rT7 := Whole.below nT6 hv7 (Whole.lt nT6)
                  rw [← hV7]
                  clear hV7
                  have hav7 : AlV V7 (Off [V6.heap.size, V1.heap.size]) (.agg (alc b.free b.seed b.fresh (.slice Amb b.macs.length cmb) (.slice Abb b.boxes.length cbb))) b := AlV.below (AlV.grow hav6 (Nat.le_refl _)) hv7 (Nat.le_refl _)
                  have dTb : V1.heap.size ≠ V6.heap.size := Nat.ne_of_lt (Whole.lt nT6)
                  refine hKK.out _ _ (HCC.out _ hb7) (fun hHeld => ?_)
                  clear hKK KK
                  (try simp only [List.getElem_toArray, List.getElem_cons_succ, List.getElem_cons_zero, Act.put, List.setIfInBounds_toArray, List.set_cons_zero, List.set_cons_succ])
                  refine wpAnyH_ready (rs := [13]) (by kernel_rfl) (by simp) ?_
                  refine AllReadyH.cons rfl (fun KK hKK => ?_) AllReadyH.nil
                  obtain ⟨V8, hV8⟩ : ∃ x, x = (V7).setRow (V6.heap.size) (alc b.free b.seed b.fresh (.slice Amb b.macs.length cmb) (.slice Abb b.boxes.length cbb)) := ⟨_, rfl⟩
                  have nb8 : Whole V8 (V6.heap.size) 28 (alc b.free b.seed b.fresh (.slice Amb b.macs.length cmb) (.slice Abb b.boxes.length cbb)) := by rw [hV8]; exact Whole.setRow nb7 _
                  have hb8 : Below wr.heap.size wr V8 := by rw [hV8]; exact below_setRow hb7 pb7 _
                  have rT8 := Whole.setRow_far rT7 (dTb) (alc b.free b.seed b.fresh (.slice Amb b.macs.length cmb) (.slice Abb b.boxes.length cbb))
                  rw [← hV8] at rT8
                  have hav8 : AlV V8 (Off [V6.heap.size, V1.heap.size]) (.agg (alc b.free b.seed b.fresh (.slice Amb b.macs.length cmb) (.slice Abb b.boxes.length cbb))) b := by rw [hV8]; exact AlV.store hav7 (by simp) _
                  rw [if_pos (by kernel_rfl)]
                  refine wp_store_row 28 _ _ rfl (V6.heap.size) _ rfl rfl 28 _ nb7 (by rw [algSize, alc_size]) (by rw [zar_size, alc_size]) (alc_one _ _ _ _ _ _ _ _ _) ?_
                  rw [← hV8]
                  clear hV8
                  refine hKK.out _ _ (HCC.out _ hb8) (fun hHeld => ?_)
                  clear hKK KK
                  (try simp only [List.getElem_toArray, List.getElem_cons_succ, List.getElem_cons_zero, Act.put, List.setIfInBounds_toArray, List.set_cons_zero, List.set_cons_succ])
                  refine wpAnyH_ready (rs := [14]) (by kernel_rfl) (by simp) ?_
                  refine AllReadyH.cons rfl (fun KK hKK => ?_) AllReadyH.nil
                  obtain ⟨V9, hV9⟩ : ∃ x, x = (V8).setRow (V1.heap.size) (T.map byt).toArray := ⟨_, rfl⟩
                  have nT9 : Whole V9 (V1.heap.size) 23 (T.map byt).toArray := by rw [hV9]; exact Whole.setRow rT8 _
                  have hb9 : Below wr.heap.size wr V9 := by rw [hV9]; exact below_setRow hb8 pT6 _
                  have rb9 := Whole.setRow_far nb8 (Ne.symm dTb) (T.map byt).toArray
                  rw [← hV9] at rb9
                  have hav9 : AlV V9 (Off [V6.heap.size, V1.heap.size]) (.agg (alc b.free b.seed b.fresh (.slice Amb b.macs.length cmb) (.slice Abb b.boxes.length cbb))) b := by rw [hV9]; exact AlV.store hav8 (by simp) _
                  rw [if_pos (by kernel_rfl)]
                  refine wp_store_row 23 _ _ rfl (V1.heap.size) _ rfl rfl 23 _ rT8 (by rw [tagSize, tag_size hlT]) (by rw [ztr_size, tag_size hlT]) (tag_one _) ?_
                  rw [← hV9]
                  clear hV9
                  refine hKK.out _ _ (HCC.out _ hb9) (fun hHeld => ?_)
                  clear hKK KK
                  (try simp only [List.getElem_toArray, List.getElem_cons_succ, List.getElem_cons_zero, Act.put, List.setIfInBounds_toArray, List.set_cons_zero, List.set_cons_succ])
                  apply wpAnyH_take (i := 15) rfl (by kernel_rfl) (by kernel_rfl) (by kernel_rfl)
                  case hQ => exact fun _ _ _ h => h
                  case hS => exact hHeld
                  case hy => (refine Or.inl ⟨by rfl, ?_⟩; intro w hSw; (try go_split_ands); go_simp; (try with_reducible rfl))
                  (try simp only [List.getElem_toArray, List.getElem_cons_succ, List.getElem_cons_zero, Act.put, List.setIfInBounds_toArray, List.set_cons_zero, List.set_cons_succ])
                  refine wpAnyH_done (by kernel_rfl) ?_ _
                  go_wp2_with fail
                  go_meet
                  exact ⟨_, _, Amb, cmb, Abb, cbb, rfl, rfl, rfl, rb9, nT9, hav9.mono fun _ _ _ => trivial, hb9⟩
              · (try simp only [List.getElem_toArray, List.getElem_cons_succ, List.getElem_cons_zero])
                go_simp
                rw [zar_lit]
                obtain ⟨V10, hV10⟩ : ∃ x, x = (wr.alloc (.cells zar 28)).drew := ⟨_, rfl⟩
                have hv10 : Below wr.heap.size wr V10 := by rw [hV10]; exact ((Below.refl _ _).alloc (Nat.le_refl _) _).drew
                have hb10 : Below wr.heap.size wr V10 := hv10
                have nb10 : Whole V10 wr.heap.size 28 zar := by rw [hV10]; exact Whole.here _ _ _
                have pb10 : wr.heap.size ≤ wr.heap.size := Nat.le_refl _
                rw [← hV10]
                clear hV10
                refine hKK.out _ _ (HCC.out _ hb10) (fun hHeld => ?_)
                clear hKK KK
                (try simp only [List.getElem_toArray, List.getElem_cons_succ, List.getElem_cons_zero, Act.put, List.setIfInBounds_toArray, List.set_cons_zero, List.set_cons_succ])
                refine wpAnyH_ready (rs := [6, 12]) (by kernel_rfl) (by simp) ?_
                refine AllReadyH.cons rfl (fun KK hKK => ?_) (AllReadyH.cons rfl (fun KK hKK => ?_) AllReadyH.nil)
                · (try simp only [List.getElem_toArray, List.getElem_cons_succ, List.getElem_cons_zero])
                  go_simp
                  go_at_call 26
                  refine (hcl _ hb10).mono ?_
                  rintro e V11 ⟨⟨x, rfl, hx⟩, hv11⟩
                  have hb11 := Below.trans hb10 (Below.mono hv11 (Below.size hb10))
                  have rb11 := Whole.below nb10 hv11 (Whole.lt nb10)
                  obtain ⟨Amb, cmb, Abb, cbb, rfl, hM, hBx, hA⟩ := hx
                  have hav11 : AlV V11 (Off [wr.heap.size]) (.agg (alc b.free b.seed b.fresh (.slice Amb b.macs.length cmb) (.slice Abb b.boxes.length cbb))) b := AlV.mono (Q := fun q => q < wr.heap.size ∨ (V10).heap.size ≤ q) ⟨Amb, cmb, Abb, cbb, rfl, hM, hBx, hA⟩ fun q _ hq y hy => by have h1b := Whole.lt nb10; have h2b := pb10; simp at hy; rcases hq with hq | hq <;> omega
                  clear hM hBx hA
                  refine hKK.out _ _ (HCC.out _ hb11) (fun hHeld => ?_)
                  clear hKK KK
                  (try simp only [List.getElem_toArray, List.getElem_cons_succ, List.getElem_cons_zero, Act.put, List.setIfInBounds_toArray, List.set_cons_zero, List.set_cons_succ])
                  apply wpAnyH_take (i := 7) rfl (by kernel_rfl) (by kernel_rfl) (by kernel_rfl)
                  case hQ => exact fun _ _ _ h => h
                  case hS => exact hHeld
                  case hy => (refine Or.inl ⟨by rfl, ?_⟩; intro w hSw; (try go_split_ands); go_simp; (try with_reducible rfl))
                  (try simp only [List.getElem_toArray, List.getElem_cons_succ, List.getElem_cons_zero, Act.put, List.setIfInBounds_toArray, List.set_cons_zero, List.set_cons_succ])
                  apply wpAnyH_take (i := 8) rfl (by kernel_rfl) (by kernel_rfl) (by kernel_rfl)
                  case hQ => exact fun _ _ _ h => h
                  case hS => exact hHeld
                  case hy => (refine Or.inl ⟨by rfl, ?_⟩; intro w hSw; (try go_split_ands); go_simp; (try with_reducible rfl))
                  (try simp only [List.getElem_toArray, List.getElem_cons_succ, List.getElem_cons_zero, Act.put, List.setIfInBounds_toArray, List.set_cons_zero, List.set_cons_succ])
                  apply wpAnyH_take (i := 9) rfl (by kernel_rfl) (by kernel_rfl) (by kernel_rfl)
                  case hQ => exact fun _ _ _ h => h
                  case hS => exact hHeld
                  case hy => (refine Or.inl ⟨by rfl, ?_⟩; intro w hSw; (try go_split_ands); go_simp; (try with_reducible rfl))
                  (try simp only [List.getElem_toArray, List.getElem_cons_succ, List.getElem_cons_zero, Act.put, List.setIfInBounds_toArray, List.set_cons_zero, List.set_cons_succ])
                  apply wpAnyH_take (i := 10) rfl (by kernel_rfl) (by kernel_rfl) (by kernel_rfl)
                  case hQ => exact fun _ _ _ h => h
                  case hS => exact hHeld
                  case hy => (refine Or.inl ⟨by rfl, ?_⟩; intro w hSw; (try go_split_ands); go_simp; (try with_reducible rfl))
                  (try simp only [List.getElem_toArray, List.getElem_cons_succ, List.getElem_cons_zero, Act.put, List.setIfInBounds_toArray, List.set_cons_zero, List.set_cons_succ])
                  refine wpAnyH_ready (rs := [12]) (by kernel_rfl) (by simp) ?_
                  refine AllReadyH.cons rfl (fun KK hKK => ?_) AllReadyH.nil
                  (try simp only [List.getElem_toArray, List.getElem_cons_succ, List.getElem_cons_zero])
                  go_simp
                  rw [ztr_lit]
                  obtain ⟨V12, hV12⟩ : ∃ x, x = (V11).alloc (.cells ztr 23) := ⟨_, rfl⟩
                  have hv12 : Below V11.heap.size V11 V12 := by rw [hV12]; exact (Below.refl _ _).alloc (Nat.le_refl _) _
                  have hb12 : Below wr.heap.size wr V12 := Below.trans hb11 (Below.mono hv12 (Below.size hb11))
                  have nT12 : Whole V12 V11.heap.size 23 ztr := by rw [hV12]; exact Whole.here _ _ _
                  have pT12 : wr.heap.size ≤ V11.heap.size := Below.size hb11
                  have rb12 := Whole.below rb11 hv12 (Whole.lt rb11)
                  rw [← hV12]
                  clear hV12
                  have hav12 : AlV V12 (Off [V11.heap.size, wr.heap.size]) (.agg (alc b.free b.seed b.fresh (.slice Amb b.macs.length cmb) (.slice Abb b.boxes.length cbb))) b := AlV.below (AlV.grow hav11 (Nat.le_refl _)) hv12 (Nat.le_refl _)
                  have dbT : wr.heap.size ≠ V11.heap.size := Nat.ne_of_lt (Whole.lt rb11)
                  refine hKK.out _ _ (HCC.out _ hb12) (fun hHeld => ?_)
                  clear hKK KK
                  (try simp only [List.getElem_toArray, List.getElem_cons_succ, List.getElem_cons_zero, Act.put, List.setIfInBounds_toArray, List.set_cons_zero, List.set_cons_succ])
                  refine wpAnyH_ready (rs := [13]) (by kernel_rfl) (by simp) ?_
                  refine AllReadyH.cons rfl (fun KK hKK => ?_) AllReadyH.nil
                  obtain ⟨V13, hV13⟩ : ∃ x, x = (V12).setRow (wr.heap.size) (alc b.free b.seed b.fresh (.slice Amb b.macs.length cmb) (.slice Abb b.boxes.length cbb)) := ⟨_, rfl⟩
                  have nb13 : Whole V13 (wr.heap.size) 28 (alc b.free b.seed b.fresh (.slice Amb b.macs.length cmb) (.slice Abb b.boxes.length cbb)) := by rw [hV13]; exact Whole.setRow rb12 _
                  have hb13 : Below wr.heap.size wr V13 := by rw [hV13]; exact below_setRow hb12 pb10 _
                  have rT13 := Whole.setRow_far nT12 (Ne.symm dbT) (alc b.free b.seed b.fresh (.slice Amb b.macs.length cmb) (.slice Abb b.boxes.length cbb))
                  rw [← hV13] at rT13
                  have hav13 : AlV V13 (Off [V11.heap.size, wr.heap.size]) (.agg (alc b.free b.seed b.fresh (.slice Amb b.macs.length cmb) (.slice Abb b.boxes.length cbb))) b := by rw [hV13]; exact AlV.store hav12 (by simp) _
                  rw [if_pos (by kernel_rfl)]
                  refine wp_store_row 28 _ _ rfl (wr.heap.size) _ rfl rfl 28 _ rb12 (by rw [algSize, alc_size]) (by rw [zar_size, alc_size]) (alc_one _ _ _ _ _ _ _ _ _) ?_
                  rw [← hV13]
                  clear hV13
                  refine hKK.out _ _ (HCC.out _ hb13) (fun hHeld => ?_)
                  clear hKK KK
                  (try simp only [List.getElem_toArray, List.getElem_cons_succ, List.getElem_cons_zero, Act.put, List.setIfInBounds_toArray, List.set_cons_zero, List.set_cons_succ])
                  refine wpAnyH_ready (rs := [14]) (by kernel_rfl) (by simp) ?_
                  refine AllReadyH.cons rfl (fun KK hKK => ?_) AllReadyH.nil
                  obtain ⟨V14, hV14⟩ : ∃ x, x = (V13).setRow (V11.heap.size) (T.map byt).toArray := ⟨_, rfl⟩
                  have nT14 : Whole V14 (V11.heap.size) 23 (T.map byt).toArray := by rw [hV14]; exact Whole.setRow rT13 _
                  have hb14 : Below wr.heap.size wr V14 := by rw [hV14]; exact below_setRow hb13 pT12 _
                  have rb14 := Whole.setRow_far nb13 (dbT) (T.map byt).toArray
                  rw [← hV14] at rb14
                  have hav14 : AlV V14 (Off [V11.heap.size, wr.heap.size]) (.agg (alc b.free b.seed b.fresh (.slice Amb b.macs.length cmb) (.slice Abb b.boxes.length cbb))) b := by rw [hV14]; exact AlV.store hav13 (by simp) _
                  rw [if_pos (by kernel_rfl)]
                  refine wp_store_row 23 _ _ rfl (V11.heap.size) _ rfl rfl 23 _ rT13 (by rw [tagSize, tag_size hlT]) (by rw [ztr_size, tag_size hlT]) (tag_one _) ?_
                  rw [← hV14]
                  clear hV14
                  refine hKK.out _ _ (HCC.out _ hb14) (fun hHeld => ?_)
                  clear hKK KK
                  (try simp only [List.getElem_toArray, List.getElem_cons_succ, List.getElem_cons_zero, Act.put, List.setIfInBounds_toArray, List.set_cons_zero, List.set_cons_succ])
                  apply wpAnyH_take (i := 15) rfl (by kernel_rfl) (by kernel_rfl) (by kernel_rfl)
                  case hQ => exact fun _ _ _ h => h
                  case hS => exact hHeld
                  case hy => (refine Or.inl ⟨by rfl, ?_⟩; intro w hSw; (try go_split_ands); go_simp; (try with_reducible rfl))
                  (try simp only [List.getElem_toArray, List.getElem_cons_succ, List.getElem_cons_zero, Act.put, List.setIfInBounds_toArray, List.set_cons_zero, List.set_cons_succ])
                  refine wpAnyH_done (by kernel_rfl) ?_ _
                  go_wp2_with fail
                  go_meet
                  exact ⟨_, _, Amb, cmb, Abb, cbb, rfl, rfl, rfl, rb14, nT14, hav14.mono fun _ _ _ => trivial, hb14⟩
                · (try simp only [List.getElem_toArray, List.getElem_cons_succ, List.getElem_cons_zero])
                  go_simp
                  rw [ztr_lit]
                  obtain ⟨V15, hV15⟩ : ∃ x, x = (V10).alloc (.cells ztr 23) := ⟨_, rfl⟩
                  have hv15 : Below V10.heap.size V10 V15 := by rw [hV15]; exact (Below.refl _ _).alloc (Nat.le_refl _) _
                  have hb15 : Below wr.heap.size wr V15 := Below.trans hb10 (Below.mono hv15 (Below.size hb10))
                  have nT15 : Whole V15 V10.heap.size 23 ztr := by rw [hV15]; exact Whole.here _ _ _
                  have pT15 : wr.heap.size ≤ V10.heap.size := Below.size hb10
                  have rb15 := Whole.below nb10 hv15 (Whole.lt nb10)
                  rw [← hV15]
                  clear hV15
                  have dbT : wr.heap.size ≠ V10.heap.size := Nat.ne_of_lt (Whole.lt nb10)
                  refine hKK.out _ _ (HCC.out _ hb15) (fun hHeld => ?_)
                  clear hKK KK
                  (try simp only [List.getElem_toArray, List.getElem_cons_succ, List.getElem_cons_zero, Act.put, List.setIfInBounds_toArray, List.set_cons_zero, List.set_cons_succ])
                  refine wpAnyH_ready (rs := [6]) (by kernel_rfl) (by simp) ?_
                  refine AllReadyH.cons rfl (fun KK hKK => ?_) AllReadyH.nil
                  (try simp only [List.getElem_toArray, List.getElem_cons_succ, List.getElem_cons_zero])
                  go_simp
                  go_at_call 26
                  refine (hcl _ hb15).mono ?_
                  rintro e V16 ⟨⟨x, rfl, hx⟩, hv16⟩
                  have hb16 := Below.trans hb15 (Below.mono hv16 (Below.size hb15))
                  have rb16 := Whole.below rb15 hv16 (Whole.lt rb15)
                  have rT16 := Whole.below nT15 hv16 (Whole.lt nT15)
                  obtain ⟨Amb, cmb, Abb, cbb, rfl, hM, hBx, hA⟩ := hx
                  have hav16 : AlV V16 (Off [wr.heap.size, V10.heap.size]) (.agg (alc b.free b.seed b.fresh (.slice Amb b.macs.length cmb) (.slice Abb b.boxes.length cbb))) b := AlV.mono (Q := fun q => q < wr.heap.size ∨ (V15).heap.size ≤ q) ⟨Amb, cmb, Abb, cbb, rfl, hM, hBx, hA⟩ fun q _ hq y hy => by have h1b := Whole.lt rb15; have h2b := pb10; have h1T := Whole.lt nT15; have h2T := pT15; simp at hy; rcases hq with hq | hq <;> omega
                  clear hM hBx hA
                  refine hKK.out _ _ (HCC.out _ hb16) (fun hHeld => ?_)
                  clear hKK KK
                  (try simp only [List.getElem_toArray, List.getElem_cons_succ, List.getElem_cons_zero, Act.put, List.setIfInBounds_toArray, List.set_cons_zero, List.set_cons_succ])
                  apply wpAnyH_take (i := 7) rfl (by kernel_rfl) (by kernel_rfl) (by kernel_rfl)
                  case hQ => exact fun _ _ _ h => h
                  case hS => exact hHeld
                  case hy => (refine Or.inl ⟨by rfl, ?_⟩; intro w hSw; (try go_split_ands); go_simp; (try with_reducible rfl))
                  (try simp only [List.getElem_toArray, List.getElem_cons_succ, List.getElem_cons_zero, Act.put, List.setIfInBounds_toArray, List.set_cons_zero, List.set_cons_succ])
                  apply wpAnyH_take (i := 8) rfl (by kernel_rfl) (by kernel_rfl) (by kernel_rfl)
                  case hQ => exact fun _ _ _ h => h
                  case hS => exact hHeld
                  case hy => (refine Or.inl ⟨by rfl, ?_⟩; intro w hSw; (try go_split_ands); go_simp; (try with_reducible rfl))
                  (try simp only [List.getElem_toArray, List.getElem_cons_succ, List.getElem_cons_zero, Act.put, List.setIfInBounds_toArray, List.set_cons_zero, List.set_cons_succ])
                  apply wpAnyH_take (i := 9) rfl (by kernel_rfl) (by kernel_rfl) (by kernel_rfl)
                  case hQ => exact fun _ _ _ h => h
                  case hS => exact hHeld
                  case hy => (refine Or.inl ⟨by rfl, ?_⟩; intro w hSw; (try go_split_ands); go_simp; (try with_reducible rfl))
                  (try simp only [List.getElem_toArray, List.getElem_cons_succ, List.getElem_cons_zero, Act.put, List.setIfInBounds_toArray, List.set_cons_zero, List.set_cons_succ])
                  apply wpAnyH_take (i := 10) rfl (by kernel_rfl) (by kernel_rfl) (by kernel_rfl)
                  case hQ => exact fun _ _ _ h => h
                  case hS => exact hHeld
                  case hy => (refine Or.inl ⟨by rfl, ?_⟩; intro w hSw; (try go_split_ands); go_simp; (try with_reducible rfl))
                  (try simp only [List.getElem_toArray, List.getElem_cons_succ, List.getElem_cons_zero, Act.put, List.setIfInBounds_toArray, List.set_cons_zero, List.set_cons_succ])
                  refine wpAnyH_ready (rs := [13]) (by kernel_rfl) (by simp) ?_
                  refine AllReadyH.cons rfl (fun KK hKK => ?_) AllReadyH.nil
                  obtain ⟨V17, hV17⟩ : ∃ x, x = (V16).setRow (wr.heap.size) (alc b.free b.seed b.fresh (.slice Amb b.macs.length cmb) (.slice Abb b.boxes.length cbb)) := ⟨_, rfl⟩
                  have nb17 : Whole V17 (wr.heap.size) 28 (alc b.free b.seed b.fresh (.slice Amb b.macs.length cmb) (.slice Abb b.boxes.length cbb)) := by rw [hV17]; exact Whole.setRow rb16 _
                  have hb17 : Below wr.heap.size wr V17 := by rw [hV17]; exact below_setRow hb16 pb10 _
                  have rT17 := Whole.setRow_far rT16 (Ne.symm dbT) (alc b.free b.seed b.fresh (.slice Amb b.macs.length cmb) (.slice Abb b.boxes.length cbb))
                  rw [← hV17] at rT17
                  have hav17 : AlV V17 (Off [wr.heap.size, V10.heap.size]) (.agg (alc b.free b.seed b.fresh (.slice Amb b.macs.length cmb) (.slice Abb b.boxes.length cbb))) b := by rw [hV17]; exact AlV.store hav16 (by simp) _
                  rw [if_pos (by kernel_rfl)]
                  refine wp_store_row 28 _ _ rfl (wr.heap.size) _ rfl rfl 28 _ rb16 (by rw [algSize, alc_size]) (by rw [zar_size, alc_size]) (alc_one _ _ _ _ _ _ _ _ _) ?_
                  rw [← hV17]
                  clear hV17
                  refine hKK.out _ _ (HCC.out _ hb17) (fun hHeld => ?_)
                  clear hKK KK
                  (try simp only [List.getElem_toArray, List.getElem_cons_succ, List.getElem_cons_zero, Act.put, List.setIfInBounds_toArray, List.set_cons_zero, List.set_cons_succ])
                  refine wpAnyH_ready (rs := [14]) (by kernel_rfl) (by simp) ?_
                  refine AllReadyH.cons rfl (fun KK hKK => ?_) AllReadyH.nil
                  obtain ⟨V18, hV18⟩ : ∃ x, x = (V17).setRow (V10.heap.size) (T.map byt).toArray := ⟨_, rfl⟩
                  have nT18 : Whole V18 (V10.heap.size) 23 (T.map byt).toArray := by rw [hV18]; exact Whole.setRow rT17 _
                  have hb18 : Below wr.heap.size wr V18 := by rw [hV18]; exact below_setRow hb17 pT15 _
                  have rb18 := Whole.setRow_far nb17 (dbT) (T.map byt).toArray
                  rw [← hV18] at rb18
                  have hav18 : AlV V18 (Off [wr.heap.size, V10.heap.size]) (.agg (alc b.free b.seed b.fresh (.slice Amb b.macs.length cmb) (.slice Abb b.boxes.length cbb))) b := by rw [hV18]; exact AlV.store hav17 (by simp) _
                  rw [if_pos (by kernel_rfl)]
                  refine wp_store_row 23 _ _ rfl (V10.heap.size) _ rfl rfl 23 _ rT17 (by rw [tagSize, tag_size hlT]) (by rw [ztr_size, tag_size hlT]) (tag_one _) ?_
                  rw [← hV18]
                  clear hV18
                  refine hKK.out _ _ (HCC.out _ hb18) (fun hHeld => ?_)
                  clear hKK KK
                  (try simp only [List.getElem_toArray, List.getElem_cons_succ, List.getElem_cons_zero, Act.put, List.setIfInBounds_toArray, List.set_cons_zero, List.set_cons_succ])
                  apply wpAnyH_take (i := 15) rfl (by kernel_rfl) (by kernel_rfl) (by kernel_rfl)
                  case hQ => exact fun _ _ _ h => h
                  case hS => exact hHeld
                  case hy => (refine Or.inl ⟨by rfl, ?_⟩; intro w hSw; (try go_split_ands); go_simp; (try with_reducible rfl))
                  (try simp only [List.getElem_toArray, List.getElem_cons_succ, List.getElem_cons_zero, Act.put, List.setIfInBounds_toArray, List.set_cons_zero, List.set_cons_succ])
                  refine wpAnyH_done (by kernel_rfl) ?_ _
                  go_wp2_with fail
                  go_meet
                  exact ⟨_, _, Amb, cmb, Abb, cbb, rfl, rfl, rfl, rb18, nT18, hav18.mono fun _ _ _ => trivial, hb18⟩
              · (try simp only [List.getElem_toArray, List.getElem_cons_succ, List.getElem_cons_zero])
                go_simp
                rw [ztr_lit]
                obtain ⟨V19, hV19⟩ : ∃ x, x = (wr.alloc (.cells ztr 23)).drew := ⟨_, rfl⟩
                have hv19 : Below wr.heap.size wr V19 := by rw [hV19]; exact ((Below.refl _ _).alloc (Nat.le_refl _) _).drew
                have hb19 : Below wr.heap.size wr V19 := hv19
                have nT19 : Whole V19 wr.heap.size 23 ztr := by rw [hV19]; exact Whole.here _ _ _
                have pT19 : wr.heap.size ≤ wr.heap.size := Nat.le_refl _
                rw [← hV19]
                clear hV19
                refine hKK.out _ _ (HCC.out _ hb19) (fun hHeld => ?_)
                clear hKK KK
                (try simp only [List.getElem_toArray, List.getElem_cons_succ, List.getElem_cons_zero, Act.put, List.setIfInBounds_toArray, List.set_cons_zero, List.set_cons_succ])
                refine wpAnyH_ready (rs := [6, 11]) (by kernel_rfl) (by simp) ?_
                refine AllReadyH.cons rfl (fun KK hKK => ?_) (AllReadyH.cons rfl (fun KK hKK => ?_) AllReadyH.nil)
                · (try simp only [List.getElem_toArray, List.getElem_cons_succ, List.getElem_cons_zero])
                  go_simp
                  go_at_call 26
                  refine (hcl _ hb19).mono ?_
                  rintro e V20 ⟨⟨x, rfl, hx⟩, hv20⟩
                  have hb20 := Below.trans hb19 (Below.mono hv20 (Below.size hb19))
                  have rT20 := Whole.below nT19 hv20 (Whole.lt nT19)
                  obtain ⟨Amb, cmb, Abb, cbb, rfl, hM, hBx, hA⟩ := hx
                  have hav20 : AlV V20 (Off [wr.heap.size]) (.agg (alc b.free b.seed b.fresh (.slice Amb b.macs.length cmb) (.slice Abb b.boxes.length cbb))) b := AlV.mono (Q := fun q => q < wr.heap.size ∨ (V19).heap.size ≤ q) ⟨Amb, cmb, Abb, cbb, rfl, hM, hBx, hA⟩ fun q _ hq y hy => by have h1T := Whole.lt nT19; have h2T := pT19; simp at hy; rcases hq with hq | hq <;> omega
                  clear hM hBx hA
                  refine hKK.out _ _ (HCC.out _ hb20) (fun hHeld => ?_)
                  clear hKK KK
                  (try simp only [List.getElem_toArray, List.getElem_cons_succ, List.getElem_cons_zero, Act.put, List.setIfInBounds_toArray, List.set_cons_zero, List.set_cons_succ])
                  apply wpAnyH_take (i := 7) rfl (by kernel_rfl) (by kernel_rfl) (by kernel_rfl)
                  case hQ => exact fun _ _ _ h => h
                  case hS => exact hHeld
                  case hy => (refine Or.inl ⟨by rfl, ?_⟩; intro w hSw; (try go_split_ands); go_simp; (try with_reducible rfl))
                  (try simp only [List.getElem_toArray, List.getElem_cons_succ, List.getElem_cons_zero, Act.put, List.setIfInBounds_toArray, List.set_cons_zero, List.set_cons_succ])
                  apply wpAnyH_take (i := 8) rfl (by kernel_rfl) (by kernel_rfl) (by kernel_rfl)
                  case hQ => exact fun _ _ _ h => h
                  case hS => exact hHeld
                  case hy => (refine Or.inl ⟨by rfl, ?_⟩; intro w hSw; (try go_split_ands); go_simp; (try with_reducible rfl))
                  (try simp only [List.getElem_toArray, List.getElem_cons_succ, List.getElem_cons_zero, Act.put, List.setIfInBounds_toArray, List.set_cons_zero, List.set_cons_succ])
                  apply wpAnyH_take (i := 9) rfl (by kernel_rfl) (by kernel_rfl) (by kernel_rfl)
                  case hQ => exact fun _ _ _ h => h
                  case hS => exact hHeld
                  case hy => (refine Or.inl ⟨by rfl, ?_⟩; intro w hSw; (try go_split_ands); go_simp; (try with_reducible rfl))
                  (try simp only [List.getElem_toArray, List.getElem_cons_succ, List.getElem_cons_zero, Act.put, List.setIfInBounds_toArray, List.set_cons_zero, List.set_cons_succ])
                  apply wpAnyH_take (i := 10) rfl (by kernel_rfl) (by kernel_rfl) (by kernel_rfl)
                  case hQ => exact fun _ _ _ h => h
                  case hS => exact hHeld
                  case hy => (refine Or.inl ⟨by rfl, ?_⟩; intro w hSw; (try go_split_ands); go_simp; (try with_reducible rfl))
                  (try simp only [List.getElem_toArray, List.getElem_cons_succ, List.getElem_cons_zero, Act.put, List.setIfInBounds_toArray, List.set_cons_zero, List.set_cons_succ])
                  refine wpAnyH_ready (rs := [11]) (by kernel_rfl) (by simp) ?_
                  refine AllReadyH.cons rfl (fun KK hKK => ?_) AllReadyH.nil
                  (try simp only [List.getElem_toArray, List.getElem_cons_succ, List.getElem_cons_zero])
                  go_simp
                  rw [zar_lit]
                  obtain ⟨V21, hV21⟩ : ∃ x, x = (V20).alloc (.cells zar 28) := ⟨_, rfl⟩
                  have hv21 : Below V20.heap.size V20 V21 := by rw [hV21]; exact (Below.refl _ _).alloc (Nat.le_refl _) _
                  have hb21 : Below wr.heap.size wr V21 := Below.trans hb20 (Below.mono hv21 (Below.size hb20))
                  have nb21 : Whole V21 V20.heap.size 28 zar := by rw [hV21]; exact Whole.here _ _ _
                  have pb21 : wr.heap.size ≤ V20.heap.size := Below.size hb20
                  have rT21 := Whole.below rT20 hv21 (Whole.lt rT20)
                  rw [← hV21]
                  clear hV21
                  have hav21 : AlV V21 (Off [V20.heap.size, wr.heap.size]) (.agg (alc b.free b.seed b.fresh (.slice Amb b.macs.length cmb) (.slice Abb b.boxes.length cbb))) b := AlV.below (AlV.grow hav20 (Nat.le_refl _)) hv21 (Nat.le_refl _)
                  have dTb : wr.heap.size ≠ V20.heap.size := Nat.ne_of_lt (Whole.lt rT20)
                  refine hKK.out _ _ (HCC.out _ hb21) (fun hHeld => ?_)
                  clear hKK KK
                  (try simp only [List.getElem_toArray, List.getElem_cons_succ, List.getElem_cons_zero, Act.put, List.setIfInBounds_toArray, List.set_cons_zero, List.set_cons_succ])
                  refine wpAnyH_ready (rs := [13]) (by kernel_rfl) (by simp) ?_
                  refine AllReadyH.cons rfl (fun KK hKK => ?_) AllReadyH.nil
                  obtain ⟨V22, hV22⟩ : ∃ x, x = (V21).setRow (V20.heap.size) (alc b.free b.seed b.fresh (.slice Amb b.macs.length cmb) (.slice Abb b.boxes.length cbb)) := ⟨_, rfl⟩
                  have nb22 : Whole V22 (V20.heap.size) 28 (alc b.free b.seed b.fresh (.slice Amb b.macs.length cmb) (.slice Abb b.boxes.length cbb)) := by rw [hV22]; exact Whole.setRow nb21 _
                  have hb22 : Below wr.heap.size wr V22 := by rw [hV22]; exact below_setRow hb21 pb21 _
                  have rT22 := Whole.setRow_far rT21 (dTb) (alc b.free b.seed b.fresh (.slice Amb b.macs.length cmb) (.slice Abb b.boxes.length cbb))
                  rw [← hV22] at rT22
                  have hav22 : AlV V22 (Off [V20.heap.size, wr.heap.size]) (.agg (alc b.free b.seed b.fresh (.slice Amb b.macs.length cmb) (.slice Abb b.boxes.length cbb))) b := by rw [hV22]; exact AlV.store hav21 (by simp) _
                  rw [if_pos (by kernel_rfl)]
                  refine wp_store_row 28 _ _ rfl (V20.heap.size) _ rfl rfl 28 _ nb21 (by rw [algSize, alc_size]) (by rw [zar_size, alc_size]) (alc_one _ _ _ _ _ _ _ _ _) ?_
                  rw [← hV22]
                  clear hV22
                  refine hKK.out _ _ (HCC.out _ hb22) (fun hHeld => ?_)
                  clear hKK KK
                  (try simp only [List.getElem_toArray, List.getElem_cons_succ, List.getElem_cons_zero, Act.put, List.setIfInBounds_toArray, List.set_cons_zero, List.set_cons_succ])
                  refine wpAnyH_ready (rs := [14]) (by kernel_rfl) (by simp) ?_
                  refine AllReadyH.cons rfl (fun KK hKK => ?_) AllReadyH.nil
                  obtain ⟨V23, hV23⟩ : ∃ x, x = (V22).setRow (wr.heap.size) (T.map byt).toArray := ⟨_, rfl⟩
                  have nT23 : Whole V23 (wr.heap.size) 23 (T.map byt).toArray := by rw [hV23]; exact Whole.setRow rT22 _
                  have hb23 : Below wr.heap.size wr V23 := by rw [hV23]; exact below_setRow hb22 pT19 _
                  have rb23 := Whole.setRow_far nb22 (Ne.symm dTb) (T.map byt).toArray
                  rw [← hV23] at rb23
                  have hav23 : AlV V23 (Off [V20.heap.size, wr.heap.size]) (.agg (alc b.free b.seed b.fresh (.slice Amb b.macs.length cmb) (.slice Abb b.boxes.length cbb))) b := by rw [hV23]; exact AlV.store hav22 (by simp) _
                  rw [if_pos (by kernel_rfl)]
                  refine wp_store_row 23 _ _ rfl (wr.heap.size) _ rfl rfl 23 _ rT22 (by rw [tagSize, tag_size hlT]) (by rw [ztr_size, tag_size hlT]) (tag_one _) ?_
                  rw [← hV23]
                  clear hV23
                  refine hKK.out _ _ (HCC.out _ hb23) (fun hHeld => ?_)
                  clear hKK KK
                  (try simp only [List.getElem_toArray, List.getElem_cons_succ, List.getElem_cons_zero, Act.put, List.setIfInBounds_toArray, List.set_cons_zero, List.set_cons_succ])
                  apply wpAnyH_take (i := 15) rfl (by kernel_rfl) (by kernel_rfl) (by kernel_rfl)
                  case hQ => exact fun _ _ _ h => h
                  case hS => exact hHeld
                  case hy => (refine Or.inl ⟨by rfl, ?_⟩; intro w hSw; (try go_split_ands); go_simp; (try with_reducible rfl))
                  (try simp only [List.getElem_toArray, List.getElem_cons_succ, List.getElem_cons_zero, Act.put, List.setIfInBounds_toArray, List.set_cons_zero, List.set_cons_succ])
                  refine wpAnyH_done (by kernel_rfl) ?_ _
                  go_wp2_with fail
                  go_meet
                  exact ⟨_, _, Amb, cmb, Abb, cbb, rfl, rfl, rfl, rb23, nT23, hav23.mono fun _ _ _ => trivial, hb23⟩
                · (try simp only [List.getElem_toArray, List.getElem_cons_succ, List.getElem_cons_zero])
                  go_simp
                  rw [zar_lit]
                  obtain ⟨V24, hV24⟩ : ∃ x, x = (V19).alloc (.cells zar 28) := ⟨_, rfl⟩
                  have hv24 : Below V19.heap.size V19 V24 := by rw [hV24]; exact (Below.refl _ _).alloc (Nat.le_refl _) _
                  have hb24 : Below wr.heap.size wr V24 := Below.trans hb19 (Below.mono hv24 (Below.size hb19))
                  have nb24 : Whole V24 V19.heap.size 28 zar := by rw [hV24]; exact Whole.here _ _ _
                  have pb24 : wr.heap.size ≤ V19.heap.size := Below.size hb19
                  have rT24 := Whole.below nT19 hv24 (Whole.lt nT19)
                  rw [← hV24]
                  clear hV24
                  have dTb : wr.heap.size ≠ V19.heap.size := Nat.ne_of_lt (Whole.lt nT19)
                  refine hKK.out _ _ (HCC.out _ hb24) (fun hHeld => ?_)
                  clear hKK KK
                  (try simp only [List.getElem_toArray, List.getElem_cons_succ, List.getElem_cons_zero, Act.put, List.setIfInBounds_toArray, List.set_cons_zero, List.set_cons_succ])
                  refine wpAnyH_ready (rs := [6]) (by kernel_rfl) (by simp) ?_
                  refine AllReadyH.cons rfl (fun KK hKK => ?_) AllReadyH.nil
                  (try simp only [List.getElem_toArray, List.getElem_cons_succ, List.getElem_cons_zero])
                  go_simp
                  go_at_call 26
                  refine (hcl _ hb24).mono ?_
                  rintro e V25 ⟨⟨x, rfl, hx⟩, hv25⟩
                  have hb25 := Below.trans hb24 (Below.mono hv25 (Below.size hb24))
                  have rT25 := Whole.below rT24 hv25 (Whole.lt rT24)
                  have rb25 := Whole.below nb24 hv25 (Whole.lt nb24)
                  obtain ⟨Amb, cmb, Abb, cbb, rfl, hM, hBx, hA⟩ := hx
                  have hav25 : AlV V25 (Off [wr.heap.size, V19.heap.size]) (.agg (alc b.free b.seed b.fresh (.slice Amb b.macs.length cmb) (.slice Abb b.boxes.length cbb))) b := AlV.mono (Q := fun q => q < wr.heap.size ∨ (V24).heap.size ≤ q) ⟨Amb, cmb, Abb, cbb, rfl, hM, hBx, hA⟩ fun q _ hq y hy => by have h1T := Whole.lt rT24; have h2T := pT19; have h1b := Whole.lt nb24; have h2b := pb24; simp at hy; rcases hq with hq | hq <;> omega
                  clear hM hBx hA
                  refine hKK.out _ _ (HCC.out _ hb25) (fun hHeld => ?_)
                  clear hKK KK
                  (try simp only [List.getElem_toArray, List.getElem_cons_succ, List.getElem_cons_zero, Act.put, List.setIfInBounds_toArray, List.set_cons_zero, List.set_cons_succ])
                  apply wpAnyH_take (i := 7) rfl (by kernel_rfl) (by kernel_rfl) (by kernel_rfl)
                  case hQ => exact fun _ _ _ h => h
                  case hS => exact hHeld
                  case hy => (refine Or.inl ⟨by rfl, ?_⟩; intro w hSw; (try go_split_ands); go_simp; (try with_reducible rfl))
                  (try simp only [List.getElem_toArray, List.getElem_cons_succ, List.getElem_cons_zero, Act.put, List.setIfInBounds_toArray, List.set_cons_zero, List.set_cons_succ])
                  apply wpAnyH_take (i := 8) rfl (by kernel_rfl) (by kernel_rfl) (by kernel_rfl)
                  case hQ => exact fun _ _ _ h => h
                  case hS => exact hHeld
                  case hy => (refine Or.inl ⟨by rfl, ?_⟩; intro w hSw; (try go_split_ands); go_simp; (try with_reducible rfl))
                  (try simp only [List.getElem_toArray, List.getElem_cons_succ, List.getElem_cons_zero, Act.put, List.setIfInBounds_toArray, List.set_cons_zero, List.set_cons_succ])
                  apply wpAnyH_take (i := 9) rfl (by kernel_rfl) (by kernel_rfl) (by kernel_rfl)
                  case hQ => exact fun _ _ _ h => h
                  case hS => exact hHeld
                  case hy => (refine Or.inl ⟨by rfl, ?_⟩; intro w hSw; (try go_split_ands); go_simp; (try with_reducible rfl))
                  (try simp only [List.getElem_toArray, List.getElem_cons_succ, List.getElem_cons_zero, Act.put, List.setIfInBounds_toArray, List.set_cons_zero, List.set_cons_succ])
                  apply wpAnyH_take (i := 10) rfl (by kernel_rfl) (by kernel_rfl) (by kernel_rfl)
                  case hQ => exact fun _ _ _ h => h
                  case hS => exact hHeld
                  case hy => (refine Or.inl ⟨by rfl, ?_⟩; intro w hSw; (try go_split_ands); go_simp; (try with_reducible rfl))
                  (try simp only [List.getElem_toArray, List.getElem_cons_succ, List.getElem_cons_zero, Act.put, List.setIfInBounds_toArray, List.set_cons_zero, List.set_cons_succ])
                  refine wpAnyH_ready (rs := [13]) (by kernel_rfl) (by simp) ?_
                  refine AllReadyH.cons rfl (fun KK hKK => ?_) AllReadyH.nil
                  obtain ⟨V26, hV26⟩ : ∃ x, x = (V25).setRow (V19.heap.size) (alc b.free b.seed b.fresh (.slice Amb b.macs.length cmb) (.slice Abb b.boxes.length cbb)) := ⟨_, rfl⟩
                  have nb26 : Whole V26 (V19.heap.size) 28 (alc b.free b.seed b.fresh (.slice Amb b.macs.length cmb) (.slice Abb b.boxes.length cbb)) := by rw [hV26]; exact Whole.setRow rb25 _
                  have hb26 : Below wr.heap.size wr V26 := by rw [hV26]; exact below_setRow hb25 pb24 _
                  have rT26 := Whole.setRow_far rT25 (dTb) (alc b.free b.seed b.fresh (.slice Amb b.macs.length cmb) (.slice Abb b.boxes.length cbb))
                  rw [← hV26] at rT26
                  have hav26 : AlV V26 (Off [wr.heap.size, V19.heap.size]) (.agg (alc b.free b.seed b.fresh (.slice Amb b.macs.length cmb) (.slice Abb b.boxes.length cbb))) b := by rw [hV26]; exact AlV.store hav25 (by simp) _
                  rw [if_pos (by kernel_rfl)]
                  refine wp_store_row 28 _ _ rfl (V19.heap.size) _ rfl rfl 28 _ rb25 (by rw [algSize, alc_size]) (by rw [zar_size, alc_size]) (alc_one _ _ _ _ _ _ _ _ _) ?_
                  rw [← hV26]
                  clear hV26
                  refine hKK.out _ _ (HCC.out _ hb26) (fun hHeld => ?_)
                  clear hKK KK
                  (try simp only [List.getElem_toArray, List.getElem_cons_succ, List.getElem_cons_zero, Act.put, List.setIfInBounds_toArray, List.set_cons_zero, List.set_cons_succ])
                  refine wpAnyH_ready (rs := [14]) (by kernel_rfl) (by simp) ?_
                  refine AllReadyH.cons rfl (fun KK hKK => ?_) AllReadyH.nil
                  obtain ⟨V27, hV27⟩ : ∃ x, x = (V26).setRow (wr.heap.size) (T.map byt).toArray := ⟨_, rfl⟩
                  have nT27 : Whole V27 (wr.heap.size) 23 (T.map byt).toArray := by rw [hV27]; exact Whole.setRow rT26 _
                  have hb27 : Below wr.heap.size wr V27 := by rw [hV27]; exact below_setRow hb26 pT19 _
                  have rb27 := Whole.setRow_far nb26 (Ne.symm dTb) (T.map byt).toArray
                  rw [← hV27] at rb27
                  have hav27 : AlV V27 (Off [wr.heap.size, V19.heap.size]) (.agg (alc b.free b.seed b.fresh (.slice Amb b.macs.length cmb) (.slice Abb b.boxes.length cbb))) b := by rw [hV27]; exact AlV.store hav26 (by simp) _
                  rw [if_pos (by kernel_rfl)]
                  refine wp_store_row 23 _ _ rfl (wr.heap.size) _ rfl rfl 23 _ rT26 (by rw [tagSize, tag_size hlT]) (by rw [ztr_size, tag_size hlT]) (tag_one _) ?_
                  rw [← hV27]
                  clear hV27
                  refine hKK.out _ _ (HCC.out _ hb27) (fun hHeld => ?_)
                  clear hKK KK
                  (try simp only [List.getElem_toArray, List.getElem_cons_succ, List.getElem_cons_zero, Act.put, List.setIfInBounds_toArray, List.set_cons_zero, List.set_cons_succ])
                  apply wpAnyH_take (i := 15) rfl (by kernel_rfl) (by kernel_rfl) (by kernel_rfl)
                  case hQ => exact fun _ _ _ h => h
                  case hS => exact hHeld
                  case hy => (refine Or.inl ⟨by rfl, ?_⟩; intro w hSw; (try go_split_ands); go_simp; (try with_reducible rfl))
                  (try simp only [List.getElem_toArray, List.getElem_cons_succ, List.getElem_cons_zero, Act.put, List.setIfInBounds_toArray, List.set_cons_zero, List.set_cons_succ])
                  refine wpAnyH_done (by kernel_rfl) ?_ _
                  go_wp2_with fail
                  go_meet
                  exact ⟨_, _, Amb, cmb, Abb, cbb, rfl, rfl, rfl, rb27, nT27, hav27.mono fun _ _ _ => trivial, hb27⟩
            case rest =>
              obtain ⟨Gb, GT, Amb, cmb, Abb, cbb, rfl, rfl, rfl, hr1, hr2, hav, hbu⟩ := hcut
              clear HCL
              rename World => wc
              have hswc : wr.heap.size ≤ wc.heap.size := hbu.size
              dsimp only at hr1 hr2 hav
              have H44 : Hid (Below w.heap.size w wc) := Lib.hid ((Below.trans H39.out (Below.mono hbu (Below.size H39.out))))
              have H45 : Hid (AlV wc (Off [u3.heap.size, u1.heap.size, w.heap.size]) (.agg (alc a.free a.seed a.fresh (.slice Ama a.macs.length cma) (.slice Aba a.boxes.length cba))) a) := Lib.hid ((AlV.below H40.out hbu (Nat.le_refl _)))
              have H46 : Hid (ALRow wc u1.heap.size a.free a.seed a.fresh (.slice Ama a.macs.length cma) (.slice Aba a.boxes.length cba)) := Lib.hid ((Whole.below H41.out hbu (Whole.lt H41.out)))
              have H47 : Hid (TGRow wc u3.heap.size K) := Lib.hid ((Whole.below H42.out hbu (Whole.lt H42.out)))
              have H48 : Hid (Below wv.heap.size wv wc) := Lib.hid ((Below.trans H43.out (Below.mono hbu (Below.size H43.out))))
              clear H39 H40 H41 H42 H43
              have H49 : Hid (ALRow wc Gb b.free b.seed b.fresh (.slice Amb b.macs.length cmb) (.slice Abb b.boxes.length cbb)) := Lib.hid (hr1)
              have H50 : Hid (TGRow wc GT T) := Lib.hid (hr2)
              have H51 : Hid (AlV wc (fun _ => True) (.agg (alc b.free b.seed b.fresh (.slice Amb b.macs.length cmb) (.slice Abb b.boxes.length cbb))) b) := Lib.hid (hav)
              have hcl3 : wc.cell? ⟨g1, o1 + i, none⟩ = some (.slice A3 M.length c3) := (hbu.cell (p := ⟨g1, o1 + i, none⟩) hg1).trans hcl3
              have hg1 : g1 < wc.heap.size := by omega
              have HB3 := Lib.hid (HB3.out.below hbu (Nat.le_refl _))
              clear hr1 hr2 hav hbu
              go_upto_region 14 with fail
              have hav0 := AlV.mono (Q' := fun q => q < wc.heap.size) H45.out fun q hq _ => hq
              obtain ⟨R, hR⟩ : ∃ R, R = aMac a K M := ⟨_, rfl⟩
              have hlU : R.2.1.length = 32 := by rw [hR]; exact AlV.mac_len hav0 _ _
              have hcl : ∀ W, Below wc.heap.size wc W → Calls Tryd.prog 27 #[.agg (alc a.free a.seed a.fresh (.slice Ama a.macs.length cma) (.slice Aba a.boxes.length cba)), .agg (K.map byt).toArray, .slice A3 M.length c3] W fun e w' => AlgR w' (fun q => q < wc.heap.size ∨ W.heap.size ≤ q) e R ∧ Below W.heap.size W w' := fun W hb => by
                rw [hR]
                exact rmac (AlV.below hav0 hb (Nat.le_refl _)) (by omega) hlK (HB3.out.below hb (Nat.le_refl _)) (by omega)
              have HCL := Lib.hid hcl
              clear hcl hav0
              obtain ⟨c, U, eU⟩ := R
              have HEc := Lib.hid hR
              clear hR
              dsimp only at hlU
              (try simp only [Act.put])
              go_cut [16, 17, 18] (fun s13 s14 s15 wx => McP wc (c, U, eU) s13 s14 s15 wx)
              case first =>
                have hcl := HCL.out
                have hcc : ∀ W, Below wc.heap.size wc W → (fun W : World => W.rangeAt u1.heap.size 0 (alcl a.free a.seed a.fresh (.slice Ama a.macs.length cma) (.slice Aba a.boxes.length cba)) ∧ W.rangeAt u3.heap.size 0 (K.map byt) ∧ W.cell? ⟨g1, o1 + i, none⟩ = some (.slice A3 M.length c3)) W := fun W hb => ⟨Whole.range (Whole.below H46.out hb (Whole.lt H46.out)), TGRow.range (Whole.below H47.out hb (Whole.lt H47.out)), (hb.cell (p := ⟨g1, o1 + i, none⟩) hg1).trans hcl3⟩
                have HCC := Lib.hid hcc
                clear hcc
                have hb0 : Below wc.heap.size wc wc.drew := Below.drew (Below.refl _ _)
                refine wp_region_held_drew (S := fun W : World => W.rangeAt u1.heap.size 0 (alcl a.free a.seed a.fresh (.slice Ama a.macs.length cma) (.slice Aba a.boxes.length cba)) ∧ W.rangeAt u3.heap.size 0 (K.map byt) ∧ W.cell? ⟨g1, o1 + i, none⟩ = some (.slice A3 M.length c3)) (by kernel_rfl) (HCC.out _ hb0) (fun hHeld => ?_)
                apply wpAnyH_take (i := 0) rfl (by kernel_rfl) (by kernel_rfl) (by kernel_rfl)
                case hQ => exact fun _ _ _ h => h
                case hS => exact hHeld
                case hy => exact yieldsIf_load_mid (by rfl) 28 _ rfl u1.heap.size (0) rfl ((alcl a.free a.seed a.fresh (.slice Ama a.macs.length cma) (.slice Aba a.boxes.length cba))) _ (fun w hS => hS.1) Tryd.underlying28 rfl (by rw [algSize, alcl_length])
                (try simp only [List.getElem_toArray, List.getElem_cons_zero, Act.put, List.setIfInBounds_toArray, List.set_cons_zero, List.set_cons_succ])
                apply wpAnyH_take (i := 1) rfl (by kernel_rfl) (by kernel_rfl) (by kernel_rfl)
                case hQ => exact fun _ _ _ h => h
                case hS => exact hHeld
                case hy => exact yieldsIf_load_mid (by rfl) 23 _ rfl u3.heap.size (0) rfl ((K.map byt)) _ (fun w hS => hS.2.1) Tryd.underlying23 rfl (by rw [tagSize, List.length_map, hlK])
                (try simp only [List.getElem_toArray, List.getElem_cons_succ, List.getElem_cons_zero, Act.put, List.setIfInBounds_toArray, List.set_cons_zero, List.set_cons_succ])
                apply wpAnyH_take (i := 2) rfl (by kernel_rfl) (by kernel_rfl) (by kernel_rfl)
                case hQ => exact fun _ _ _ h => h
                case hS => exact hHeld
                case hy => (refine Or.inl ⟨by rfl, ?_⟩; intro w hSw; (try go_split_ands); go_simp; (try with_reducible rfl))
                (try simp only [List.getElem_toArray, List.getElem_cons_succ, List.getElem_cons_zero, Act.put, List.setIfInBounds_toArray, List.set_cons_zero, List.set_cons_succ])
                apply wpAnyH_take (i := 3) rfl (by kernel_rfl) (by kernel_rfl) (by kernel_rfl)
                case hQ => exact fun _ _ _ h => h
                case hS => exact hHeld
                case hy => (refine Or.inl ⟨by rfl, ?_⟩; intro w hSw; (try go_split_ands); go_simp; (try with_reducible rfl))
                (try simp only [List.getElem_toArray, List.getElem_cons_succ, List.getElem_cons_zero, Act.put, List.setIfInBounds_toArray, List.set_cons_zero, List.set_cons_succ])
                apply wpAnyH_take (i := 4) rfl (by kernel_rfl) (by kernel_rfl) (by kernel_rfl)
                case hQ => exact fun _ _ _ h => h
                case hS => exact hHeld
                case hy => (refine Or.inl ⟨by rfl, ?_⟩; intro w hSw; (try go_split_ands); go_simp; (try with_reducible rfl))
                (try simp only [List.getElem_toArray, List.getElem_cons_succ, List.getElem_cons_zero, Act.put, List.setIfInBounds_toArray, List.set_cons_zero, List.set_cons_succ])
                apply wpAnyH_take (i := 5) rfl (by kernel_rfl) (by kernel_rfl) (by kernel_rfl)
                case hQ => exact fun _ _ _ h => h
                case hS => exact hHeld
                case hy => (refine Or.inl ⟨by rfl, ?_⟩; intro w hSw; (try go_split_ands); go_simp; (try with_reducible rfl))
                (try simp only [List.getElem_toArray, List.getElem_cons_succ, List.getElem_cons_zero, Act.put, List.setIfInBounds_toArray, List.set_cons_zero, List.set_cons_succ])
                refine wpAnyH_ready (rs := [6, 11, 12]) (by kernel_rfl) (by simp) ?_
                refine AllReadyH.cons rfl (fun KK hKK => ?_) (AllReadyH.cons rfl (fun KK hKK => ?_) (AllReadyH.cons rfl (fun KK hKK => ?_) AllReadyH.nil))
                · (try simp only [List.getElem_toArray, List.getElem_cons_succ, List.getElem_cons_zero])
                  go_simp
                  go_at_call 27
                  refine (hcl _ hb0).mono ?_
                  rintro e V1 ⟨⟨x, rfl, hx⟩, hv1⟩
                  have hb1 := Below.trans hb0 (Below.mono hv1 (Below.size hb0))
                  obtain ⟨Amc, cmc, Abc, cbc, rfl, hM, hBx, hA⟩ := hx
                  have hav1 : AlV V1 (Off []) (.agg (alc c.free c.seed c.fresh (.slice Amc c.macs.length cmc) (.slice Abc c.boxes.length cbc))) c := AlV.mono (Q := fun q => q < wc.heap.size ∨ (wc.drew).heap.size ≤ q) ⟨Amc, cmc, Abc, cbc, rfl, hM, hBx, hA⟩ fun q _ hq y hy => by cases hy
                  clear hM hBx hA
                  refine hKK.out _ _ (HCC.out _ hb1) (fun hHeld => ?_)
                  clear hKK KK
                  (try simp only [List.getElem_toArray, List.getElem_cons_succ, List.getElem_cons_zero, Act.put, List.setIfInBounds_toArray, List.set_cons_zero, List.set_cons_succ])
                  apply wpAnyH_take (i := 7) rfl (by kernel_rfl) (by kernel_rfl) (by kernel_rfl)
                  case hQ => exact fun _ _ _ h => h
                  case hS => exact hHeld
                  case hy => (refine Or.inl ⟨by rfl, ?_⟩; intro w hSw; (try go_split_ands); go_simp; (try with_reducible rfl))
                  (try simp only [List.getElem_toArray, List.getElem_cons_succ, List.getElem_cons_zero, Act.put, List.setIfInBounds_toArray, List.set_cons_zero, List.set_cons_succ])
                  apply wpAnyH_take (i := 8) rfl (by kernel_rfl) (by kernel_rfl) (by kernel_rfl)
                  case hQ => exact fun _ _ _ h => h
                  case hS => exact hHeld
                  case hy => (refine Or.inl ⟨by rfl, ?_⟩; intro w hSw; (try go_split_ands); go_simp; (try with_reducible rfl))
                  (try simp only [List.getElem_toArray, List.getElem_cons_succ, List.getElem_cons_zero, Act.put, List.setIfInBounds_toArray, List.set_cons_zero, List.set_cons_succ])
                  apply wpAnyH_take (i := 9) rfl (by kernel_rfl) (by kernel_rfl) (by kernel_rfl)
                  case hQ => exact fun _ _ _ h => h
                  case hS => exact hHeld
                  case hy => (refine Or.inl ⟨by rfl, ?_⟩; intro w hSw; (try go_split_ands); go_simp; (try with_reducible rfl))
                  (try simp only [List.getElem_toArray, List.getElem_cons_succ, List.getElem_cons_zero, Act.put, List.setIfInBounds_toArray, List.set_cons_zero, List.set_cons_succ])
                  apply wpAnyH_take (i := 10) rfl (by kernel_rfl) (by kernel_rfl) (by kernel_rfl)
                  case hQ => exact fun _ _ _ h => h
                  case hS => exact hHeld
                  case hy => (refine Or.inl ⟨by rfl, ?_⟩; intro w hSw; (try go_split_ands); go_simp; (try with_reducible rfl))
                  (try simp only [List.getElem_toArray, List.getElem_cons_succ, List.getElem_cons_zero, Act.put, List.setIfInBounds_toArray, List.set_cons_zero, List.set_cons_succ])
                  refine wpAnyH_ready (rs := [11, 12]) (by kernel_rfl) (by simp) ?_
                  refine AllReadyH.cons rfl (fun KK hKK => ?_) (AllReadyH.cons rfl (fun KK hKK => ?_) AllReadyH.nil)
                  · (try simp only [List.getElem_toArray, List.getElem_cons_succ, List.getElem_cons_zero])
                    go_simp
                    rw [zar_lit]
                    obtain ⟨V2, hV2⟩ : ∃ x, x = (V1).alloc (.cells zar 28) := ⟨_, rfl⟩
                    have hv2 : Below V1.heap.size V1 V2 := by rw [hV2]; exact (Below.refl _ _).alloc (Nat.le_refl _) _
                    have hb2 : Below wc.heap.size wc V2 := Below.trans hb1 (Below.mono hv2 (Below.size hb1))
                    have nb2 : Whole V2 V1.heap.size 28 zar := by rw [hV2]; exact Whole.here _ _ _
                    have pb2 : wc.heap.size ≤ V1.heap.size := Below.size hb1
                    rw [← hV2]
                    clear hV2
                    have hav2 : AlV V2 (Off [V1.heap.size]) (.agg (alc c.free c.seed c.fresh (.slice Amc c.macs.length cmc) (.slice Abc c.boxes.length cbc))) c := AlV.below (AlV.grow hav1 (Nat.le_refl _)) hv2 (Nat.le_refl _)
                    refine hKK.out _ _ (HCC.out _ hb2) (fun hHeld => ?_)
                    clear hKK KK
                    (try simp only [List.getElem_toArray, List.getElem_cons_succ, List.getElem_cons_zero, Act.put, List.setIfInBounds_toArray, List.set_cons_zero, List.set_cons_succ])
                    refine wpAnyH_ready (rs := [12]) (by kernel_rfl) (by simp) ?_
                    refine AllReadyH.cons rfl (fun KK hKK => ?_) AllReadyH.nil
                    (try simp only [List.getElem_toArray, List.getElem_cons_succ, List.getElem_cons_zero])
                    go_simp
                    rw [ztr_lit]
                    obtain ⟨V3, hV3⟩ : ∃ x, x = (V2).alloc (.cells ztr 23) := ⟨_, rfl⟩
                    have hv3 : Below V2.heap.size V2 V3 := by rw [hV3]; exact (Below.refl _ _).alloc (Nat.le_refl _) _
                    have hb3 : Below wc.heap.size wc V3 := Below.trans hb2 (Below.mono hv3 (Below.size hb2))
                    have nT3 : Whole V3 V2.heap.size 23 ztr := by rw [hV3]; exact Whole.here _ _ _
                    have pT3 : wc.heap.size ≤ V2.heap.size := Below.size hb2
                    have rb3 := Whole.below nb2 hv3 (Whole.lt nb2)
                    rw [← hV3]
                    clear hV3
                    have hav3 : AlV V3 (Off [V2.heap.size, V1.heap.size]) (.agg (alc c.free c.seed c.fresh (.slice Amc c.macs.length cmc) (.slice Abc c.boxes.length cbc))) c := AlV.below (AlV.grow hav2 (Nat.le_refl _)) hv3 (Nat.le_refl _)
                    have dbT : V1.heap.size ≠ V2.heap.size := Nat.ne_of_lt (Whole.lt nb2)
                    refine hKK.out _ _ (HCC.out _ hb3) (fun hHeld => ?_)
                    clear hKK KK
                    (try simp only [List.getElem_toArray, List.getElem_cons_succ, List.getElem_cons_zero, Act.put, List.setIfInBounds_toArray, List.set_cons_zero, List.set_cons_succ])
                    refine wpAnyH_ready (rs := [13]) (by kernel_rfl) (by simp) ?_
                    refine AllReadyH.cons rfl (fun KK hKK => ?_) AllReadyH.nil
                    obtain ⟨V4, hV4⟩ : ∃ x, x = (V3).setRow (V1.heap.size) (alc c.free c.seed c.fresh (.slice Amc c.macs.length cmc) (.slice Abc c.boxes.length cbc)) := ⟨_, rfl⟩
                    have nb4 : Whole V4 (V1.heap.size) 28 (alc c.free c.seed c.fresh (.slice Amc c.macs.length cmc) (.slice Abc c.boxes.length cbc)) := by rw [hV4]; exact Whole.setRow rb3 _
                    have hb4 : Below wc.heap.size wc V4 := by rw [hV4]; exact below_setRow hb3 pb2 _
                    have rT4 := Whole.setRow_far nT3 (Ne.symm dbT) (alc c.free c.seed c.fresh (.slice Amc c.macs.length cmc) (.slice Abc c.boxes.length cbc))
                    rw [← hV4] at rT4
                    have hav4 : AlV V4 (Off [V2.heap.size, V1.heap.size]) (.agg (alc c.free c.seed c.fresh (.slice Amc c.macs.length cmc) (.slice Abc c.boxes.length cbc))) c := by rw [hV4]; exact AlV.store hav3 (by simp) _
                    rw [if_pos (by kernel_rfl)]
                    refine wp_store_row 28 _ _ rfl (V1.heap.size) _ rfl rfl 28 _ rb3 (by rw [algSize, alc_size]) (by rw [zar_size, alc_size]) (alc_one _ _ _ _ _ _ _ _ _) ?_
                    rw [← hV4]
                    clear hV4
                    refine hKK.out _ _ (HCC.out _ hb4) (fun hHeld => ?_)
                    clear hKK KK
                    (try simp only [List.getElem_toArray, List.getElem_cons_succ, List.getElem_cons_zero, Act.put, List.setIfInBounds_toArray, List.set_cons_zero, List.set_cons_succ])
                    refine wpAnyH_ready (rs := [14]) (by kernel_rfl) (by simp) ?_
                    refine AllReadyH.cons rfl (fun KK hKK => ?_) AllReadyH.nil
                    obtain ⟨V5, hV5⟩ : ∃ x, x = (V4).setRow (V2.heap.size) (U.map byt).toArray := ⟨_, rfl⟩
                    have nT5 : Whole V5 (V2.heap.size) 23 (U.map byt).toArray := by rw [hV5]; exact Whole.setRow rT4 _
                    have hb5 : Below wc.heap.size wc V5 := by rw [hV5]; exact below_setRow hb4 pT3 _
                    have rb5 := Whole.setRow_far nb4 (dbT) (U.map byt).toArray
                    rw [← hV5] at rb5
                    have hav5 : AlV V5 (Off [V2.heap.size, V1.heap.size]) (.agg (alc c.free c.seed c.fresh (.slice Amc c.macs.length cmc) (.slice Abc c.boxes.length cbc))) c := by rw [hV5]; exact AlV.store hav4 (by simp) _
                    rw [if_pos (by kernel_rfl)]
                    refine wp_store_row 23 _ _ rfl (V2.heap.size) _ rfl rfl 23 _ rT4 (by rw [tagSize, tag_size hlU]) (by rw [ztr_size, tag_size hlU]) (tag_one _) ?_
                    rw [← hV5]
                    clear hV5
                    refine hKK.out _ _ (HCC.out _ hb5) (fun hHeld => ?_)
                    clear hKK KK
                    (try simp only [List.getElem_toArray, List.getElem_cons_succ, List.getElem_cons_zero, Act.put, List.setIfInBounds_toArray, List.set_cons_zero, List.set_cons_succ])
                    apply wpAnyH_take (i := 15) rfl (by kernel_rfl) (by kernel_rfl) (by kernel_rfl)
                    case hQ => exact fun _ _ _ h => h
                    case hS => exact hHeld
                    case hy => (refine Or.inl ⟨by rfl, ?_⟩; intro w hSw; (try go_split_ands); go_simp; (try with_reducible rfl))
                    (try simp only [List.getElem_toArray, List.getElem_cons_succ, List.getElem_cons_zero, Act.put, List.setIfInBounds_toArray, List.set_cons_zero, List.set_cons_succ])
                    refine wpAnyH_done (by kernel_rfl) ?_ _
                    go_wp2_with fail
                    go_meet
                    exact ⟨_, _, Amc, cmc, Abc, cbc, rfl, rfl, rfl, rb5, nT5, hav5.mono fun _ _ _ => trivial, hb5⟩
                  · (try simp only [List.getElem_toArray, List.getElem_cons_succ, List.getElem_cons_zero])
                    go_simp
                    rw [ztr_lit]
                    obtain ⟨V6, hV6⟩ : ∃ x, x = (V1).alloc (.cells ztr 23) := ⟨_, rfl⟩
                    have hv6 : Below V1.heap.size V1 V6 := by rw [hV6]; exact (Below.refl _ _).alloc (Nat.le_refl _) _
                    have hb6 : Below wc.heap.size wc V6 := Below.trans hb1 (Below.mono hv6 (Below.size hb1))
                    have nT6 : Whole V6 V1.heap.size 23 ztr := by rw [hV6]; exact Whole.here _ _ _
                    have pT6 : wc.heap.size ≤ V1.heap.size := Below.size hb1
                    rw [← hV6]
                    clear hV6
                    have hav6 : AlV V6 (Off [V1.heap.size]) (.agg (alc c.free c.seed c.fresh (.slice Amc c.macs.length cmc) (.slice Abc c.boxes.length cbc))) c := AlV.below (AlV.grow hav1 (Nat.le_refl _)) hv6 (Nat.le_refl _)
                    refine hKK.out _ _ (HCC.out _ hb6) (fun hHeld => ?_)
                    clear hKK KK
                    (try simp only [List.getElem_toArray, List.getElem_cons_succ, List.getElem_cons_zero, Act.put, List.setIfInBounds_toArray, List.set_cons_zero, List.set_cons_succ])
                    refine wpAnyH_ready (rs := [11]) (by kernel_rfl) (by simp) ?_
                    refine AllReadyH.cons rfl (fun KK hKK => ?_) AllReadyH.nil
                    (try simp only [List.getElem_toArray, List.getElem_cons_succ, List.getElem_cons_zero])
                    go_simp
                    rw [zar_lit]
                    obtain ⟨V7, hV7⟩ : ∃ x, x = (V6).alloc (.cells zar 28) := ⟨_, rfl⟩
                    have hv7 : Below V6.heap.size V6 V7 := by rw [hV7]; exact (Below.refl _ _).alloc (Nat.le_refl _) _
                    have hb7 : Below wc.heap.size wc V7 := Below.trans hb6 (Below.mono hv7 (Below.size hb6))
                    have nb7 : Whole V7 V6.heap.size 28 zar := by rw [hV7]; exact Whole.here _ _ _
                    have pb7 : wc.heap.size ≤ V6.heap.size := Below.size hb6
                    have rT7 := Whole.below nT6 hv7 (Whole.lt nT6)
                    rw [← hV7]
                    clear hV7
                    have hav7 : AlV V7 (Off [V6.heap.size, V1.heap.size]) (.agg (alc c.free c.seed c.fresh (.slice Amc c.macs.length cmc) (.slice Abc c.boxes.length cbc))) c := AlV.below (AlV.grow hav6 (Nat.le_refl _)) hv7 (Nat.le_refl _)
                    have dTb : V1.heap.size ≠ V6.heap.size := Nat.ne_of_lt (Whole.lt nT6)
                    refine hKK.out _ _ (HCC.out _ hb7) (fun hHeld => ?_)
                    clear hKK KK
                    (try simp only [List.getElem_toArray, List.getElem_cons_succ, List.getElem_cons_zero, Act.put, List.setIfInBounds_toArray, List.set_cons_zero, List.set_cons_succ])
                    refine wpAnyH_ready (rs := [13]) (by kernel_rfl) (by simp) ?_
                    refine AllReadyH.cons rfl (fun KK hKK => ?_) AllReadyH.nil
                    obtain ⟨V8, hV8⟩ : ∃ x, x = (V7).setRow (V6.heap.size) (alc c.free c.seed c.fresh (.slice Amc c.macs.length cmc) (.slice Abc c.boxes.length cbc)) := ⟨_, rfl⟩
                    have nb8 : Whole V8 (V6.heap.size) 28 (alc c.free c.seed c.fresh (.slice Amc c.macs.length cmc) (.slice Abc c.boxes.length cbc)) := by rw [hV8]; exact Whole.setRow nb7 _
                    have hb8 : Below wc.heap.size wc V8 := by rw [hV8]; exact below_setRow hb7 pb7 _
                    have rT8 := Whole.setRow_far rT7 (dTb) (alc c.free c.seed c.fresh (.slice Amc c.macs.length cmc) (.slice Abc c.boxes.length cbc))
                    rw [← hV8] at rT8
                    have hav8 : AlV V8 (Off [V6.heap.size, V1.heap.size]) (.agg (alc c.free c.seed c.fresh (.slice Amc c.macs.length cmc) (.slice Abc c.boxes.length cbc))) c := by rw [hV8]; exact AlV.store hav7 (by simp) _
                    rw [if_pos (by kernel_rfl)]
                    refine wp_store_row 28 _ _ rfl (V6.heap.size) _ rfl rfl 28 _ nb7 (by rw [algSize, alc_size]) (by rw [zar_size, alc_size]) (alc_one _ _ _ _ _ _ _ _ _) ?_
                    rw [← hV8]
                    clear hV8
                    refine hKK.out _ _ (HCC.out _ hb8) (fun hHeld => ?_)
                    clear hKK KK
                    (try simp only [List.getElem_toArray, List.getElem_cons_succ, List.getElem_cons_zero, Act.put, List.setIfInBounds_toArray, List.set_cons_zero, List.set_cons_succ])
                    refine wpAnyH_ready (rs := [14]) (by kernel_rfl) (by simp) ?_
                    refine AllReadyH.cons rfl (fun KK hKK => ?_) AllReadyH.nil
                    obtain ⟨V9, hV9⟩ : ∃ x, x = (V8).setRow (V1.heap.size) (U.map byt).toArray := ⟨_, rfl⟩
                    have nT9 : Whole V9 (V1.heap.size) 23 (U.map byt).toArray := by rw [hV9]; exact Whole.setRow rT8 _
                    have hb9 : Below wc.heap.size wc V9 := by rw [hV9]; exact below_setRow hb8 pT6 _
                    have rb9 := Whole.setRow_far nb8 (Ne.symm dTb) (U.map byt).toArray
                    rw [← hV9] at rb9
                    have hav9 : AlV V9 (Off [V6.heap.size, V1.heap.size]) (.agg (alc c.free c.seed c.fresh (.slice Amc c.macs.length cmc) (.slice Abc c.boxes.length cbc))) c := by rw [hV9]; exact AlV.store hav8 (by simp) _
                    rw [if_pos (by kernel_rfl)]
                    refine wp_store_row 23 _ _ rfl (V1.heap.size) _ rfl rfl 23 _ rT8 (by rw [tagSize, tag_size hlU]) (by rw [ztr_size, tag_size hlU]) (tag_one _) ?_
                    rw [← hV9]
                    clear hV9
                    refine hKK.out _ _ (HCC.out _ hb9) (fun hHeld => ?_)
                    clear hKK KK
                    (try simp only [List.getElem_toArray, List.getElem_cons_succ, List.getElem_cons_zero, Act.put, List.setIfInBounds_toArray, List.set_cons_zero, List.set_cons_succ])
                    apply wpAnyH_take (i := 15) rfl (by kernel_rfl) (by kernel_rfl) (by kernel_rfl)
                    case hQ => exact fun _ _ _ h => h
                    case hS => exact hHeld
                    case hy => (refine Or.inl ⟨by rfl, ?_⟩; intro w hSw; (try go_split_ands); go_simp; (try with_reducible rfl))
                    (try simp only [List.getElem_toArray, List.getElem_cons_succ, List.getElem_cons_zero, Act.put, List.setIfInBounds_toArray, List.set_cons_zero, List.set_cons_succ])
                    refine wpAnyH_done (by kernel_rfl) ?_ _
                    go_wp2_with fail
                    go_meet
                    exact ⟨_, _, Amc, cmc, Abc, cbc, rfl, rfl, rfl, rb9, nT9, hav9.mono fun _ _ _ => trivial, hb9⟩
                · (try simp only [List.getElem_toArray, List.getElem_cons_succ, List.getElem_cons_zero])
                  go_simp
                  rw [zar_lit]
                  obtain ⟨V10, hV10⟩ : ∃ x, x = (wc.alloc (.cells zar 28)).drew := ⟨_, rfl⟩
                  have hv10 : Below wc.heap.size wc V10 := by rw [hV10]; exact ((Below.refl _ _).alloc (Nat.le_refl _) _).drew
                  have hb10 : Below wc.heap.size wc V10 := hv10
                  have nb10 : Whole V10 wc.heap.size 28 zar := by rw [hV10]; exact Whole.here _ _ _
                  have pb10 : wc.heap.size ≤ wc.heap.size := Nat.le_refl _
                  rw [← hV10]
                  clear hV10
                  refine hKK.out _ _ (HCC.out _ hb10) (fun hHeld => ?_)
                  clear hKK KK
                  (try simp only [List.getElem_toArray, List.getElem_cons_succ, List.getElem_cons_zero, Act.put, List.setIfInBounds_toArray, List.set_cons_zero, List.set_cons_succ])
                  refine wpAnyH_ready (rs := [6, 12]) (by kernel_rfl) (by simp) ?_
                  refine AllReadyH.cons rfl (fun KK hKK => ?_) (AllReadyH.cons rfl (fun KK hKK => ?_) AllReadyH.nil)
                  · (try simp only [List.getElem_toArray, List.getElem_cons_succ, List.getElem_cons_zero])
                    go_simp
                    go_at_call 27
                    refine (hcl _ hb10).mono ?_
                    rintro e V11 ⟨⟨x, rfl, hx⟩, hv11⟩
                    have hb11 := Below.trans hb10 (Below.mono hv11 (Below.size hb10))
                    have rb11 := Whole.below nb10 hv11 (Whole.lt nb10)
                    obtain ⟨Amc, cmc, Abc, cbc, rfl, hM, hBx, hA⟩ := hx
                    have hav11 : AlV V11 (Off [wc.heap.size]) (.agg (alc c.free c.seed c.fresh (.slice Amc c.macs.length cmc) (.slice Abc c.boxes.length cbc))) c := AlV.mono (Q := fun q => q < wc.heap.size ∨ (V10).heap.size ≤ q) ⟨Amc, cmc, Abc, cbc, rfl, hM, hBx, hA⟩ fun q _ hq y hy => by have h1b := Whole.lt nb10; have h2b := pb10; simp at hy; rcases hq with hq | hq <;> omega
                    clear hM hBx hA
                    refine hKK.out _ _ (HCC.out _ hb11) (fun hHeld => ?_)
                    clear hKK KK
                    (try simp only [List.getElem_toArray, List.getElem_cons_succ, List.getElem_cons_zero, Act.put, List.setIfInBounds_toArray, List.set_cons_zero, List.set_cons_succ])
                    apply wpAnyH_take (i := 7) rfl (by kernel_rfl) (by kernel_rfl) (by kernel_rfl)
                    case hQ => exact fun _ _ _ h => h
                    case hS => exact hHeld
                    case hy => (refine Or.inl ⟨by rfl, ?_⟩; intro w hSw; (try go_split_ands); go_simp; (try with_reducible rfl))
                    (try simp only [List.getElem_toArray, List.getElem_cons_succ, List.getElem_cons_zero, Act.put, List.setIfInBounds_toArray, List.set_cons_zero, List.set_cons_succ])
                    apply wpAnyH_take (i := 8) rfl (by kernel_rfl) (by kernel_rfl) (by kernel_rfl)
                    case hQ => exact fun _ _ _ h => h
                    case hS => exact hHeld
                    case hy => (refine Or.inl ⟨by rfl, ?_⟩; intro w hSw; (try go_split_ands); go_simp; (try with_reducible rfl))
                    (try simp only [List.getElem_toArray, List.getElem_cons_succ, List.getElem_cons_zero, Act.put, List.setIfInBounds_toArray, List.set_cons_zero, List.set_cons_succ])
                    apply wpAnyH_take (i := 9) rfl (by kernel_rfl) (by kernel_rfl) (by kernel_rfl)
                    case hQ => exact fun _ _ _ h => h
                    case hS => exact hHeld
                    case hy => (refine Or.inl ⟨by rfl, ?_⟩; intro w hSw; (try go_split_ands); go_simp; (try with_reducible rfl))
                    (try simp only [List.getElem_toArray, List.getElem_cons_succ, List.getElem_cons_zero, Act.put, List.setIfInBounds_toArray, List.set_cons_zero, List.set_cons_succ])
                    apply wpAnyH_take (i := 10) rfl (by kernel_rfl) (by kernel_rfl) (by kernel_rfl)
                    case hQ => exact fun _ _ _ h => h
                    case hS => exact hHeld
                    case hy => (refine Or.inl ⟨by rfl, ?_⟩; intro w hSw; (try go_split_ands); go_simp; (try with_reducible rfl))
                    (try simp only [List.getElem_toArray, List.getElem_cons_succ, List.getElem_cons_zero, Act.put, List.setIfInBounds_toArray, List.set_cons_zero, List.set_cons_succ])
                    refine wpAnyH_ready (rs := [12]) (by kernel_rfl) (by simp) ?_
                    refine AllReadyH.cons rfl (fun KK hKK => ?_) AllReadyH.nil
                    (try simp only [List.getElem_toArray, List.getElem_cons_succ, List.getElem_cons_zero])
                    go_simp
                    rw [ztr_lit]
                    obtain ⟨V12, hV12⟩ : ∃ x, x = (V11).alloc (.cells ztr 23) := ⟨_, rfl⟩
                    have hv12 : Below V11.heap.size V11 V12 := by rw [hV12]; exact (Below.refl _ _).alloc (Nat.le_refl _) _
                    have hb12 : Below wc.heap.size wc V12 := Below.trans hb11 (Below.mono hv12 (Below.size hb11))
                    have nT12 : Whole V12 V11.heap.size 23 ztr := by rw [hV12]; exact Whole.here _ _ _
                    have pT12 : wc.heap.size ≤ V11.heap.size := Below.size hb11
                    have rb12 := Whole.below rb11 hv12 (Whole.lt rb11)
                    rw [← hV12]
                    clear hV12
                    have hav12 : AlV V12 (Off [V11.heap.size, wc.heap.size]) (.agg (alc c.free c.seed c.fresh (.slice Amc c.macs.length cmc) (.slice Abc c.boxes.length cbc))) c := AlV.below (AlV.grow hav11 (Nat.le_refl _)) hv12 (Nat.le_refl _)
                    have dbT : wc.heap.size ≠ V11.heap.size := Nat.ne_of_lt (Whole.lt rb11)
                    refine hKK.out _ _ (HCC.out _ hb12) (fun hHeld => ?_)
                    clear hKK KK
                    (try simp only [List.getElem_toArray, List.getElem_cons_succ, List.getElem_cons_zero, Act.put, List.setIfInBounds_toArray, List.set_cons_zero, List.set_cons_succ])
                    refine wpAnyH_ready (rs := [13]) (by kernel_rfl) (by simp) ?_
                    refine AllReadyH.cons rfl (fun KK hKK => ?_) AllReadyH.nil
                    obtain ⟨V13, hV13⟩ : ∃ x, x = (V12).setRow (wc.heap.size) (alc c.free c.seed c.fresh (.slice Amc c.macs.length cmc) (.slice Abc c.boxes.length cbc)) := ⟨_, rfl⟩
                    have nb13 : Whole V13 (wc.heap.size) 28 (alc c.free c.seed c.fresh (.slice Amc c.macs.length cmc) (.slice Abc c.boxes.length cbc)) := by rw [hV13]; exact Whole.setRow rb12 _
                    have hb13 : Below wc.heap.size wc V13 := by rw [hV13]; exact below_setRow hb12 pb10 _
                    have rT13 := Whole.setRow_far nT12 (Ne.symm dbT) (alc c.free c.seed c.fresh (.slice Amc c.macs.length cmc) (.slice Abc c.boxes.length cbc))
                    rw [← hV13] at rT13
                    have hav13 : AlV V13 (Off [V11.heap.size, wc.heap.size]) (.agg (alc c.free c.seed c.fresh (.slice Amc c.macs.length cmc) (.slice Abc c.boxes.length cbc))) c := by rw [hV13]; exact AlV.store hav12 (by simp) _
                    rw [if_pos (by kernel_rfl)]
                    refine wp_store_row 28 _ _ rfl (wc.heap.size) _ rfl rfl 28 _ rb12 (by rw [algSize, alc_size]) (by rw [zar_size, alc_size]) (alc_one _ _ _ _ _ _ _ _ _) ?_
                    rw [← hV13]
                    clear hV13
                    refine hKK.out _ _ (HCC.out _ hb13) (fun hHeld => ?_)
                    clear hKK KK
                    (try simp only [List.getElem_toArray, List.getElem_cons_succ, List.getElem_cons_zero, Act.put, List.setIfInBounds_toArray, List.set_cons_zero, List.set_cons_succ])
                    refine wpAnyH_ready (rs := [14]) (by kernel_rfl) (by simp) ?_
                    refine AllReadyH.cons rfl (fun KK hKK => ?_) AllReadyH.nil
                    obtain ⟨V14, hV14⟩ : ∃ x, x = (V13).setRow (V11.heap.size) (U.map byt).toArray := ⟨_, rfl⟩
                    have nT14 : Whole V14 (V11.heap.size) 23 (U.map byt).toArray := by rw [hV14]; exact Whole.setRow rT13 _
                    have hb14 : Below wc.heap.size wc V14 := by rw [hV14]; exact below_setRow hb13 pT12 _
                    have rb14 := Whole.setRow_far nb13 (dbT) (U.map byt).toArray
                    rw [← hV14] at rb14
                    have hav14 : AlV V14 (Off [V11.heap.size, wc.heap.size]) (.agg (alc c.free c.seed c.fresh (.slice Amc c.macs.length cmc) (.slice Abc c.boxes.length cbc))) c := by rw [hV14]; exact AlV.store hav13 (by simp) _
                    rw [if_pos (by kernel_rfl)]
                    refine wp_store_row 23 _ _ rfl (V11.heap.size) _ rfl rfl 23 _ rT13 (by rw [tagSize, tag_size hlU]) (by rw [ztr_size, tag_size hlU]) (tag_one _) ?_
                    rw [← hV14]
                    clear hV14
                    refine hKK.out _ _ (HCC.out _ hb14) (fun hHeld => ?_)
                    clear hKK KK
                    (try simp only [List.getElem_toArray, List.getElem_cons_succ, List.getElem_cons_zero, Act.put, List.setIfInBounds_toArray, List.set_cons_zero, List.set_cons_succ])
                    apply wpAnyH_take (i := 15) rfl (by kernel_rfl) (by kernel_rfl) (by kernel_rfl)
                    case hQ => exact fun _ _ _ h => h
                    case hS => exact hHeld
                    case hy => (refine Or.inl ⟨by rfl, ?_⟩; intro w hSw; (try go_split_ands); go_simp; (try with_reducible rfl))
                    (try simp only [List.getElem_toArray, List.getElem_cons_succ, List.getElem_cons_zero, Act.put, List.setIfInBounds_toArray, List.set_cons_zero, List.set_cons_succ])
                    refine wpAnyH_done (by kernel_rfl) ?_ _
                    go_wp2_with fail
                    go_meet
                    exact ⟨_, _, Amc, cmc, Abc, cbc, rfl, rfl, rfl, rb14, nT14, hav14.mono fun _ _ _ => trivial, hb14⟩
                  · (try simp only [List.getElem_toArray, List.getElem_cons_succ, List.getElem_cons_zero])
                    go_simp
                    rw [ztr_lit]
                    obtain ⟨V15, hV15⟩ : ∃ x, x = (V10).alloc (.cells ztr 23) := ⟨_, rfl⟩
                    have hv15 : Below V10.heap.size V10 V15 := by rw [hV15]; exact (Below.refl _ _).alloc (Nat.le_refl _) _
                    have hb15 : Below wc.heap.size wc V15 := Below.trans hb10 (Below.mono hv15 (Below.size hb10))
                    have nT15 : Whole V15 V10.heap.size 23 ztr := by rw [hV15]; exact Whole.here _ _ _
                    have pT15 : wc.heap.size ≤ V10.heap.size := Below.size hb10
                    have rb15 := Whole.below nb10 hv15 (Whole.lt nb10)
                    rw [← hV15]
                    clear hV15
                    have dbT : wc.heap.size ≠ V10.heap.size := Nat.ne_of_lt (Whole.lt nb10)
                    refine hKK.out _ _ (HCC.out _ hb15) (fun hHeld => ?_)
                    clear hKK KK
                    (try simp only [List.getElem_toArray, List.getElem_cons_succ, List.getElem_cons_zero, Act.put, List.setIfInBounds_toArray, List.set_cons_zero, List.set_cons_succ])
                    refine wpAnyH_ready (rs := [6]) (by kernel_rfl) (by simp) ?_
                    refine AllReadyH.cons rfl (fun KK hKK => ?_) AllReadyH.nil
                    (try simp only [List.getElem_toArray, List.getElem_cons_succ, List.getElem_cons_zero])
                    go_simp
                    go_at_call 27
                    refine (hcl _ hb15).mono ?_
                    rintro e V16 ⟨⟨x, rfl, hx⟩, hv16⟩
                    have hb16 := Below.trans hb15 (Below.mono hv16 (Below.size hb15))
                    have rb16 := Whole.below rb15 hv16 (Whole.lt rb15)
                    have rT16 := Whole.below nT15 hv16 (Whole.lt nT15)
                    obtain ⟨Amc, cmc, Abc, cbc, rfl, hM, hBx, hA⟩ := hx
                    have hav16 : AlV V16 (Off [wc.heap.size, V10.heap.size]) (.agg (alc c.free c.seed c.fresh (.slice Amc c.macs.length cmc) (.slice Abc c.boxes.length cbc))) c := AlV.mono (Q := fun q => q < wc.heap.size ∨ (V15).heap.size ≤ q) ⟨Amc, cmc, Abc, cbc, rfl, hM, hBx, hA⟩ fun q _ hq y hy => by have h1b := Whole.lt rb15; have h2b := pb10; have h1T := Whole.lt nT15; have h2T := pT15; simp at hy; rcases hq with hq | hq <;> omega
                    clear hM hBx hA
                    refine hKK.out _ _ (HCC.out _ hb16) (fun hHeld => ?_)
                    clear hKK KK
                    (try simp only [List.getElem_toArray, List.getElem_cons_succ, List.getElem_cons_zero, Act.put, List.setIfInBounds_toArray, List.set_cons_zero, List.set_cons_succ])
                    apply wpAnyH_take (i := 7) rfl (by kernel_rfl) (by kernel_rfl) (by kernel_rfl)
                    case hQ => exact fun _ _ _ h => h
                    case hS => exact hHeld
                    case hy => (refine Or.inl ⟨by rfl, ?_⟩; intro w hSw; (try go_split_ands); go_simp; (try with_reducible rfl))
                    (try simp only [List.getElem_toArray, List.getElem_cons_succ, List.getElem_cons_zero, Act.put, List.setIfInBounds_toArray, List.set_cons_zero, List.set_cons_succ])
                    apply wpAnyH_take (i := 8) rfl (by kernel_rfl) (by kernel_rfl) (by kernel_rfl)
                    case hQ => exact fun _ _ _ h => h
                    case hS => exact hHeld
                    case hy => (refine Or.inl ⟨by rfl, ?_⟩; intro w hSw; (try go_split_ands); go_simp; (try with_reducible rfl))
                    (try simp only [List.getElem_toArray, List.getElem_cons_succ, List.getElem_cons_zero, Act.put, List.setIfInBounds_toArray, List.set_cons_zero, List.set_cons_succ])
                    apply wpAnyH_take (i := 9) rfl (by kernel_rfl) (by kernel_rfl) (by kernel_rfl)
                    case hQ => exact fun _ _ _ h => h
                    case hS => exact hHeld
                    case hy => (refine Or.inl ⟨by rfl, ?_⟩; intro w hSw; (try go_split_ands); go_simp; (try with_reducible rfl))
                    (try simp only [List.getElem_toArray, List.getElem_cons_succ, List.getElem_cons_zero, Act.put, List.setIfInBounds_toArray, List.set_cons_zero, List.set_cons_succ])
                    apply wpAnyH_take (i := 10) rfl (by kernel_rfl) (by kernel_rfl) (by kernel_rfl)
                    case hQ => exact fun _ _ _ h => h
                    case hS => exact hHeld
                    case hy => (refine Or.inl ⟨by rfl, ?_⟩; intro w hSw; (try go_split_ands); go_simp; (try with_reducible rfl))
                    (try simp only [List.getElem_toArray, List.getElem_cons_succ, List.getElem_cons_zero, Act.put, List.setIfInBounds_toArray, List.set_cons_zero, List.set_cons_succ])
                    refine wpAnyH_ready (rs := [13]) (by kernel_rfl) (by simp) ?_
                    refine AllReadyH.cons rfl (fun KK hKK => ?_) AllReadyH.nil
                    obtain ⟨V17, hV17⟩ : ∃ x, x = (V16).setRow (wc.heap.size) (alc c.free c.seed c.fresh (.slice Amc c.macs.length cmc) (.slice Abc c.boxes.length cbc)) := ⟨_, rfl⟩
                    have nb17 : Whole V17 (wc.heap.size) 28 (alc c.free c.seed c.fresh (.slice Amc c.macs.length cmc) (.slice Abc c.boxes.length cbc)) := by rw [hV17]; exact Whole.setRow rb16 _
                    have hb17 : Below wc.heap.size wc V17 := by rw [hV17]; exact below_setRow hb16 pb10 _
                    have rT17 := Whole.setRow_far rT16 (Ne.symm dbT) (alc c.free c.seed c.fresh (.slice Amc c.macs.length cmc) (.slice Abc c.boxes.length cbc))
                    rw [← hV17] at rT17
                    have hav17 : AlV V17 (Off [wc.heap.size, V10.heap.size]) (.agg (alc c.free c.seed c.fresh (.slice Amc c.macs.length cmc) (.slice Abc c.boxes.length cbc))) c := by rw [hV17]; exact AlV.store hav16 (by simp) _
                    rw [if_pos (by kernel_rfl)]
                    refine wp_store_row 28 _ _ rfl (wc.heap.size) _ rfl rfl 28 _ rb16 (by rw [algSize, alc_size]) (by rw [zar_size, alc_size]) (alc_one _ _ _ _ _ _ _ _ _) ?_
                    rw [← hV17]
                    clear hV17
                    refine hKK.out _ _ (HCC.out _ hb17) (fun hHeld => ?_)
                    clear hKK KK
                    (try simp only [List.getElem_toArray, List.getElem_cons_succ, List.getElem_cons_zero, Act.put, List.setIfInBounds_toArray, List.set_cons_zero, List.set_cons_succ])
                    refine wpAnyH_ready (rs := [14]) (by kernel_rfl) (by simp) ?_
                    refine AllReadyH.cons rfl (fun KK hKK => ?_) AllReadyH.nil
                    obtain ⟨V18, hV18⟩ : ∃ x, x = (V17).setRow (V10.heap.size) (U.map byt).toArray := ⟨_, rfl⟩
                    have nT18 : Whole V18 (V10.heap.size) 23 (U.map byt).toArray := by rw [hV18]; exact Whole.setRow rT17 _
                    have hb18 : Below wc.heap.size wc V18 := by rw [hV18]; exact below_setRow hb17 pT15 _
                    have rb18 := Whole.setRow_far nb17 (dbT) (U.map byt).toArray
                    rw [← hV18] at rb18
                    have hav18 : AlV V18 (Off [wc.heap.size, V10.heap.size]) (.agg (alc c.free c.seed c.fresh (.slice Amc c.macs.length cmc) (.slice Abc c.boxes.length cbc))) c := by rw [hV18]; exact AlV.store hav17 (by simp) _
                    rw [if_pos (by kernel_rfl)]
                    refine wp_store_row 23 _ _ rfl (V10.heap.size) _ rfl rfl 23 _ rT17 (by rw [tagSize, tag_size hlU]) (by rw [ztr_size, tag_size hlU]) (tag_one _) ?_
                    rw [← hV18]
                    clear hV18
                    refine hKK.out _ _ (HCC.out _ hb18) (fun hHeld => ?_)
                    clear hKK KK
                    (try simp only [List.getElem_toArray, List.getElem_cons_succ, List.getElem_cons_zero, Act.put, List.setIfInBounds_toArray, List.set_cons_zero, List.set_cons_succ])
                    apply wpAnyH_take (i := 15) rfl (by kernel_rfl) (by kernel_rfl) (by kernel_rfl)
                    case hQ => exact fun _ _ _ h => h
                    case hS => exact hHeld
                    case hy => (refine Or.inl ⟨by rfl, ?_⟩; intro w hSw; (try go_split_ands); go_simp; (try with_reducible rfl))
                    (try simp only [List.getElem_toArray, List.getElem_cons_succ, List.getElem_cons_zero, Act.put, List.setIfInBounds_toArray, List.set_cons_zero, List.set_cons_succ])
                    refine wpAnyH_done (by kernel_rfl) ?_ _
                    go_wp2_with fail
                    go_meet
                    exact ⟨_, _, Amc, cmc, Abc, cbc, rfl, rfl, rfl, rb18, nT18, hav18.mono fun _ _ _ => trivial, hb18⟩
                · (try simp only [List.getElem_toArray, List.getElem_cons_succ, List.getElem_cons_zero])
                  go_simp
                  rw [ztr_lit]
                  obtain ⟨V19, hV19⟩ : ∃ x, x = (wc.alloc (.cells ztr 23)).drew := ⟨_, rfl⟩
                  have hv19 : Below wc.heap.size wc V19 := by rw [hV19]; exact ((Below.refl _ _).alloc (Nat.le_refl _) _).drew
                  have hb19 : Below wc.heap.size wc V19 := hv19
                  have nT19 : Whole V19 wc.heap.size 23 ztr := by rw [hV19]; exact Whole.here _ _ _
                  have pT19 : wc.heap.size ≤ wc.heap.size := Nat.le_refl _
                  rw [← hV19]
                  clear hV19
                  refine hKK.out _ _ (HCC.out _ hb19) (fun hHeld => ?_)
                  clear hKK KK
                  (try simp only [List.getElem_toArray, List.getElem_cons_succ, List.getElem_cons_zero, Act.put, List.setIfInBounds_toArray, List.set_cons_zero, List.set_cons_succ])
                  refine wpAnyH_ready (rs := [6, 11]) (by kernel_rfl) (by simp) ?_
                  refine AllReadyH.cons rfl (fun KK hKK => ?_) (AllReadyH.cons rfl (fun KK hKK => ?_) AllReadyH.nil)
                  · (try simp only [List.getElem_toArray, List.getElem_cons_succ, List.getElem_cons_zero])
                    go_simp
                    go_at_call 27
                    refine (hcl _ hb19).mono ?_
                    rintro e V20 ⟨⟨x, rfl, hx⟩, hv20⟩
                    have hb20 := Below.trans hb19 (Below.mono hv20 (Below.size hb19))
                    have rT20 := Whole.below nT19 hv20 (Whole.lt nT19)
                    obtain ⟨Amc, cmc, Abc, cbc, rfl, hM, hBx, hA⟩ := hx
                    have hav20 : AlV V20 (Off [wc.heap.size]) (.agg (alc c.free c.seed c.fresh (.slice Amc c.macs.length cmc) (.slice Abc c.boxes.length cbc))) c := AlV.mono (Q := fun q => q < wc.heap.size ∨ (V19).heap.size ≤ q) ⟨Amc, cmc, Abc, cbc, rfl, hM, hBx, hA⟩ fun q _ hq y hy => by have h1T := Whole.lt nT19; have h2T := pT19; simp at hy; rcases hq with hq | hq <;> omega
                    clear hM hBx hA
                    refine hKK.out _ _ (HCC.out _ hb20) (fun hHeld => ?_)
                    clear hKK KK
                    (try simp only [List.getElem_toArray, List.getElem_cons_succ, List.getElem_cons_zero, Act.put, List.setIfInBounds_toArray, List.set_cons_zero, List.set_cons_succ])
                    apply wpAnyH_take (i := 7) rfl (by kernel_rfl) (by kernel_rfl) (by kernel_rfl)
                    case hQ => exact fun _ _ _ h => h
                    case hS => exact hHeld
                    case hy => (refine Or.inl ⟨by rfl, ?_⟩; intro w hSw; (try go_split_ands); go_simp; (try with_reducible rfl))
                    (try simp only [List.getElem_toArray, List.getElem_cons_succ, List.getElem_cons_zero, Act.put, List.setIfInBounds_toArray, List.set_cons_zero, List.set_cons_succ])
                    apply wpAnyH_take (i := 8) rfl (by kernel_rfl) (by kernel_rfl) (by kernel_rfl)
                    case hQ => exact fun _ _ _ h => h
                    case hS => exact hHeld
                    case hy => (refine Or.inl ⟨by rfl, ?_⟩; intro w hSw; (try go_split_ands); go_simp; (try with_reducible rfl))
                    (try simp only [List.getElem_toArray, List.getElem_cons_succ, List.getElem_cons_zero, Act.put, List.setIfInBounds_toArray, List.set_cons_zero, List.set_cons_succ])
                    apply wpAnyH_take (i := 9) rfl (by kernel_rfl) (by kernel_rfl) (by kernel_rfl)
                    case hQ => exact fun _ _ _ h => h
                    case hS => exact hHeld
                    case hy => (refine Or.inl ⟨by rfl, ?_⟩; intro w hSw; (try go_split_ands); go_simp; (try with_reducible rfl))
                    (try simp only [List.getElem_toArray, List.getElem_cons_succ, List.getElem_cons_zero, Act.put, List.setIfInBounds_toArray, List.set_cons_zero, List.set_cons_succ])
                    apply wpAnyH_take (i := 10) rfl (by kernel_rfl) (by kernel_rfl) (by kernel_rfl)
                    case hQ => exact fun _ _ _ h => h
                    case hS => exact hHeld
                    case hy => (refine Or.inl ⟨by rfl, ?_⟩; intro w hSw; (try go_split_ands); go_simp; (try with_reducible rfl))
                    (try simp only [List.getElem_toArray, List.getElem_cons_succ, List.getElem_cons_zero, Act.put, List.setIfInBounds_toArray, List.set_cons_zero, List.set_cons_succ])
                    refine wpAnyH_ready (rs := [11]) (by kernel_rfl) (by simp) ?_
                    refine AllReadyH.cons rfl (fun KK hKK => ?_) AllReadyH.nil
                    (try simp only [List.getElem_toArray, List.getElem_cons_succ, List.getElem_cons_zero])
                    go_simp
                    rw [zar_lit]
                    obtain ⟨V21, hV21⟩ : ∃ x, x = (V20).alloc (.cells zar 28) := ⟨_, rfl⟩
                    have hv21 : Below V20.heap.size V20 V21 := by rw [hV21]; exact (Below.refl _ _).alloc (Nat.le_refl _) _
                    have hb21 : Below wc.heap.size wc V21 := Below.trans hb20 (Below.mono hv21 (Below.size hb20))
                    have nb21 : Whole V21 V20.heap.size 28 zar := by rw [hV21]; exact Whole.here _ _ _
                    have pb21 : wc.heap.size ≤ V20.heap.size := Below.size hb20
                    have rT21 := Whole.below rT20 hv21 (Whole.lt rT20)
                    rw [← hV21]
                    clear hV21
                    have hav21 : AlV V21 (Off [V20.heap.size, wc.heap.size]) (.agg (alc c.free c.seed c.fresh (.slice Amc c.macs.length cmc) (.slice Abc c.boxes.length cbc))) c := AlV.below (AlV.grow hav20 (Nat.le_refl _)) hv21 (Nat.le_refl _)
                    have dTb : wc.heap.size ≠ V20.heap.size := Nat.ne_of_lt (Whole.lt rT20)
                    refine hKK.out _ _ (HCC.out _ hb21) (fun hHeld => ?_)
                    clear hKK KK
                    (try simp only [List.getElem_toArray, List.getElem_cons_succ, List.getElem_cons_zero, Act.put, List.setIfInBounds_toArray, List.set_cons_zero, List.set_cons_succ])
                    refine wpAnyH_ready (rs := [13]) (by kernel_rfl) (by simp) ?_
                    refine AllReadyH.cons rfl (fun KK hKK => ?_) AllReadyH.nil
                    obtain ⟨V22, hV22⟩ : ∃ x, x = (V21).setRow (V20.heap.size) (alc c.free c.seed c.fresh (.slice Amc c.macs.length cmc) (.slice Abc c.boxes.length cbc)) := ⟨_, rfl⟩
                    have nb22 : Whole V22 (V20.heap.size) 28 (alc c.free c.seed c.fresh (.slice Amc c.macs.length cmc) (.slice Abc c.boxes.length cbc)) := by rw [hV22]; exact Whole.setRow nb21 _
                    have hb22 : Below wc.heap.size wc V22 := by rw [hV22]; exact below_setRow hb21 pb21 _
                    have rT22 := Whole.setRow_far rT21 (dTb) (alc c.free c.seed c.fresh (.slice Amc c.macs.length cmc) (.slice Abc c.boxes.length cbc))
                    rw [← hV22] at rT22
                    have hav22 : AlV V22 (Off [V20.heap.size, wc.heap.size]) (.agg (alc c.free c.seed c.fresh (.slice Amc c.macs.length cmc) (.slice Abc c.boxes.length cbc))) c := by rw [hV22]; exact AlV.store hav21 (by simp) _
                    rw [if_pos (by kernel_rfl)]
                    refine wp_store_row 28 _ _ rfl (V20.heap.size) _ rfl rfl 28 _ nb21 (by rw [algSize, alc_size]) (by rw [zar_size, alc_size]) (alc_one _ _ _ _ _ _ _ _ _) ?_
                    rw [← hV22]
                    clear hV22
                    refine hKK.out _ _ (HCC.out _ hb22) (fun hHeld => ?_)
                    clear hKK KK
                    (try simp only [List.getElem_toArray, List.getElem_cons_succ, List.getElem_cons_zero, Act.put, List.setIfInBounds_toArray, List.set_cons_zero, List.set_cons_succ])
                    refine wpAnyH_ready (rs := [14]) (by kernel_rfl) (by simp) ?_
                    refine AllReadyH.cons rfl (fun KK hKK => ?_) AllReadyH.nil
                    obtain ⟨V23, hV23⟩ : ∃ x, x = (V22).setRow (wc.heap.size) (U.map byt).toArray := ⟨_, rfl⟩
                    have nT23 : Whole V23 (wc.heap.size) 23 (U.map byt).toArray := by rw [hV23]; exact Whole.setRow rT22 _
                    have hb23 : Below wc.heap.size wc V23 := by rw [hV23]; exact below_setRow hb22 pT19 _
                    have rb23 := Whole.setRow_far nb22 (Ne.symm dTb) (U.map byt).toArray
                    rw [← hV23] at rb23
                    have hav23 : AlV V23 (Off [V20.heap.size, wc.heap.size]) (.agg (alc c.free c.seed c.fresh (.slice Amc c.macs.length cmc) (.slice Abc c.boxes.length cbc))) c := by rw [hV23]; exact AlV.store hav22 (by simp) _
                    rw [if_pos (by kernel_rfl)]
                    refine wp_store_row 23 _ _ rfl (wc.heap.size) _ rfl rfl 23 _ rT22 (by rw [tagSize, tag_size hlU]) (by rw [ztr_size, tag_size hlU]) (tag_one _) ?_
                    rw [← hV23]
                    clear hV23
                    refine hKK.out _ _ (HCC.out _ hb23) (fun hHeld => ?_)
                    clear hKK KK
                    (try simp only [List.getElem_toArray, List.getElem_cons_succ, List.getElem_cons_zero, Act.put, List.setIfInBounds_toArray, List.set_cons_zero, List.set_cons_succ])
                    apply wpAnyH_take (i := 15) rfl (by kernel_rfl) (by kernel_rfl) (by kernel_rfl)
                    case hQ => exact fun _ _ _ h => h
                    case hS => exact hHeld
                    case hy => (refine Or.inl ⟨by rfl, ?_⟩; intro w hSw; (try go_split_ands); go_simp; (try with_reducible rfl))
                    (try simp only [List.getElem_toArray, List.getElem_cons_succ, List.getElem_cons_zero, Act.put, List.setIfInBounds_toArray, List.set_cons_zero, List.set_cons_succ])
                    refine wpAnyH_done (by kernel_rfl) ?_ _
                    go_wp2_with fail
                    go_meet
                    exact ⟨_, _, Amc, cmc, Abc, cbc, rfl, rfl, rfl, rb23, nT23, hav23.mono fun _ _ _ => trivial, hb23⟩
                  · (try simp only [List.getElem_toArray, List.getElem_cons_succ, List.getElem_cons_zero])
                    go_simp
                    rw [zar_lit]
                    obtain ⟨V24, hV24⟩ : ∃ x, x = (V19).alloc (.cells zar 28) := ⟨_, rfl⟩
                    have hv24 : Below V19.heap.size V19 V24 := by rw [hV24]; exact (Below.refl _ _).alloc (Nat.le_refl _) _
                    have hb24 : Below wc.heap.size wc V24 := Below.trans hb19 (Below.mono hv24 (Below.size hb19))
                    have nb24 : Whole V24 V19.heap.size 28 zar := by rw [hV24]; exact Whole.here _ _ _
                    have pb24 : wc.heap.size ≤ V19.heap.size := Below.size hb19
                    have rT24 := Whole.below nT19 hv24 (Whole.lt nT19)
                    rw [← hV24]
                    clear hV24
                    have dTb : wc.heap.size ≠ V19.heap.size := Nat.ne_of_lt (Whole.lt nT19)
                    refine hKK.out _ _ (HCC.out _ hb24) (fun hHeld => ?_)
                    clear hKK KK
                    (try simp only [List.getElem_toArray, List.getElem_cons_succ, List.getElem_cons_zero, Act.put, List.setIfInBounds_toArray, List.set_cons_zero, List.set_cons_succ])
                    refine wpAnyH_ready (rs := [6]) (by kernel_rfl) (by simp) ?_
                    refine AllReadyH.cons rfl (fun KK hKK => ?_) AllReadyH.nil
                    (try simp only [List.getElem_toArray, List.getElem_cons_succ, List.getElem_cons_zero])
                    go_simp
                    go_at_call 27
                    refine (hcl _ hb24).mono ?_
                    rintro e V25 ⟨⟨x, rfl, hx⟩, hv25⟩
                    have hb25 := Below.trans hb24 (Below.mono hv25 (Below.size hb24))
                    have rT25 := Whole.below rT24 hv25 (Whole.lt rT24)
                    have rb25 := Whole.below nb24 hv25 (Whole.lt nb24)
                    obtain ⟨Amc, cmc, Abc, cbc, rfl, hM, hBx, hA⟩ := hx
                    have hav25 : AlV V25 (Off [wc.heap.size, V19.heap.size]) (.agg (alc c.free c.seed c.fresh (.slice Amc c.macs.length cmc) (.slice Abc c.boxes.length cbc))) c := AlV.mono (Q := fun q => q < wc.heap.size ∨ (V24).heap.size ≤ q) ⟨Amc, cmc, Abc, cbc, rfl, hM, hBx, hA⟩ fun q _ hq y hy => by have h1T := Whole.lt rT24; have h2T := pT19; have h1b := Whole.lt nb24; have h2b := pb24; simp at hy; rcases hq with hq | hq <;> omega
                    clear hM hBx hA
                    refine hKK.out _ _ (HCC.out _ hb25) (fun hHeld => ?_)
                    clear hKK KK
                    (try simp only [List.getElem_toArray, List.getElem_cons_succ, List.getElem_cons_zero, Act.put, List.setIfInBounds_toArray, List.set_cons_zero, List.set_cons_succ])
                    apply wpAnyH_take (i := 7) rfl (by kernel_rfl) (by kernel_rfl) (by kernel_rfl)
                    case hQ => exact fun _ _ _ h => h
                    case hS => exact hHeld
                    case hy => (refine Or.inl ⟨by rfl, ?_⟩; intro w hSw; (try go_split_ands); go_simp; (try with_reducible rfl))
                    (try simp only [List.getElem_toArray, List.getElem_cons_succ, List.getElem_cons_zero, Act.put, List.setIfInBounds_toArray, List.set_cons_zero, List.set_cons_succ])
                    apply wpAnyH_take (i := 8) rfl (by kernel_rfl) (by kernel_rfl) (by kernel_rfl)
                    case hQ => exact fun _ _ _ h => h
                    case hS => exact hHeld
                    case hy => (refine Or.inl ⟨by rfl, ?_⟩; intro w hSw; (try go_split_ands); go_simp; (try with_reducible rfl))
                    (try simp only [List.getElem_toArray, List.getElem_cons_succ, List.getElem_cons_zero, Act.put, List.setIfInBounds_toArray, List.set_cons_zero, List.set_cons_succ])
                    apply wpAnyH_take (i := 9) rfl (by kernel_rfl) (by kernel_rfl) (by kernel_rfl)
                    case hQ => exact fun _ _ _ h => h
                    case hS => exact hHeld
                    case hy => (refine Or.inl ⟨by rfl, ?_⟩; intro w hSw; (try go_split_ands); go_simp; (try with_reducible rfl))
                    (try simp only [List.getElem_toArray, List.getElem_cons_succ, List.getElem_cons_zero, Act.put, List.setIfInBounds_toArray, List.set_cons_zero, List.set_cons_succ])
                    apply wpAnyH_take (i := 10) rfl (by kernel_rfl) (by kernel_rfl) (by kernel_rfl)
                    case hQ => exact fun _ _ _ h => h
                    case hS => exact hHeld
                    case hy => (refine Or.inl ⟨by rfl, ?_⟩; intro w hSw; (try go_split_ands); go_simp; (try with_reducible rfl))
                    (try simp only [List.getElem_toArray, List.getElem_cons_succ, List.getElem_cons_zero, Act.put, List.setIfInBounds_toArray, List.set_cons_zero, List.set_cons_succ])
                    refine wpAnyH_ready (rs := [13]) (by kernel_rfl) (by simp) ?_
                    refine AllReadyH.cons rfl (fun KK hKK => ?_) AllReadyH.nil
                    obtain ⟨V26, hV26⟩ : ∃ x, x = (V25).setRow (V19.heap.size) (alc c.free c.seed c.fresh (.slice Amc c.macs.length cmc) (.slice Abc c.boxes.length cbc)) := ⟨_, rfl⟩
                    have nb26 : Whole V26 (V19.heap.size) 28 (alc c.free c.seed c.fresh (.slice Amc c.macs.length cmc) (.slice Abc c.boxes.length cbc)) := by rw [hV26]; exact Whole.setRow rb25 _
                    have hb26 : Below wc.heap.size wc V26 := by rw [hV26]; exact below_setRow hb25 pb24 _
                    have rT26 := Whole.setRow_far rT25 (dTb) (alc c.free c.seed c.fresh (.slice Amc c.macs.length cmc) (.slice Abc c.boxes.length cbc))
                    rw [← hV26] at rT26
                    have hav26 : AlV V26 (Off [wc.heap.size, V19.heap.size]) (.agg (alc c.free c.seed c.fresh (.slice Amc c.macs.length cmc) (.slice Abc c.boxes.length cbc))) c := by rw [hV26]; exact AlV.store hav25 (by simp) _
                    rw [if_pos (by kernel_rfl)]
                    refine wp_store_row 28 _ _ rfl (V19.heap.size) _ rfl rfl 28 _ rb25 (by rw [algSize, alc_size]) (by rw [zar_size, alc_size]) (alc_one _ _ _ _ _ _ _ _ _) ?_
                    rw [← hV26]
                    clear hV26
                    refine hKK.out _ _ (HCC.out _ hb26) (fun hHeld => ?_)
                    clear hKK KK
                    (try simp only [List.getElem_toArray, List.getElem_cons_succ, List.getElem_cons_zero, Act.put, List.setIfInBounds_toArray, List.set_cons_zero, List.set_cons_succ])
                    refine wpAnyH_ready (rs := [14]) (by kernel_rfl) (by simp) ?_
                    refine AllReadyH.cons rfl (fun KK hKK => ?_) AllReadyH.nil
                    obtain ⟨V27, hV27⟩ : ∃ x, x = (V26).setRow (wc.heap.size) (U.map byt).toArray := ⟨_, rfl⟩
                    have nT27 : Whole V27 (wc.heap.size) 23 (U.map byt).toArray := by rw [hV27]; exact Whole.setRow rT26 _
                    have hb27 : Below wc.heap.size wc V27 := by rw [hV27]; exact below_setRow hb26 pT19 _
                    have rb27 := Whole.setRow_far nb26 (Ne.symm dTb) (U.map byt).toArray
                    rw [← hV27] at rb27
                    have hav27 : AlV V27 (Off [wc.heap.size, V19.heap.size]) (.agg (alc c.free c.seed c.fresh (.slice Amc c.macs.length cmc) (.slice Abc c.boxes.length cbc))) c := by rw [hV27]; exact AlV.store hav26 (by simp) _
                    rw [if_pos (by kernel_rfl)]
                    refine wp_store_row 23 _ _ rfl (wc.heap.size) _ rfl rfl 23 _ rT26 (by rw [tagSize, tag_size hlU]) (by rw [ztr_size, tag_size hlU]) (tag_one _) ?_
                    rw [← hV27]
                    clear hV27
                    refine hKK.out _ _ (HCC.out _ hb27) (fun hHeld => ?_)
                    clear hKK KK
                    (try simp only [List.getElem_toArray, List.getElem_cons_succ, List.getElem_cons_zero, Act.put, List.setIfInBounds_toArray, List.set_cons_zero, List.set_cons_succ])
                    apply wpAnyH_take (i := 15) rfl (by kernel_rfl) (by kernel_rfl) (by kernel_rfl)
                    case hQ => exact fun _ _ _ h => h
                    case hS => exact hHeld
                    case hy => (refine Or.inl ⟨by rfl, ?_⟩; intro w hSw; (try go_split_ands); go_simp; (try with_reducible rfl))
                    (try simp only [List.getElem_toArray, List.getElem_cons_succ, List.getElem_cons_zero, Act.put, List.setIfInBounds_toArray, List.set_cons_zero, List.set_cons_succ])
                    refine wpAnyH_done (by kernel_rfl) ?_ _
                    go_wp2_with fail
                    go_meet
                    exact ⟨_, _, Amc, cmc, Abc, cbc, rfl, rfl, rfl, rb27, nT27, hav27.mono fun _ _ _ => trivial, hb27⟩
              case rest =>
                obtain ⟨Gc, GU, Amc, cmc, Abc, cbc, rfl, rfl, rfl, hr1, hr2, hav, hbu⟩ := hcut
                clear HCL
                rename World => wd
                have hswd : wc.heap.size ≤ wd.heap.size := hbu.size
                dsimp only at hr1 hr2 hav
                have H52 : Hid (Below w.heap.size w wd) := Lib.hid ((Below.trans H44.out (Below.mono hbu (Below.size H44.out))))
                have H53 : Hid (AlV wd (Off [u3.heap.size, u1.heap.size, w.heap.size]) (.agg (alc a.free a.seed a.fresh (.slice Ama a.macs.length cma) (.slice Aba a.boxes.length cba))) a) := Lib.hid ((AlV.below H45.out hbu (Nat.le_refl _)))
                have H54 : Hid (ALRow wd u1.heap.size a.free a.seed a.fresh (.slice Ama a.macs.length cma) (.slice Aba a.boxes.length cba)) := Lib.hid ((Whole.below H46.out hbu (Whole.lt H46.out)))
                have H55 : Hid (TGRow wd u3.heap.size K) := Lib.hid ((Whole.below H47.out hbu (Whole.lt H47.out)))
                have H56 : Hid (Below wv.heap.size wv wd) := Lib.hid ((Below.trans H48.out (Below.mono hbu (Below.size H48.out))))
                have H57 : Hid (ALRow wd Gb b.free b.seed b.fresh (.slice Amb b.macs.length cmb) (.slice Abb b.boxes.length cbb)) := Lib.hid ((Whole.below H49.out hbu (Whole.lt H49.out)))
                have H58 : Hid (TGRow wd GT T) := Lib.hid ((Whole.below H50.out hbu (Whole.lt H50.out)))
                have H59 : Hid (AlV wd (fun _ => True) (.agg (alc b.free b.seed b.fresh (.slice Amb b.macs.length cmb) (.slice Abb b.boxes.length cbb))) b) := Lib.hid ((AlV.below H51.out hbu (Nat.le_refl _)))
                clear H44 H45 H46 H47 H48 H49 H50 H51
                have H60 : Hid (ALRow wd Gc c.free c.seed c.fresh (.slice Amc c.macs.length cmc) (.slice Abc c.boxes.length cbc)) := Lib.hid (hr1)
                have H61 : Hid (TGRow wd GU U) := Lib.hid (hr2)
                have H62 : Hid (AlV wd (fun _ => True) (.agg (alc c.free c.seed c.fresh (.slice Amc c.macs.length cmc) (.slice Abc c.boxes.length cbc))) c) := Lib.hid (hav)
                have hcl3 : wd.cell? ⟨g1, o1 + i, none⟩ = some (.slice A3 M.length c3) := (hbu.cell (p := ⟨g1, o1 + i, none⟩) hg1).trans hcl3
                have hg1 : g1 < wd.heap.size := by omega
                have HB3 := Lib.hid (HB3.out.below hbu (Nat.le_refl _))
                clear hr1 hr2 hav hbu
                have hTU := HEb.out.trans HEc.out.symm
                injection hTU with e1 e2
                injection e2 with e2 e3
                subst e1 e2 e3
                have hcl := rsamea H59.out H62.out
                go_wp2_with (first
                  | (with_reducible refine wpList_load_alg rfl _ rfl rfl H57.out (alc_size _ _ _ _ _) ?_)
                  | (with_reducible refine wpList_load_alg rfl _ rfl rfl H60.out (alc_size _ _ _ _ _) ?_))
                refine hcl.mono ?_
                rintro e u5 ⟨rfl, hbu⟩
                clear hcl
                have hsu5 : wd.heap.size ≤ u5.heap.size := hbu.size
                have H63 : Hid (Below w.heap.size w u5) := Lib.hid ((Below.trans H52.out (Below.mono hbu (Below.size H52.out))))
                have H64 : Hid (AlV u5 (Off [u3.heap.size, u1.heap.size, w.heap.size]) (.agg (alc a.free a.seed a.fresh (.slice Ama a.macs.length cma) (.slice Aba a.boxes.length cba))) a) := Lib.hid ((AlV.below H53.out hbu (Nat.le_refl _)))
                have H65 : Hid (ALRow u5 u1.heap.size a.free a.seed a.fresh (.slice Ama a.macs.length cma) (.slice Aba a.boxes.length cba)) := Lib.hid ((Whole.below H54.out hbu (Whole.lt H54.out)))
                have H66 : Hid (TGRow u5 u3.heap.size K) := Lib.hid ((Whole.below H55.out hbu (Whole.lt H55.out)))
                have H67 : Hid (Below wv.heap.size wv u5) := Lib.hid ((Below.trans H56.out (Below.mono hbu (Below.size H56.out))))
                have H68 : Hid (ALRow u5 Gb b.free b.seed b.fresh (.slice Amb b.macs.length cmb) (.slice Abb b.boxes.length cbb)) := Lib.hid ((Whole.below H57.out hbu (Whole.lt H57.out)))
                have H69 : Hid (TGRow u5 GT T) := Lib.hid ((Whole.below H58.out hbu (Whole.lt H58.out)))
                have H70 : Hid (AlV u5 (fun _ => True) (.agg (alc b.free b.seed b.fresh (.slice Amb b.macs.length cmb) (.slice Abb b.boxes.length cbb))) b) := Lib.hid ((AlV.below H59.out hbu (Nat.le_refl _)))
                have H71 : Hid (ALRow u5 Gc b.free b.seed b.fresh (.slice Amc b.macs.length cmc) (.slice Abc b.boxes.length cbc)) := Lib.hid ((Whole.below H60.out hbu (Whole.lt H60.out)))
                have H72 : Hid (TGRow u5 GU T) := Lib.hid ((Whole.below H61.out hbu (Whole.lt H61.out)))
                have H73 : Hid (AlV u5 (fun _ => True) (.agg (alc b.free b.seed b.fresh (.slice Amc b.macs.length cmc) (.slice Abc b.boxes.length cbc))) b) := Lib.hid ((AlV.below H62.out hbu (Nat.le_refl _)))
                clear H52 H53 H54 H55 H56 H57 H58 H59 H60 H61 H62
                clear hbu
                have kq := fun W => neq_tag (D := false) hlT hlT (by simp) W
                have kb : (eT != eT) = false := by simp
                go_wp2_with (first
                  | (with_reducible refine wpList_load_wanted_at (by with_unfolding_all rfl) 23 _ rfl GT 0 rfl _ _ (TGRow.range H69.out) Tryd.underlying23 rfl (tag_sz hlT) ?_)
                  | (with_reducible refine wpList_load_wanted_at (by with_unfolding_all rfl) 23 _ rfl GU 0 rfl _ _ (TGRow.range H72.out) Tryd.underlying23 rfl (tag_sz hlT) ?_))
                clear kq
                go_roundw
                case rel => exact ⟨i + 1, by go_num, by omega, H67.out⟩
                case measure => simp [intOf]; omega
end Go.Proofs.YteglmfimgdgchaaDoor
