/-
  KDag
-/
import Derived.Deep.CutBlock
import Derived.Deep.DeepCutAuto
import Derived.Test.YteekdhcffiaaaaaPk12
import Derived.Test.YteekdhcffiaaaaaPk7
namespace Go.Proofs.Yteekdhcffiaaaaa
open Go Go.RowKit Sh Leaf

theorem TGRow.oth {g b : Nat} {w w' : World} {l : List B8} (h : TGRow w b l) (ho : Oth g w w') (hb : b ≠ g) : TGRow w' b l := ho.oth b _ _ hb h
theorem TGRow.set {b : Nat} {w : World} {l : List B8} (h : TGRow w b l) (k : Nat) (x : B8) : TGRow (w.setCell ⟨b, k, none⟩ (byt x)) b (l.set k x) := by
  have h1 := Whole.set h k (byt x)
  rw [List.setIfInBounds_toArray, ← List.map_set] at h1
  exact h1
set_option linter.unusedSimpArgs false in
set_option maxRecDepth 100000 in
set_option maxHeartbeats 2000000 in
theorem dtag (g : Nat) (w : World) (h : Deck g w) :
    Calls Try.prog 6 #[.pointer (some ⟨g, 0, none⟩)] w fun e w' => (∃ K : List B8, K.length = 32 ∧ e = .returned (tagv K)) ∧ Turn g w w' := by
  have hgw := h.lt
  obtain ⟨p, hp⟩ : ∃ p, p = (w.alloc (.cells ztr 28)).alloc (.cells ztr 28) := ⟨_, rfl⟩
  have hb : Below w.heap.size w p := by rw [hp]; exact ((Below.refl _ _).alloc (Nat.le_refl _) _).alloc (by simp) _
  have h0 : TGRow p w.heap.size (List.replicate 32 0) := by rw [hp]; exact ztr_row ((Whole.here _ _ _).alloc _)
  have h1 : TGRow p (w.heap.size + 1) (List.replicate 32 0) := by rw [hp]; exact ztr_row (Whole.at_ _ _ _ _ (by simp))
  have HT : Hid (Turn g w p) := Lib.hid (h.here hb)
  have hps : w.heap.size + 1 < p.heap.size := h1.lt
  have H0 := Lib.hid h0
  have H1 := Lib.hid h1
  clear h hb h0 h1
  go_enter Try.func6, Try.ntmps6
  go_upto_region 2 with fail
  rw [ztr_lit, ← hp]
  clear hp
  go_wp2_with fail
  go_loopw [4] (fun v wr => ∃ j : Nat, v = .int .i64 j ∧ j ≤ 4 ∧ Turn g w wr ∧ (∃ L : List B8, L.length = 32 ∧ TGRow wr (w.heap.size + 1) L) ∧ TGRow wr w.heap.size (List.replicate 32 0)) (fun v _ => 4 - (intOf v).toNat)
  case atStart => exact ⟨0, rfl, by omega, HT.out, ⟨_, by simp, H1.out⟩, H0.out⟩
  case round =>
    obtain ⟨j, rfl, hj, ht, ⟨L, hL, hrow⟩, hz⟩ := hrel
    have HTT := Lib.hid ht
    have HROW := Lib.hid hrow
    have HZ := Lib.hid hz
    have HLL := Lib.hid hL
    by_cases hlt : j < 4
    · have hnx := dnext 256 (by omega) (by omega) g wr ht.1
      obtain ⟨k, hk⟩ : ∃ k, k = j * 9 := ⟨_, rfl⟩
      have hkj : IntKind.i64.wrap ((j : Int) * 9) = (k : Int) := by rw [IntKind.wrap_i64]; omega
      have hk0 : (0 : Int) ≤ (k : Int) := by omega
      have hk1 : (k : Int) < 32 := by omega
      have hk32 : k < 32 := by omega
      clear ht hrow hz hL HT H0 H1 hk
      go_wp2_with fail
      refine hnx.mono ?_
      rintro e w1 ⟨i, hi, rfl, ht1⟩
      have hrow1 := HROW.out.oth ht1.2.2 (by omega)
      have hz1 := HZ.out.oth ht1.2.2 (by omega)
      have htw := HTT.out.trans ht1
      have hsz : w.heap.size + 1 < w1.heap.size := hrow1.lt
      have hwi : IntKind.u8.wrap (i : Int) = bv (BitVec.ofNat 8 i) := by rw [bv_lit i (by omega), IntKind.wrap_u8]; omega
      obtain ⟨x, hv⟩ : ∃ v, w1.cell? ⟨w.heap.size + 1, k, none⟩ = some v := by
        obtain ⟨b, hb⟩ : ∃ b, L[k]? = some b := ⟨_, List.getElem?_eq_getElem (by rw [HLL.out]; exact hk32)⟩
        exact ⟨byt b, by rw [Whole.cell hrow1, List.getElem?_toArray, List.getElem?_map, hb]; rfl⟩
      have hfz := Whole.frozen hrow1 k
      have HX : Hid (Turn g w (w1.setCell ⟨w.heap.size + 1, k, none⟩ (byt (BitVec.ofNat 8 i)))) := Lib.hid (htw.below (B := w.heap.size) ((Below.refl _ _).setCell (p := ⟨w.heap.size + 1, k, none⟩) (by show w.heap.size ≤ w.heap.size + 1; omega) _) hgw (Nat.le_refl _))
      have HY := Lib.hid (hrow1.set k (BitVec.ofNat 8 i))
      have HZ2 := Lib.hid (Whole.far hz1 (a := ⟨w.heap.size + 1, k, none⟩) (by show w.heap.size ≠ w.heap.size + 1; omega) (byt (BitVec.ofNat 8 i)))
      have hHL : Hid ((L.set k (BitVec.ofNat 8 i)).length = 32) := Lib.hid (by rw [List.length_set, HLL.out])
      clear hnx ht1 hrow1 hz1 htw
      go_wp2_with fail
      go_roundw
      case rel => exact ⟨j + 1, by go_num, by omega, HX.out, ⟨_, hHL.out, HY.out⟩, HZ2.out⟩
      case measure => simp [intOf]; omega
    · have hz32 : (List.replicate 32 (0 : B8)).length = 32 := by simp
      clear ht hrow hz hL HT H0 H1
      go_wp2_with (first
        | (with_reducible refine wpList_load_tag rfl _ rfl (g := w.heap.size + 1) rfl HROW.out (tag_size HLL.out) ?_)
        | (with_reducible refine wpList_store_tag rfl _ _ rfl (g := w.heap.size) rfl rfl HZ.out (tag_size hz32) (tag_size HLL.out) (tag_one _) ?_))
      have h3 := Whole.setRow HZ.out (L.map byt).toArray
      refine bodyPost_ret (results_cell_row Try.results6 _ _ w.heap.size _ _ _ _ rfl h3 Try.underlying28 rfl (by rw [tagSize, tag_size HLL.out])) rfl ?_
      exact ⟨⟨L, HLL.out, rfl⟩, HTT.out.below (B := w.heap.size) (below_setRow (Below.refl _ _) (Nat.le_refl _) _) hgw (Nat.le_refl _)⟩
end Go.Proofs.Yteekdhcffiaaaaa
