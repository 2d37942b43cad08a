/-
  AlgRNew
-/
import Derived.Deep.CutBlock
import Derived.Test.YteekdhcffiaaaaaDoorPk16
import Derived.Test.YteekdhcffiaaaaaDoorPk15
namespace Go.Proofs.YteekdhcffiaaaaaDoor
open Go Go.RowKit Sh Leaf

set_option linter.unusedSimpArgs false in
set_option maxRecDepth 100000 in
set_option maxHeartbeats 1000000 in
theorem rnew (f : Bool) {K : List B8} (hK : K.length = 32) (w : World) (Q : Nat → Prop) :
    Calls Tryd.prog 21 #[.bool f, .agg (K.map byt).toArray] w fun e w' => (∃ v, e = .returned v ∧ AlV w' Q v ⟨f, K, 0, [], []⟩) ∧ Below w.heap.size w w' := by
  obtain ⟨p, hp⟩ : ∃ p, p = (w.alloc (.cells (K.map byt).toArray 28)).alloc (.cells zar 32) := ⟨_, rfl⟩
  have hk : TGRow p w.heap.size K := by rw [hp]; exact (Whole.here _ _ _).alloc _
  have hz : Whole p (w.heap.size + 1) 32 zar := by rw [hp]; exact Whole.at_ _ _ _ _ (by simp)
  have hb : Below w.heap.size w p := by rw [hp]; exact ((Below.refl _ _).alloc (Nat.le_refl _) _).alloc (by simp) _
  have HK := Lib.hid hk
  have HZ := Lib.hid hz
  have HB := Lib.hid hb
  clear hk hz hb
  go_enter Tryd.func21, Tryd.ntmps21
  go_upto_region 1 with fail
  rw [zar_lit, ← hp]
  clear hp
  go_wp2_with (first
    | (with_reducible refine wpList_load_tag rfl _ rfl rfl HK.out (tag_size hK) ?_)
    | (with_reducible refine wpList_build_alg rfl _ _ rfl hK rfl rfl ?_)
    | (with_reducible refine wpList_store_alg rfl _ _ rfl (g := w.heap.size + 1) rfl rfl HZ.out zar_size (alc_size _ _ _ _ _) (alc_one _ _ _ _ _ _ _ _ _) ?_))
  have h3 := Whole.setRow HZ.out (alc f K 0 (.slice none 0 0) (.slice none 0 0))
  refine bodyPost_ret (results_cell_row Tryd.results21 _ _ (w.heap.size + 1) _ _ _ _ rfl h3 Tryd.underlying32 rfl (by rw [algSize, alc_size])) rfl ?_
  exact ⟨⟨_, rfl, none, 0, none, 0, rfl, Macs.nil _ _, Bxs.nil _ _, ⟨hK, by simp, by simp, by simp, by simp⟩⟩, below_setRow HB.out (by omega) _⟩
end Go.Proofs.YteekdhcffiaaaaaDoor
