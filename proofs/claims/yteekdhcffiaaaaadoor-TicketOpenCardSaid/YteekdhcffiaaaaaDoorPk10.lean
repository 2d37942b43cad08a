/-
  ShaRow
-/
import Derived.Lib.LaidTab
import Derived.Test.YteekdhcffiaaaaaDoorPk8
import Derived.Test.YteekdhcffiaaaaaDoorPk9
namespace Go.Proofs.YteekdhcffiaaaaaDoor
open Go Go.ChangeShapes Go.WideShapes Go.ChangeAt Go.RowKit Sh Leaf

theorem sha_own : ownKnob Tryd.prog.godebug = none := by kernel_rfl
theorem sha_laidOut : laidOutB Tryd.prog = true := by kernel_rfl
abbrev shaLaid : List (String × DataW Unit) := [("macaroon/sha.initial", Rows.laid_macaroon_sha_initial), ("macaroon/sha.constants", Rows.laid_macaroon_sha_constants)]
theorem sha_gInitial : Tryd.prog.globalNamed "macaroon/sha.initial" = some 0 := by kernel_rfl
theorem sha_gConstants : Tryd.prog.globalNamed "macaroon/sha.constants" = some 1 := by kernel_rfl
theorem sha_tInitial : (Tryd.prog.globals[0]?).map (·.type) = some 117 := by kernel_rfl
theorem sha_tConstants : (Tryd.prog.globals[1]?).map (·.type) = some 130 := by kernel_rfl
theorem sha_c4 : Tryd.prog.cellsOf 116 = 1 := by kernel_rfl
theorem sha_c8 : Tryd.prog.cellsOf 117 = 8 := by kernel_rfl
theorem sha_c64 : Tryd.prog.cellsOf 130 = 64 := by kernel_rfl
theorem sha_door_met (os : Os) (args : Array Value) : laidMetH Tryd.prog shaLaid ((World.doorLaid Tryd.prog 400 os).forCall (fun _ _ => 0) ⟨#[], args, []⟩).memory :=
  laidMetH_of_parts3 (fuel := 8) (laidMet_of_run' 8 (by kernel_rfl) (by kernel_rfl)) (by kernel_rfl) (by kernel_rfl)

theorem iv_nat (x : W) : iv x = (x.toNat : Int) := by unfold iv; rfl
theorem init_cells : ∀ j, j < 8 → [1779033703, 3144134277, 1013904242, 2773480762, 1359893119, 2600822924, 528734635, 1541459225][j]? = some (init.at j).toNat := by decide +kernel
theorem const_cells : ∀ j, j < 64 → (kList.map BitVec.toNat)[j]? = some (kAt j).toNat := by decide +kernel

theorem tables_of_laid {W : World} (h : laidMetH Tryd.prog shaLaid W) : Tables W := by
  rw [MakeChecks.laidMetH_plain _ _ _ (by kernel_rfl)] at h
  obtain ⟨ps, ⟨g0, t0, cs0, f0, p0, q0, hg0, ht0, hv0, hd0, ⟨g1, t1, cs1, f1, p1, q1, hg1, ht1, hv1, hd1, _, _⟩, _⟩, _, _⟩ := h
  obtain rfl := Option.some.inj (sha_gInitial.symm.trans hg0)
  obtain rfl := Option.some.inj (sha_gConstants.symm.trans hg1)
  obtain rfl := Option.some.inj (sha_tInitial.symm.trans ht0)
  obtain rfl := Option.some.inj (sha_tConstants.symm.trans ht1)
  have e0 := Lib.cells_of_tab (zs := [1779033703, 3144134277, 1013904242, 2773480762, 1359893119, 2600822924, 528734635, 1541459225]) Tryd.underlying117 Tryd.underlying116 sha_c4 sha_c8 hd0
  have e1 := Lib.cells_of_tab (zs := (kList.map BitVec.toNat).map Int.ofNat) Tryd.underlying130 Tryd.underlying116 sha_c4 sha_c64 hd1
  refine ⟨fun j hj => ?_, fun j hj => ?_⟩
  · rw [World.var?_cell hg1 hv1 j, ← Array.getElem?_toList, e1, List.getElem?_map, List.getElem?_map, const_cells j hj]
    rw [u, iv_nat]
    rfl
  · rw [World.var?_cell hg0 hv0 j, ← Array.getElem?_toList, e0]
    have := init_cells j hj
    rw [u, iv_nat]
    have hm : ([1779033703, 3144134277, 1013904242, 2773480762, 1359893119, 2600822924, 528734635, 1541459225] : List Int) = ([1779033703, 3144134277, 1013904242, 2773480762, 1359893119, 2600822924, 528734635, 1541459225] : List Nat).map Int.ofNat := rfl
    rw [hm, List.getElem?_map, List.getElem?_map, this]
    rfl

end Go.Proofs.YteekdhcffiaaaaaDoor
