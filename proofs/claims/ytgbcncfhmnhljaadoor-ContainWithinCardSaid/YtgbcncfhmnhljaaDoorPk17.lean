/-
  slices.SortFunc over a row of spans of the call's own: the spans in order.
-/
import Derived.Shelf.SlSortCmp.WholeK
import Derived.Test.YtgbcncfhmnhljaaDoorShelf
import Derived.Test.YtgbcncfhmnhljaaDoorPk10
namespace Go.Proofs.YtgbcncfhmnhljaaDoor
open Go Go.RowKit Sh Leaf

theorem flatK_fl {α : Type} [Inhabited α] {f : α → List Value} {n : Nat} (hn : ∀ x, (f x).length = n) (h0 : 0 < n) (d : Array α) : Sort.flatK f n d = (fl f d.toList).toArray := by
  have hlen := fl_length hn d.toList
  apply Array.ext
  · simp [Sort.size_flatK, hlen]
  · intro i h1 h2
    rw [Sort.size_flatK] at h1
    have hi : i / n < d.size := Nat.div_lt_of_lt_mul (by rw [Nat.mul_comm]; exact h1)
    have hm : i % n < n := Nat.mod_lt _ h0
    have hd : i / n * n + i % n = i := by rw [Nat.mul_comm]; exact Nat.div_add_mod i n
    have e1 := Sort.get_flatK f n d i h1
    rw [getElem!_pos _ i (by rw [Sort.size_flatK]; exact h1)] at e1
    rw [e1]
    have hp : d.toList[i / n]? = some d[i / n]! := by rw [Array.getElem?_toList, getElem!_pos d (i / n) hi, Array.getElem?_eq_getElem hi]
    have hv : (f d[i / n]!)[i % n]? = some (f d[i / n]!)[i % n]! := by
      have : i % n < (f d[i / n]!).length := by rw [hn]; exact hm
      rw [List.getElem?_eq_getElem this, getElem!_pos (f d[i / n]!) (i % n) this]
    have e2 := fl_at hn d.toList (i / n) _ hp (i % n) _ hv
    rw [hd, List.getElem?_eq_getElem (by rw [hlen]; simpa using h1)] at e2
    injection e2 with e2
    rw [List.getElem_toArray, e2]
section
variable {α : Type} [Inhabited α] {f : α → List Value} {n : Nat} {w : World} {g : Nat} {t : TypeId}
theorem putCells_all (F c : Array Value) (h : F.size = c.size) : Sort.putCells id 0 F c = F := by
  unfold Sort.putCells
  apply Array.ext
  · simp [h]
  · intro i h1 h2
    simp only [Array.getElem_mapIdx]
    rw [if_pos ⟨Nat.zero_le _, by omega⟩, Nat.sub_zero, getElem!_pos F i h2]
    rfl
theorem srt_whole {c : Array Value} (h : Whole w g t c) (d : Array α) (hd : d.size * n = c.size) (m : Nat) (os : Array Obj) : Whole (sortWorldK f n w g 0 m d os) g t (Sort.flatK f n d) := by
  have hlt := h.lt
  show (sortWorldK f n w g 0 m d os).heap[g]? = _
  unfold sortWorldK Sort.grow Sort.putRowK Sort.putRow Sort.mapBlock
  simp only
  rw [Array.getElem?_append_left (by simpa [Sort.ahead] using hlt), Array.getElem?_modify, if_pos rfl]
  show Option.map _ (w.heap[g]?) = _
  rw [h.eq]
  show some (Obj.cells (Sort.putCells id 0 (Sort.flatK f n d) c) t (0, 0)) = _
  rw [putCells_all _ _ (by rw [Sort.size_flatK]; exact hd)]
theorem srt_below (hg : g < w.heap.size) (d : Array α) (m : Nat) (os : Array Obj) : Below g w (sortWorldK f n w g 0 m d os) where
  os := rfl
  tape := rfl
  output := rfl
  size := by
    unfold sortWorldK Sort.grow Sort.putRowK Sort.putRow Sort.mapBlock
    simp [Sort.ahead]
  block := fun k hk => by
    unfold sortWorldK Sort.grow Sort.putRowK Sort.putRow Sort.mapBlock
    simp only
    rw [Array.getElem?_append_left (by simp [Sort.ahead]; omega), Array.getElem?_modify, if_neg (by omega)]
    rfl
theorem holds_whole (hn : ∀ x, (f x).length = n) (h0 : 0 < n) (d : Array α) (h : Whole w g t (fl f d.toList).toArray) : Sort.HoldsK f n w g 0 d := by
  unfold Sort.HoldsK
  rw [flatK_fl hn h0]
  intro j hj
  rw [Nat.zero_add]
  refine ⟨?_, h.frozen j⟩
  rw [h.cell, getElem!_pos _ j hj, Array.getElem?_eq_getElem hj]
  rfl
end
set_option maxHeartbeats 1000000 in
theorem aless (x y : Int × Int) (W : World) : Calls Tryd.prog 68 #[.agg #[.int .i64 x.1, .int .i64 x.2], .agg #[.int .i64 y.1, .int .i64 y.2]] W fun e w' => e = .returned (.int .i64 (Lib.compareInt x.1 y.1)) ∧ ∃ q os', w' = Sort.grow (W.drewN q) os' := by
  have hcon := fun W' => AnyG.cmp_Compare_int Tryd.cmp69 x.1 y.1 W'
  change ∀ W', Calls Tryd.prog 69 _ _ _ at hcon
  generalize Lib.compareInt x.1 y.1 = r at hcon ⊢
  go_enter Tryd.func68, Tryd.ntmps68
  go_wp2_with (go_at_call 69; refine (hcon _).mono ?_; rintro e w' ⟨rfl, rfl⟩)
  go_ret
  exact ⟨rfl, 0, _, by rw [Sort.alloc_eq_grow, Sort.alloc_eq_grow, Sort.grow_grow]; rfl⟩
theorem ltLo (x y : Int × Int) : ltOf (fun x y : Int × Int => Lib.compareInt x.1 y.1) x y = decide (x.1 < y.1) := by
  unfold ltOf Lib.compareInt
  by_cases h1 : x.1 < y.1
  · simp [h1]
  · by_cases h2 : y.1 < x.1 <;> simp [h1, h2]
theorem swoLo : Sort.SWO (ltOf fun x y : Int × Int => Lib.compareInt x.1 y.1) where
  irrefl x := by rw [ltLo]; simp
  trans x y z h1 h2 := by rw [ltLo] at *; simp at *; omega
  ntrans x y z h1 h2 := by rw [ltLo] at *; simp at *; omega
set_option maxHeartbeats 1000000 in
theorem asort {w : World} {g cap n : Nat} {l : List (Int × Int)} (hW : Whole w g 50 (fl scl l).toArray) (hn : n = l.length) (hl : l.length ≤ 100000000) :
    Calls Tryd.prog 67 #[.slice (some ⟨g, 0, none⟩) n cap, .func (.func 68) #[] #[]] w fun e w' =>
      e = .returned (.tuple #[]) ∧ ∃ l' : List (Int × Int), l'.Perm l ∧ l'.Pairwise (fun a b => a.1 ≤ b.1) ∧ Whole w' g 50 (fl scl l').toArray ∧ Below g w w' := by
  subst hn
  have eg : ∀ args w, (callFunc 68 args).run Tryd.prog w = .ok (.enter 68 args) w := enters_of Tryd.func68 (by kernel_rfl) rfl
  have hcmp : CmpLays Tryd.prog 68 #[] scl 2 (fun x y => Lib.compareInt x.1 y.1) g 0 l.toArray.size w := fun _ _ _ _ x y => aless x y _
  have hcon := AnyQ.slices_SortFunc Tryd.sort67 2 (fun w => by kernel_rfl) (fun w => by kernel_rfl) scl scl_len scl_one (fun x y => Lib.compareInt x.1 y.1) swoLo 68 #[] g 0 cap l.toArray w eg hcmp (holds_whole scl_len (by decide) l.toArray hW) hW.lt (by simp; omega)
  change Calls Tryd.prog 67 _ _ _ at hcon
  refine hcon.mono ?_
  rintro e w' ⟨rfl, d', m, os, hp, hs, rfl⟩
  obtain ⟨p1, _, p3⟩ := hp
  have hsz : d'.size = l.length := by simpa using p1
  refine ⟨rfl, d'.toList, ?_, ?_, ?_, srt_below hW.lt _ _ _⟩
  · have e1 : d'.extract 0 l.toArray.size = d' := by rw [← p1]; simp
    have e2 : l.toArray.extract 0 l.toArray.size = l.toArray := by simp
    rw [e1, e2] at p3
    simpa using p3
  · rw [List.pairwise_iff_getElem]
    intro i j hi hj hij
    have := hs i j (Nat.zero_le _) hij (by simpa [hsz] using hj)
    rw [ltLo, getElem!_pos d' i (by simpa using hi), getElem!_pos d' j (by simpa using hj)] at this
    have := of_decide_eq_false this
    rw [Array.getElem_toList, Array.getElem_toList]
    omega
  · rw [← flatK_fl scl_len (by decide)]
    exact srt_whole hW d' (by have := fl_length scl_len l; simp [this, hsz]) m os
end Go.Proofs.YtgbcncfhmnhljaaDoor
