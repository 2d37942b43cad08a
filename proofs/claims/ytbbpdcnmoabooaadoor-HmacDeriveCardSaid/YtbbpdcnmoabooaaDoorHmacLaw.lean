/-
  What the statements of stage 2 call besides: 'awake'.
-/
import Derived.Test.YtbbpdcnmoabooaaDoorHmacEqual
import Derived.Test.YtbbpdcnmoabooaaDoorHmacFox
import Derived.Lib.SlBytesConst
namespace Go.Proofs.YtbbpdcnmoabooaaDoor
open Go Go.RowKit Sh Leaf

theorem lit_bytes (w : World) (fr : Nat × Nat) (l : List B8) (zs : Array Value) (hz : zs = (l.map byt).toArray) (hl : l.length ≤ 1000) :
    Bytes (w.alloc (.cells zs 5 fr)) (fun _ => True) (.slice (some ⟨w.heap.size, 0, none⟩) l.length l.length) l := by
  refine ⟨some ⟨w.heap.size, 0, none⟩, l.length, rfl, Nat.le_refl _, by unfold maxLen; omega, fun h => (by cases h), fun _ => ⟨w.heap.size, 0, rfl, trivial, fun j x hj => ?_⟩⟩
  rw [World.cell?_alloc_mark, Nat.zero_add, hz]
  simp [hj]
theorem bv_lit (n : Nat) (h : n < 256) : bv (BitVec.ofNat 8 n) = (n : Int) := by rw [bv_ofNat]; omega
theorem fox_at (j : Nat) (n : Nat) (h : ((hmac keyB foxB).map (·.toNat))[j]? = some n) : ∃ x, (hmac keyB foxB)[j]? = some x ∧ bv x = (n : Int) := by
  rw [List.getElem?_map] at h
  cases hx : (hmac keyB foxB)[j]? with
  | none => rw [hx] at h; cases h
  | some x =>
    rw [hx] at h
    have h' : x.toNat = n := by simpa using h
    exact ⟨x, rfl, by unfold bv; omega⟩
theorem bv32 : bv 32 = 32 := by unfold bv; rfl
theorem bv84 : bv 84 = 84 := by unfold bv; rfl
theorem bv97 : bv 97 = 97 := by unfold bv; rfl
theorem bv98 : bv 98 = 98 := by unfold bv; rfl
theorem bv99 : bv 99 = 99 := by unfold bv; rfl
theorem bv100 : bv 100 = 100 := by unfold bv; rfl
theorem bv101 : bv 101 = 101 := by unfold bv; rfl
theorem bv102 : bv 102 = 102 := by unfold bv; rfl
theorem bv103 : bv 103 = 103 := by unfold bv; rfl
theorem bv104 : bv 104 = 104 := by unfold bv; rfl
theorem bv105 : bv 105 = 105 := by unfold bv; rfl
theorem bv106 : bv 106 = 106 := by unfold bv; rfl
theorem bv107 : bv 107 = 107 := by unfold bv; rfl
theorem bv108 : bv 108 = 108 := by unfold bv; rfl
theorem bv109 : bv 109 = 109 := by unfold bv; rfl
theorem bv110 : bv 110 = 110 := by unfold bv; rfl
theorem bv111 : bv 111 = 111 := by unfold bv; rfl
theorem bv112 : bv 112 = 112 := by unfold bv; rfl
theorem bv113 : bv 113 = 113 := by unfold bv; rfl
theorem bv114 : bv 114 = 114 := by unfold bv; rfl
theorem bv115 : bv 115 = 115 := by unfold bv; rfl
theorem bv116 : bv 116 = 116 := by unfold bv; rfl
theorem bv117 : bv 117 = 117 := by unfold bv; rfl
theorem bv118 : bv 118 = 118 := by unfold bv; rfl
theorem bv119 : bv 119 = 119 := by unfold bv; rfl
theorem bv120 : bv 120 = 120 := by unfold bv; rfl
theorem bv121 : bv 121 = 121 := by unfold bv; rfl
theorem bv122 : bv 122 = 122 := by unfold bv; rfl
theorem key_row : (#[Value.int .u8 107, Value.int .u8 101, Value.int .u8 121] : Array Value) = (keyB.map byt).toArray := by
  simp only [keyB, List.map_cons, List.map_nil, byt, bv101, bv107, bv121]
theorem fox_row : (#[Value.int .u8 84, Value.int .u8 104, Value.int .u8 101, Value.int .u8 32, Value.int .u8 113, Value.int .u8 117, Value.int .u8 105, Value.int .u8 99, Value.int .u8 107, Value.int .u8 32, Value.int .u8 98, Value.int .u8 114, Value.int .u8 111, Value.int .u8 119, Value.int .u8 110, Value.int .u8 32, Value.int .u8 102, Value.int .u8 111, Value.int .u8 120, Value.int .u8 32, Value.int .u8 106, Value.int .u8 117, Value.int .u8 109, Value.int .u8 112, Value.int .u8 115, Value.int .u8 32, Value.int .u8 111, Value.int .u8 118, Value.int .u8 101, Value.int .u8 114, Value.int .u8 32, Value.int .u8 116, Value.int .u8 104, Value.int .u8 101, Value.int .u8 32, Value.int .u8 108, Value.int .u8 97, Value.int .u8 122, Value.int .u8 121, Value.int .u8 32, Value.int .u8 100, Value.int .u8 111, Value.int .u8 103] : Array Value) = (foxB.map byt).toArray := by
  simp only [foxB, List.map_cons, List.map_nil, byt, bv32, bv84, bv97, bv98, bv99, bv100, bv101, bv102, bv103, bv104, bv105, bv106, bv107, bv108, bv109, bv110, bv111, bv112, bv113, bv114, bv115, bv116, bv117, bv118, bv119, bv120, bv121, bv122]
theorem one_row : (#[Value.int .u8 1] : Array Value) = (([1] : List B8).map byt).toArray := by
  have : bv 1 = 1 := by unfold bv; rfl
  simp only [List.map_cons, List.map_nil, byt, this]

set_option maxHeartbeats 2000000 in
theorem hawake (w : World) (hT : Tables w) : Calls Tryd.prog 23 #[] w fun e w' => e = .returned (.bool true) ∧ Below w.heap.size w w' := by
  have kc := fun (w : World) (C : Array Value) (n c : Nat) => Lib.run_convert_bytes_const (P := Tryd.prog) w 22 5 C n c Tryd.underlying22 Tryd.underlying5
  have kc2 : ∀ (o : Obj) (C : Array Value) (n c : Nat), (convert 22 22 (.slice (some ⟨w.heap.size + 1, 0, none⟩) n c)).run Tryd.prog ((w.alloc o).alloc (.cells C 5)) = .ok (.slice (some ⟨w.heap.size + 1, 0, none⟩) n c) ((w.alloc o).alloc (.cells C 5 (C.size, C.size + 1))) := fun o C n c => by
    have := kc (w.alloc o) C n c
    rwa [show (w.alloc o).heap.size = w.heap.size + 1 by simp] at this
  have hx : ∀ o o', Below w.heap.size w ((w.alloc o).alloc o') := fun o o' => ((Below.refl _ _).alloc (Nat.le_refl _) _).alloc (by simp) _
  have hb1 : ∀ fr o, Bytes ((w.alloc (.cells #[Value.int .u8 107, Value.int .u8 101, Value.int .u8 121] 5 fr)).alloc o) (fun _ => True) (.slice (some ⟨w.heap.size, 0, none⟩) 3 3) keyB := fun fr o => (lit_bytes w fr keyB _ key_row (by simp [keyB])).alloc o
  have hb2 : ∀ o fr, Bytes ((w.alloc o).alloc (.cells #[Value.int .u8 84, Value.int .u8 104, Value.int .u8 101, Value.int .u8 32, Value.int .u8 113, Value.int .u8 117, Value.int .u8 105, Value.int .u8 99, Value.int .u8 107, Value.int .u8 32, Value.int .u8 98, Value.int .u8 114, Value.int .u8 111, Value.int .u8 119, Value.int .u8 110, Value.int .u8 32, Value.int .u8 102, Value.int .u8 111, Value.int .u8 120, Value.int .u8 32, Value.int .u8 106, Value.int .u8 117, Value.int .u8 109, Value.int .u8 112, Value.int .u8 115, Value.int .u8 32, Value.int .u8 111, Value.int .u8 118, Value.int .u8 101, Value.int .u8 114, Value.int .u8 32, Value.int .u8 116, Value.int .u8 104, Value.int .u8 101, Value.int .u8 32, Value.int .u8 108, Value.int .u8 97, Value.int .u8 122, Value.int .u8 121, Value.int .u8 32, Value.int .u8 100, Value.int .u8 111, Value.int .u8 103] 5 fr)) (fun _ => True) (.slice (some ⟨w.heap.size + 1, 0, none⟩) 43 43) foxB := fun o fr => by
    have := lit_bytes (w.alloc o) fr foxB _ fox_row (by simp [foxB])
    rwa [show (w.alloc o).heap.size = w.heap.size + 1 by simp] at this
  have HB1 := Lib.hid hb1
  have HB2 := Lib.hid hb2
  clear hb1 hb2
  go_enter Tryd.func23, Tryd.ntmps23
  go_wp2_with fail
  refine (hof _ _ keyB foxB _ _ _ (HB1.out _ _) (HB2.out _ _) (hT.below (Nat.le_refl _) (hx _ _)) (by simp [keyB]) (by simp [foxB])).mono ?_
  rintro e w1 ⟨rfl, hq1⟩
  have hw1 := (hx _ _).trans (hq1.mono (hx _ _).size)
  have ht := fun j n h => fox_at j n h
  have hdl : (hmac keyB foxB).length = 32 := sha_length _
  have hfx := hmac_fox
  obtain ⟨M, hM⟩ : ∃ M, M = hmac keyB foxB := ⟨_, rfl⟩
  rw [← hM] at ht hdl hfx ⊢
  clear hM kc kc2 HB1 HB2 hq1 hx hT
  have HL := Lib.hid hdl
  have HZ : Hid ((Tryd.prog.info? 26).map (·.size) = some 32) := Lib.hid (by kernel_rfl)
  have k0 : ∀ cs, Whole (w1.alloc (.cells cs 26)) w1.heap.size 26 cs := fun cs => Whole.here _ _ _
  have k1 : ∀ cs, Whole ((w1.alloc (.cells cs 26)).setRow w1.heap.size (M.map byt).toArray) w1.heap.size 26 (M.map byt).toArray := fun cs => (k0 cs).setRow _
  have hbx : ∀ cs, Below w1.heap.size w1 ((w1.alloc (.cells cs 26)).setRow w1.heap.size (M.map byt).toArray) := fun cs => below_setRow ((Below.refl _ _).alloc (Nat.le_refl _) _) (Nat.le_refl _) _
  have cl : ∀ (j n : Nat) (z : Int), (n : Int) = z → (M.map (·.toNat))[j]? = some n → ∀ cs, ((w1.alloc (.cells cs 26)).setRow w1.heap.size (M.map byt).toArray).cell? ⟨w1.heap.size, j, none⟩ = some (.int .u8 z) := by
    intro j n z hz hj cs
    subst hz
    obtain ⟨x, hx, hn⟩ := ht j n hj
    rw [(k1 cs).cell, List.getElem?_toArray, List.getElem?_map, hx, Option.map_some, byt, hn]
  have c0 := cl 0 247 247 rfl (by rw [hfx]; rfl)
  have c1 := cl 1 188 188 rfl (by rw [hfx]; rfl)
  have c31 := cl 31 216 216 rfl (by rw [hfx]; rfl)
  clear cl ht hfx hdl
  have hz3 : ∀ cs, ((w1.alloc (.cells cs 26)).setRow w1.heap.size (M.map byt).toArray).heap.size = w1.heap.size + 1 := fun cs => by simp
  have ho1 : ∀ cs o, Bytes ((((w1.alloc (.cells cs 26)).setRow w1.heap.size (M.map byt).toArray).alloc (.cells #[Value.int .u8 1] 5)).alloc o) (fun _ => True) (.slice (some ⟨w1.heap.size + 1, 0, none⟩) 1 1) [1] := fun cs o => by
    have := lit_bytes ((w1.alloc (.cells cs 26)).setRow w1.heap.size (M.map byt).toArray) (0, 0) [1] _ one_row (by simp)
    rw [hz3] at this
    exact this.alloc o
  have ho2 : ∀ cs o, Bytes ((((w1.alloc (.cells cs 26)).setRow w1.heap.size (M.map byt).toArray).alloc o).alloc (.cells #[Value.int .u8 1] 5)) (fun _ => True) (.slice (some ⟨w1.heap.size + 1 + 1, 0, none⟩) 1 1) [1] := fun cs o => by
    have := lit_bytes (((w1.alloc (.cells cs 26)).setRow w1.heap.size (M.map byt).toArray).alloc o) (0, 0) [1] _ one_row (by simp)
    rwa [show (((w1.alloc (.cells cs 26)).setRow w1.heap.size (M.map byt).toArray).alloc o).heap.size = w1.heap.size + 1 + 1 by simp] at this
  have hby : ∀ cs o o', Below w.heap.size w ((((w1.alloc (.cells cs 26)).setRow w1.heap.size (M.map byt).toArray).alloc o).alloc o') := fun cs o o' => by
    have h := hw1.trans ((hbx cs).mono hw1.size)
    exact (h.alloc h.size o).alloc (h.alloc h.size o).size o'
  have HO1 := Lib.hid ho1
  have HO2 := Lib.hid ho2
  have HBY := Lib.hid hby
  clear ho1 ho2 hby hbx k1 hw1 hz3
  go_wp2_with (with_reducible refine wpList_store_row rfl 26 _ _ rfl w1.heap.size _ rfl rfl _ _ (k0 _).eq (by rw [HZ.out]; simp [HL.out]) (by simp [HL.out]) (all_oneCell_toArray (byt_one _)) ?_)
  refine (equal_ _ _ [1] [1] _ _ _ (HO1.out _ _) (HO2.out _ _) (by simp)).mono ?_
  rintro e w2 ⟨rfl, hq2⟩
  have hw2 := (HBY.out _ _ _).trans (hq2.mono (HBY.out _ _ _).size)
  have hdt : decide (([1] : List B8) = [1]) = true := by simp
  rw [hdt]
  clear hq2 HBY HO1 HO2 c0 c1 c31 k0
  go_wp2
  go_ret
  exact ⟨rfl, hw2⟩
end Go.Proofs.YtbbpdcnmoabooaaDoor
