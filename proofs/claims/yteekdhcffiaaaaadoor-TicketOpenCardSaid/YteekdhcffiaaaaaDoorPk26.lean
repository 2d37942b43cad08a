/-
  HmacRDer
-/
import Derived.Test.YteekdhcffiaaaaaDoorKSq
import Derived.Test.YteekdhcffiaaaaaDoorPk8
import Derived.Test.YteekdhcffiaaaaaDoorPk22
namespace Go.Proofs.YteekdhcffiaaaaaDoor
open Go Go.RowKit Sh Leaf

set_option maxRecDepth 20000 in
set_option maxHeartbeats 2000000 in
theorem ref_derive (K : List B8) (hK : K.length = 32) (s : ByteArray) (hs : s.size ≤ 1000) (z : Int) (w : World) :
    Calls Tryd.prog 42 #[.agg (K.map byt).toArray, .string s, .int .i64 z] w fun e w' => e = .returned (.tuple #[tagv (der K s z).1, .int .i64 (der K s z).2]) ∧ Below w.heap.size w w' := by
  have k0 : ∀ cs o, Whole ((w.alloc (.cells cs 28)).alloc o) w.heap.size 28 cs := fun cs o => (Whole.here _ _ _).alloc _
  have k1 : ∀ o cs, Whole ((w.alloc o).alloc (.cells cs 28)) (w.heap.size + 1) 28 cs := fun o cs => Whole.at_ _ _ _ _ (by simp)
  have hx : ∀ o o', Below w.heap.size w ((w.alloc o).alloc o') := fun o o' => ((Below.refl _ _).alloc (Nat.le_refl _) _).alloc (by simp) _
  have hZ : Hid ((Tryd.prog.info? 28).map (·.size) = some 32) := Lib.hid (by kernel_rfl)
  have hzr : ((List.replicate 32 (0 : B8)).map byt).toArray = #[Value.int .u8 0, Value.int .u8 0, Value.int .u8 0, Value.int .u8 0, Value.int .u8 0, Value.int .u8 0, Value.int .u8 0, Value.int .u8 0, Value.int .u8 0, Value.int .u8 0, Value.int .u8 0, Value.int .u8 0, Value.int .u8 0, Value.int .u8 0, Value.int .u8 0, Value.int .u8 0, Value.int .u8 0, Value.int .u8 0, Value.int .u8 0, Value.int .u8 0, Value.int .u8 0, Value.int .u8 0, Value.int .u8 0, Value.int .u8 0, Value.int .u8 0, Value.int .u8 0, Value.int .u8 0, Value.int .u8 0, Value.int .u8 0, Value.int .u8 0, Value.int .u8 0, Value.int .u8 0] := by
    have h0 : bv 0 = 0 := by unfold bv; rfl
    simp only [List.map_replicate, byt, h0]
    rfl
  have HZR := Lib.hid hzr
  clear hzr
  by_cases hlab : LabOK s
  rotate_left
  focus
    have hd : decide (LabOK s) = false := decide_eq_false hlab
    have hder : der K s z = (List.replicate 32 0, 7) := by unfold der; rw [if_neg hlab]
    have HD := Lib.hid hd
    rw [hder]
    clear hd hder
    go_enter Tryd.func42, Tryd.ntmps42
    go_wp2_with fail
    refine (ref_name s (by omega) _).mono ?_
    rintro e w1 ⟨rfl, rfl⟩
    rw [HD.out]
    go_wp2_with (with_reducible refine wpList_store_row rfl 28 _ _ rfl (w.heap.size + 1) _ rfl rfl _ _ (k1 _ _).eq (by rw [hZ.out]; simp) (by simp) (by simp [Value.oneCell']) ?_)
    have hw0 := (k1 (Obj.cells (K.map byt).toArray 28) #[Value.int .u8 0, Value.int .u8 0, Value.int .u8 0, Value.int .u8 0, Value.int .u8 0, Value.int .u8 0, Value.int .u8 0, Value.int .u8 0, Value.int .u8 0, Value.int .u8 0, Value.int .u8 0, Value.int .u8 0, Value.int .u8 0, Value.int .u8 0, Value.int .u8 0, Value.int .u8 0, Value.int .u8 0, Value.int .u8 0, Value.int .u8 0, Value.int .u8 0, Value.int .u8 0, Value.int .u8 0, Value.int .u8 0, Value.int .u8 0, Value.int .u8 0, Value.int .u8 0, Value.int .u8 0, Value.int .u8 0, Value.int .u8 0, Value.int .u8 0, Value.int .u8 0, Value.int .u8 0]).setRow #[Value.int .u8 0, Value.int .u8 0, Value.int .u8 0, Value.int .u8 0, Value.int .u8 0, Value.int .u8 0, Value.int .u8 0, Value.int .u8 0, Value.int .u8 0, Value.int .u8 0, Value.int .u8 0, Value.int .u8 0, Value.int .u8 0, Value.int .u8 0, Value.int .u8 0, Value.int .u8 0, Value.int .u8 0, Value.int .u8 0, Value.int .u8 0, Value.int .u8 0, Value.int .u8 0, Value.int .u8 0, Value.int .u8 0, Value.int .u8 0, Value.int .u8 0, Value.int .u8 0, Value.int .u8 0, Value.int .u8 0, Value.int .u8 0, Value.int .u8 0, Value.int .u8 0, Value.int .u8 0]
    have hb0 := below_setRow (hx (Obj.cells (K.map byt).toArray 28) (Obj.cells #[Value.int .u8 0, Value.int .u8 0, Value.int .u8 0, Value.int .u8 0, Value.int .u8 0, Value.int .u8 0, Value.int .u8 0, Value.int .u8 0, Value.int .u8 0, Value.int .u8 0, Value.int .u8 0, Value.int .u8 0, Value.int .u8 0, Value.int .u8 0, Value.int .u8 0, Value.int .u8 0, Value.int .u8 0, Value.int .u8 0, Value.int .u8 0, Value.int .u8 0, Value.int .u8 0, Value.int .u8 0, Value.int .u8 0, Value.int .u8 0, Value.int .u8 0, Value.int .u8 0, Value.int .u8 0, Value.int .u8 0, Value.int .u8 0, Value.int .u8 0, Value.int .u8 0, Value.int .u8 0] 28)) (g := w.heap.size + 1) (by omega) #[Value.int .u8 0, Value.int .u8 0, Value.int .u8 0, Value.int .u8 0, Value.int .u8 0, Value.int .u8 0, Value.int .u8 0, Value.int .u8 0, Value.int .u8 0, Value.int .u8 0, Value.int .u8 0, Value.int .u8 0, Value.int .u8 0, Value.int .u8 0, Value.int .u8 0, Value.int .u8 0, Value.int .u8 0, Value.int .u8 0, Value.int .u8 0, Value.int .u8 0, Value.int .u8 0, Value.int .u8 0, Value.int .u8 0, Value.int .u8 0, Value.int .u8 0, Value.int .u8 0, Value.int .u8 0, Value.int .u8 0, Value.int .u8 0, Value.int .u8 0, Value.int .u8 0, Value.int .u8 0]
    generalize World.setRow ((w.alloc (Obj.cells (K.map byt).toArray 28)).alloc (Obj.cells #[Value.int .u8 0, Value.int .u8 0, Value.int .u8 0, Value.int .u8 0, Value.int .u8 0, Value.int .u8 0, Value.int .u8 0, Value.int .u8 0, Value.int .u8 0, Value.int .u8 0, Value.int .u8 0, Value.int .u8 0, Value.int .u8 0, Value.int .u8 0, Value.int .u8 0, Value.int .u8 0, Value.int .u8 0, Value.int .u8 0, Value.int .u8 0, Value.int .u8 0, Value.int .u8 0, Value.int .u8 0, Value.int .u8 0, Value.int .u8 0, Value.int .u8 0, Value.int .u8 0, Value.int .u8 0, Value.int .u8 0, Value.int .u8 0, Value.int .u8 0, Value.int .u8 0, Value.int .u8 0] 28)) (w.heap.size + 1) #[Value.int .u8 0, Value.int .u8 0, Value.int .u8 0, Value.int .u8 0, Value.int .u8 0, Value.int .u8 0, Value.int .u8 0, Value.int .u8 0, Value.int .u8 0, Value.int .u8 0, Value.int .u8 0, Value.int .u8 0, Value.int .u8 0, Value.int .u8 0, Value.int .u8 0, Value.int .u8 0, Value.int .u8 0, Value.int .u8 0, Value.int .u8 0, Value.int .u8 0, Value.int .u8 0, Value.int .u8 0, Value.int .u8 0, Value.int .u8 0, Value.int .u8 0, Value.int .u8 0, Value.int .u8 0, Value.int .u8 0, Value.int .u8 0, Value.int .u8 0, Value.int .u8 0, Value.int .u8 0] = W1 at hw0 hb0 ⊢
    rw [← HZR.out] at hw0
    refine bodyPost_ret (results_cell_slot Tryd.results42 _ _ (w.heap.size + 1) ((List.replicate 32 0).map byt) _ rfl _ rfl (fun j v hj => by rw [Nat.zero_add, hw0.cell, List.getElem?_toArray]; exact hj) Tryd.underlying28 rfl (by rw [hZ.out]; simp)) rfl ⟨rfl, hb0⟩
  by_cases hzz : z < 0 ∨ 281474976710656 < z
  focus
    have hd : decide (LabOK s) = true := decide_eq_true hlab
    have hder : der K s z = (List.replicate 32 0, 1) := by unfold der; rw [if_pos hlab, if_pos hzz]
    have HD := Lib.hid hd
    rw [hder]
    clear hd hder
    have hcs : z < 0 ∨ (¬ z < 0 ∧ 281474976710656 < z) := by omega
    clear hzz
    rcases hcs with hc | ⟨hc, hc2⟩
    all_goals
      go_enter Tryd.func42, Tryd.ntmps42
      go_wp2_with fail
      refine (ref_name s (by omega) _).mono ?_
      rintro e w1 ⟨rfl, rfl⟩
      rw [HD.out]
      go_wp2_with (with_reducible refine wpList_store_row rfl 28 _ _ rfl (w.heap.size + 1) _ rfl rfl _ _ (k1 _ _).eq (by rw [hZ.out]; simp) (by simp) (by simp [Value.oneCell']) ?_)
      have hw0 := (k1 (Obj.cells (K.map byt).toArray 28) #[Value.int .u8 0, Value.int .u8 0, Value.int .u8 0, Value.int .u8 0, Value.int .u8 0, Value.int .u8 0, Value.int .u8 0, Value.int .u8 0, Value.int .u8 0, Value.int .u8 0, Value.int .u8 0, Value.int .u8 0, Value.int .u8 0, Value.int .u8 0, Value.int .u8 0, Value.int .u8 0, Value.int .u8 0, Value.int .u8 0, Value.int .u8 0, Value.int .u8 0, Value.int .u8 0, Value.int .u8 0, Value.int .u8 0, Value.int .u8 0, Value.int .u8 0, Value.int .u8 0, Value.int .u8 0, Value.int .u8 0, Value.int .u8 0, Value.int .u8 0, Value.int .u8 0, Value.int .u8 0]).setRow #[Value.int .u8 0, Value.int .u8 0, Value.int .u8 0, Value.int .u8 0, Value.int .u8 0, Value.int .u8 0, Value.int .u8 0, Value.int .u8 0, Value.int .u8 0, Value.int .u8 0, Value.int .u8 0, Value.int .u8 0, Value.int .u8 0, Value.int .u8 0, Value.int .u8 0, Value.int .u8 0, Value.int .u8 0, Value.int .u8 0, Value.int .u8 0, Value.int .u8 0, Value.int .u8 0, Value.int .u8 0, Value.int .u8 0, Value.int .u8 0, Value.int .u8 0, Value.int .u8 0, Value.int .u8 0, Value.int .u8 0, Value.int .u8 0, Value.int .u8 0, Value.int .u8 0, Value.int .u8 0]
      have hb0 := below_setRow (hx (Obj.cells (K.map byt).toArray 28) (Obj.cells #[Value.int .u8 0, Value.int .u8 0, Value.int .u8 0, Value.int .u8 0, Value.int .u8 0, Value.int .u8 0, Value.int .u8 0, Value.int .u8 0, Value.int .u8 0, Value.int .u8 0, Value.int .u8 0, Value.int .u8 0, Value.int .u8 0, Value.int .u8 0, Value.int .u8 0, Value.int .u8 0, Value.int .u8 0, Value.int .u8 0, Value.int .u8 0, Value.int .u8 0, Value.int .u8 0, Value.int .u8 0, Value.int .u8 0, Value.int .u8 0, Value.int .u8 0, Value.int .u8 0, Value.int .u8 0, Value.int .u8 0, Value.int .u8 0, Value.int .u8 0, Value.int .u8 0, Value.int .u8 0] 28)) (g := w.heap.size + 1) (by omega) #[Value.int .u8 0, Value.int .u8 0, Value.int .u8 0, Value.int .u8 0, Value.int .u8 0, Value.int .u8 0, Value.int .u8 0, Value.int .u8 0, Value.int .u8 0, Value.int .u8 0, Value.int .u8 0, Value.int .u8 0, Value.int .u8 0, Value.int .u8 0, Value.int .u8 0, Value.int .u8 0, Value.int .u8 0, Value.int .u8 0, Value.int .u8 0, Value.int .u8 0, Value.int .u8 0, Value.int .u8 0, Value.int .u8 0, Value.int .u8 0, Value.int .u8 0, Value.int .u8 0, Value.int .u8 0, Value.int .u8 0, Value.int .u8 0, Value.int .u8 0, Value.int .u8 0, Value.int .u8 0]
      generalize World.setRow ((w.alloc (Obj.cells (K.map byt).toArray 28)).alloc (Obj.cells #[Value.int .u8 0, Value.int .u8 0, Value.int .u8 0, Value.int .u8 0, Value.int .u8 0, Value.int .u8 0, Value.int .u8 0, Value.int .u8 0, Value.int .u8 0, Value.int .u8 0, Value.int .u8 0, Value.int .u8 0, Value.int .u8 0, Value.int .u8 0, Value.int .u8 0, Value.int .u8 0, Value.int .u8 0, Value.int .u8 0, Value.int .u8 0, Value.int .u8 0, Value.int .u8 0, Value.int .u8 0, Value.int .u8 0, Value.int .u8 0, Value.int .u8 0, Value.int .u8 0, Value.int .u8 0, Value.int .u8 0, Value.int .u8 0, Value.int .u8 0, Value.int .u8 0, Value.int .u8 0] 28)) (w.heap.size + 1) #[Value.int .u8 0, Value.int .u8 0, Value.int .u8 0, Value.int .u8 0, Value.int .u8 0, Value.int .u8 0, Value.int .u8 0, Value.int .u8 0, Value.int .u8 0, Value.int .u8 0, Value.int .u8 0, Value.int .u8 0, Value.int .u8 0, Value.int .u8 0, Value.int .u8 0, Value.int .u8 0, Value.int .u8 0, Value.int .u8 0, Value.int .u8 0, Value.int .u8 0, Value.int .u8 0, Value.int .u8 0, Value.int .u8 0, Value.int .u8 0, Value.int .u8 0, Value.int .u8 0, Value.int .u8 0, Value.int .u8 0, Value.int .u8 0, Value.int .u8 0, Value.int .u8 0, Value.int .u8 0] = W1 at hw0 hb0 ⊢
      rw [← HZR.out] at hw0
      refine bodyPost_ret (results_cell_slot Tryd.results42 _ _ (w.heap.size + 1) ((List.replicate 32 0).map byt) _ rfl _ rfl (fun j v hj => by rw [Nat.zero_add, hw0.cell, List.getElem?_toArray]; exact hj) Tryd.underlying28 rfl (by rw [hZ.out]; simp)) rfl ⟨rfl, hb0⟩
  have hd : decide (LabOK s) = true := decide_eq_true hlab
  obtain ⟨n, rfl⟩ : ∃ n : Nat, z = (n : Int) := ⟨z.toNat, by omega⟩
  have hder : der K s (n : Int) = (hmac K (purp s n), 0) := by unfold der; rw [if_pos hlab, if_neg hzz]; rfl
  have HD := Lib.hid hd
  obtain ⟨M, hM⟩ : ∃ M, M = hmac K (purp s n) := ⟨_, rfl⟩
  rw [hder, ← hM]
  have ml : M.length = 32 := by rw [hM]; exact sha_length _
  have HM := Lib.hid hM
  clear hM
  have hn : n ≤ 281474976710656 := by omega
  clear hd hder hzz
  go_enter Tryd.func42, Tryd.ntmps42
  go_wp2_with fail
  refine (ref_name s (by omega) _).mono ?_
  rintro e w1 ⟨rfl, rfl⟩
  rw [HD.out]
  go_wp2
  have q0 := k0 (K.map byt).toArray (Obj.cells #[Value.int .u8 0, Value.int .u8 0, Value.int .u8 0, Value.int .u8 0, Value.int .u8 0, Value.int .u8 0, Value.int .u8 0, Value.int .u8 0, Value.int .u8 0, Value.int .u8 0, Value.int .u8 0, Value.int .u8 0, Value.int .u8 0, Value.int .u8 0, Value.int .u8 0, Value.int .u8 0, Value.int .u8 0, Value.int .u8 0, Value.int .u8 0, Value.int .u8 0, Value.int .u8 0, Value.int .u8 0, Value.int .u8 0, Value.int .u8 0, Value.int .u8 0, Value.int .u8 0, Value.int .u8 0, Value.int .u8 0, Value.int .u8 0, Value.int .u8 0, Value.int .u8 0, Value.int .u8 0] 28)
  have q1 := k1 (Obj.cells (K.map byt).toArray 28) #[Value.int .u8 0, Value.int .u8 0, Value.int .u8 0, Value.int .u8 0, Value.int .u8 0, Value.int .u8 0, Value.int .u8 0, Value.int .u8 0, Value.int .u8 0, Value.int .u8 0, Value.int .u8 0, Value.int .u8 0, Value.int .u8 0, Value.int .u8 0, Value.int .u8 0, Value.int .u8 0, Value.int .u8 0, Value.int .u8 0, Value.int .u8 0, Value.int .u8 0, Value.int .u8 0, Value.int .u8 0, Value.int .u8 0, Value.int .u8 0, Value.int .u8 0, Value.int .u8 0, Value.int .u8 0, Value.int .u8 0, Value.int .u8 0, Value.int .u8 0, Value.int .u8 0, Value.int .u8 0]
  have q2 := hx (Obj.cells (K.map byt).toArray 28) (Obj.cells #[Value.int .u8 0, Value.int .u8 0, Value.int .u8 0, Value.int .u8 0, Value.int .u8 0, Value.int .u8 0, Value.int .u8 0, Value.int .u8 0, Value.int .u8 0, Value.int .u8 0, Value.int .u8 0, Value.int .u8 0, Value.int .u8 0, Value.int .u8 0, Value.int .u8 0, Value.int .u8 0, Value.int .u8 0, Value.int .u8 0, Value.int .u8 0, Value.int .u8 0, Value.int .u8 0, Value.int .u8 0, Value.int .u8 0, Value.int .u8 0, Value.int .u8 0, Value.int .u8 0, Value.int .u8 0, Value.int .u8 0, Value.int .u8 0, Value.int .u8 0, Value.int .u8 0, Value.int .u8 0] 28)
  generalize (w.alloc (Obj.cells (K.map byt).toArray 28)).alloc (Obj.cells #[Value.int .u8 0, Value.int .u8 0, Value.int .u8 0, Value.int .u8 0, Value.int .u8 0, Value.int .u8 0, Value.int .u8 0, Value.int .u8 0, Value.int .u8 0, Value.int .u8 0, Value.int .u8 0, Value.int .u8 0, Value.int .u8 0, Value.int .u8 0, Value.int .u8 0, Value.int .u8 0, Value.int .u8 0, Value.int .u8 0, Value.int .u8 0, Value.int .u8 0, Value.int .u8 0, Value.int .u8 0, Value.int .u8 0, Value.int .u8 0, Value.int .u8 0, Value.int .u8 0, Value.int .u8 0, Value.int .u8 0, Value.int .u8 0, Value.int .u8 0, Value.int .u8 0, Value.int .u8 0] 28) = W1 at q0 q1 q2 ⊢
  have hby := q0.bytes (by omega)
  rw [hK] at hby
  have HBY := Lib.hid hby
  have p1 : w.heap.size + 1 < W1.heap.size := q1.lt
  have HY : Hid (W1.there (w.heap.size + 1) 0 32) := Lib.hid (q1.there 0 32 (by simp))
  have hd0 : W1.drew.there (w.heap.size + 1) 0 32 := HY.out
  have HW := Lib.hid q2
  have hst := fun g W => run_sliceAt_whole (P := Tryd.prog) (t := 28) (e := 5) (n := 32) Tryd.underlying28 (by kernel_rfl) g W
  have hpl := purp_length s n
  have hof1 : ∀ W v Q, Bytes W (fun b => b = w.heap.size) (.slice (some ⟨w.heap.size, 0, none⟩) 32 32) K → Bytes W Q v (purp s n) → Calls Tryd.prog 35 #[.slice (some ⟨w.heap.size, 0, none⟩) 32 32, v] W fun e w' => e = .returned (tagv M) ∧ Below W.heap.size W w' := fun W v Q h1 h2 => by
    rw [HM.out]
    exact ref_hmac (.slice (some ⟨w.heap.size, 0, none⟩) 32 32) v K (purp s n) (fun b => b = w.heap.size) Q W h1 h2 (by omega) (by omega)
  have HO := Lib.hid hof1
  have hone := byt_one M
  have hlen : (M.map byt).length = 32 := by rw [List.length_map]; exact ml
  have hsz : (Tryd.prog.info? 28).map (·.size) = some 32 := hZ.out
  clear hof1 q0 q1 q2 hby k0 k1 hx HZR
  have hwn : IntKind.u64.wrap (n : Int) = (n : Int) := by rw [IntKind.wrap_u64]; omega
  refine wp_region_noPanic ?_
  refine wp_region_held_drew (S := fun w' => w'.there (w.heap.size + 1) 0 32) (by kernel_rfl) hd0 (fun hHeld => ?_)
  apply wpT (i := 0) rfl (by kernel_rfl)
  case hQ => exact fun _ _ _ h => h
  case hS => exact hHeld
  case hy => (refine Or.inl ⟨by rfl, ?_⟩; intro w hSw; go_simp; (try with_reducible rfl))
  simp only [List.getElem_toArray, List.getElem_cons_zero, Act.put, List.setIfInBounds_toArray, List.set_cons_zero, List.set_cons_succ]
  apply wpT (i := 1) rfl (by kernel_rfl)
  case hQ => exact fun _ _ _ h => h
  case hS => exact hHeld
  case hy => (refine Or.inl ⟨by rfl, ?_⟩; intro w hSw; go_simp; (try with_reducible rfl))
  simp only [List.getElem_toArray, List.getElem_cons_succ, List.getElem_cons_zero, Act.put, List.setIfInBounds_toArray, List.set_cons_zero, List.set_cons_succ]
  apply wpT (i := 5) rfl (by kernel_rfl)
  case hQ => exact fun _ _ _ h => h
  case hS => exact hHeld
  case hy => (refine Or.inl ⟨by rfl, ?_⟩; intro w hSw; go_simp; (try with_reducible rfl))
  simp only [List.getElem_toArray, List.getElem_cons_succ, List.getElem_cons_zero, Act.put, List.setIfInBounds_toArray, List.set_cons_zero, List.set_cons_succ]
  apply wpT (i := 6) rfl (by kernel_rfl)
  case hQ => exact fun _ _ _ h => h
  case hS => exact hHeld
  case hy => (refine Or.inl ⟨by rfl, ?_⟩; intro w hSw; go_simp; (try rw [hwn]); (try with_reducible rfl))
  simp only [List.getElem_toArray, List.getElem_cons_succ, List.getElem_cons_zero, Act.put, List.setIfInBounds_toArray, List.set_cons_zero, List.set_cons_succ]
  refine wpAnyH_ready (rs := [2, 3]) (by kernel_rfl) (by simp) ?_
  refine AllReadyH.cons rfl (fun K hK => ?_) (AllReadyH.cons rfl (fun K hK => ?_) AllReadyH.nil)
  focus
    simp only [List.getElem_toArray, List.getElem_cons_succ, List.getElem_cons_zero]
    obtain ⟨v2, w2, hc2, hown2, hb2⟩ := run_str_bytes s (by omega) W1.drew
    have hq2 : Below W1.heap.size W1 w2 := ((Below.refl _ _).drew).trans hb2
    go_simp
    refine hK.out _ _ (there_below HY.out p1 hq2) (fun hHeld => ?_)
    clear hK K
    (try simp only [sq])
    refine wpAnyH_ready (rs := [3]) (by kernel_rfl) (by simp) ?_
    refine AllReadyH.cons rfl (fun K hK => ?_) AllReadyH.nil
    simp only [List.getElem_toArray, List.getElem_cons_succ, List.getElem_cons_zero]
    go_simp
    refine hK.out _ _ (there_below HY.out p1 (hq2.alloc hq2.size _)) (fun hHeld => ?_)
    clear hK K
    (try simp only [sq])
    have hq3 := hq2.alloc hq2.size (.cells #[Value.int .u8 0] 5)
    have hown3 := hown2.alloc (.cells #[Value.int .u8 0] 5)
    have hlit3 := bytes_one w2 0 0 bv_zero.symm
    have h3base : W1.heap.size ≤ W1.drew.heap.size := Nat.le_refl _
    clear hc2 hb2 hq2 hown2
    generalize w2.alloc (.cells #[Value.int .u8 0] 5) = w3 at hq3 hown3 hlit3 hHeld ⊢
    replace hown3 := hown3.mono h3base
  rotate_left
  focus
    simp only [List.getElem_toArray, List.getElem_cons_succ, List.getElem_cons_zero]
    go_simp
    refine hK.out _ _ (there_below HY.out p1 (((Below.refl _ _).drew).alloc (Nat.le_refl _) _)) (fun hHeld => ?_)
    clear hK K
    (try simp only [sq])
    have hq0 : Below W1.heap.size W1 (W1.alloc (.cells #[Value.int .u8 0] 5)).drew := ((Below.refl _ _).drew).alloc (Nat.le_refl _) _
    have hlit0 : Bytes (W1.alloc (.cells #[Value.int .u8 0] 5)).drew (fun _ => True) (.slice (some ⟨W1.heap.size, 0, none⟩) 1 1) [0] := bytes_one W1.drew 0 0 bv_zero.symm
    obtain ⟨v2, w3, hc2, hown3, hb2⟩ := run_str_bytes s (by omega) (W1.alloc (.cells #[Value.int .u8 0] 5)).drew
    have hq3 := hq0.trans (hb2.mono hq0.size)
    have hlit3 := hlit0.below hb2 (Nat.le_refl _)
    have h3base := hq0.size
    replace hown3 := hown3.mono h3base
    refine wpAnyH_ready (rs := [2]) (by kernel_rfl) (by simp) ?_
    refine AllReadyH.cons rfl (fun K hK => ?_) AllReadyH.nil
    simp only [List.getElem_toArray, List.getElem_cons_succ, List.getElem_cons_zero]
    go_simp
    refine hK.out _ _ (there_below HY.out p1 hq3) (fun hHeld => ?_)
    clear hK K
    (try simp only [sq])
    clear hc2 hb2 hq0 hlit0
  all_goals
    refine wpAnyH_ready (rs := [4]) (by kernel_rfl) (by simp) ?_
    refine AllReadyH.cons rfl (fun K hK => ?_) AllReadyH.nil
    refine step_append_mark (by rfl) _ _ (by rfl) W1.heap.size _ (sbytes s) (by rfl) hown3 _ _ [0] (by rfl) hlit3 (by simp) (by rw [sbytes_length]; simp; omega) hq3.size ?_
    intro v4 w4 hown4 hb4
    have hq4 := hq3.trans hb4
    clear hown3 hlit3 hq3 hb4
    refine hK.out _ _ (there_below HY.out p1 hq4) (fun hHeld => ?_)
    clear hK K
    (try simp only [sq])
    refine wpAnyH_ready (rs := [7]) (by kernel_rfl) (by simp) ?_
    refine AllReadyH.cons rfl (fun K hK => ?_) AllReadyH.nil
    simp only [List.getElem_toArray, List.getElem_cons_succ, List.getElem_cons_zero]
    go_simp
    go_at_call 33
    refine (eightB n w4).mono ?_
    rintro e w5 ⟨v5, rfl, hv5, hb5⟩
    have hq5 := hq4.trans (hb5.mono hq4.size)
    have hown5 := hown4.below hb5 (Nat.le_refl _)
    clear hown4 hq4 hb5
    refine hK.out _ _ (there_below HY.out p1 hq5) (fun hHeld => ?_)
    clear hK K
    (try simp only [sq])
    refine wpAnyH_ready (rs := [8]) (by kernel_rfl) (by simp) ?_
    refine AllReadyH.cons rfl (fun K hK => ?_) AllReadyH.nil
    refine step_append_mark (by rfl) _ _ (by rfl) W1.heap.size _ (sbytes s ++ [0]) (by rfl) hown5 _ _ (beBytes n 8) (by rfl) hv5 (by rw [beBytes_length]; omega) (by rw [List.length_append, sbytes_length, beBytes_length]; simp; omega) hq5.size ?_
    intro v6 w6 hown6 hb6
    have hqx := hq5.trans hb6
    have hby6 : Bytes w6 _ v6 (purp s n) := hown6.bytes
    clear hown5 hv5 hq5 hb6 hown6
    refine hK.out _ _ (there_below HY.out p1 hqx) (fun hHeld => ?_)
    clear hK K
    (try simp only [sq])
    refine wpAnyH_ready (rs := [9]) (by kernel_rfl) (by simp) ?_
    refine AllReadyH.cons rfl (fun K hK => ?_) AllReadyH.nil
    simp only [List.getElem_toArray, List.getElem_cons_succ, List.getElem_cons_zero]
    go_simp
    go_at_call 35
    refine (HO.out w6 v6 _ (HBY.out.below hqx (Nat.le_refl _)) hby6).mono ?_
    rintro e w7 ⟨rfl, hb7⟩
    have hq6 := hqx.trans (hb7.mono hqx.size)
    have hd6 : w7.there (w.heap.size + 1) 0 32 := there_below HY.out p1 hq6
    clear hby6 hb7 hqx
    refine hK.out _ _ (there_below HY.out p1 hq6) (fun hHeld => ?_)
    clear hK K
    (try simp only [sq])
    refine wpAnyH_ready (rs := [10]) (by kernel_rfl) (by simp) ?_
    refine AllReadyH.cons rfl (fun K hK => ?_) AllReadyH.nil
    rw [if_pos (by rfl)]
    refine wp_store_mid _ _ _ rfl _ _ (List.toArray _) rfl rfl ?_ ?_ (all_oneCell_toArray hone) ?_
    · first | assumption | (simp only [List.size_toArray, hlen]; assumption)
    · first | assumption | (simp only [List.size_toArray, hlen]; assumption) | (simp only [List.size_toArray, *])
    simp only [Act.put, List.setIfInBounds_toArray]
    refine hK.out _ _ (World.there_setCells hd6 _ _ _) (fun hHeld => ?_)
    clear hK K
    refine wpAnyH_ready (rs := [11]) (by kernel_rfl) (by simp) ?_
    refine AllReadyH.cons rfl (fun K hK => ?_) AllReadyH.nil
    simp only [List.getElem_toArray, List.getElem_cons_succ, List.getElem_cons_zero]
    go_simp
    refine hK.out _ _ (by assumption) (fun hHeld => ?_)
    clear hK K
    refine wpAnyH_done (by kernel_rfl) ?_ _
    refine NoPanic.normal ?_
    refine (‹∀ (a : Act) (w : World), Code.wp Tryd.prog Code.ret _ a w → _›) _ _ ?_
    apply wp_ret
    refine bodyPost_ret (results_cell_slot Tryd.results42 _ _ (w.heap.size + 1) (M.map byt) _ rfl _ rfl (World.rangeAt_setCells_same _ _ _ _ (by rw [hlen]; exact hd6)) Tryd.underlying28 rfl (by rw [hlen]; exact hsz)) rfl ⟨rfl, ?_⟩
    exact (HW.out.trans (hq6.mono HW.out.size)).trans (setCells_below _ (by omega) _ _ _)
end Go.Proofs.YteekdhcffiaaaaaDoor
