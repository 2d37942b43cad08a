/-
  Package hmac: Derive; the reference's Derive.
-/
import Derived.Test.YtbbpdcnmoabooaaDoorHmacPurp
namespace Go.Proofs.YtbbpdcnmoabooaaDoor
open Go Go.RowKit Sh Leaf

/-- The derived key, or the zero key and the error's number. -/
def der (K : List B8) (s : ByteArray) (z : Int) : List B8 × Int :=
  if LabOK s then if z < 0 ∨ 281474976710656 < z then (List.replicate 32 0, 1) else (hmac K (purp s z.toNat), 0) else (List.replicate 32 0, 7)

theorem results_cell_slot {P : Program} {fn : Func} {p q : Tmp} {ty : TypeId} (h : fn.results = #[.cell p ty, .tmp q]) (tmps : Array Value) (w : World) (g : Nat) (cs : List Value) (d : TypeDesc)
    (hp : tmps.getD p undef = .pointer (some ⟨g, 0, none⟩)) (x : Value) (hq : tmps.getD q undef = x) (hg : w.rangeAt g 0 cs) (hu : P.underlying ty = some d) (hd : d.isRow = true) (hi : (P.info? ty).map (·.size) = some cs.length) :
    (results fn tmps).run P w = .ok (.tuple #[.agg cs.toArray, x]) w := by
  have hp' : tmps[p]?.getD undef = .pointer (some ⟨g, 0, none⟩) := by simpa using hp
  have hq' : tmps[q]?.getD undef = x := by simpa using hq
  simp [results, h, hp', hq', asAddr, run_loadVar_mid w g 0 ty cs d hg hu hd hi]

set_option maxRecDepth 20000 in
set_option maxHeartbeats 2000000 in
theorem derive (K : List B8) (hK : K.length = 32) (s : ByteArray) (hs : s.size ≤ 1000) (z : Int) (w : World) (hT : Tables w) :
    Calls Tryd.prog 27 #[.agg (K.map byt).toArray, .string s, .int .i64 z] w fun e w' => e = .returned (.tuple #[tagv (der K s z).1, .int .i64 (der K s z).2]) ∧ Below w.heap.size w w' := by
  have k0 : ∀ cs o, Whole ((w.alloc (.cells cs 26)).alloc o) w.heap.size 26 cs := fun cs o => (Whole.here _ _ _).alloc _
  have k1 : ∀ o cs, Whole ((w.alloc o).alloc (.cells cs 26)) (w.heap.size + 1) 26 cs := fun o cs => Whole.at_ _ _ _ _ (by simp)
  have hx : ∀ o o', Below w.heap.size w ((w.alloc o).alloc o') := fun o o' => ((Below.refl _ _).alloc (Nat.le_refl _) _).alloc (by simp) _
  have hZ : Hid ((Tryd.prog.info? 26).map (·.size) = some 32) := Lib.hid (by kernel_rfl)
  have hzr : ((List.replicate 32 (0 : B8)).map byt).toArray = #[Value.int .u8 0, Value.int .u8 0, Value.int .u8 0, Value.int .u8 0, Value.int .u8 0, Value.int .u8 0, Value.int .u8 0, Value.int .u8 0, Value.int .u8 0, Value.int .u8 0, Value.int .u8 0, Value.int .u8 0, Value.int .u8 0, Value.int .u8 0, Value.int .u8 0, Value.int .u8 0, Value.int .u8 0, Value.int .u8 0, Value.int .u8 0, Value.int .u8 0, Value.int .u8 0, Value.int .u8 0, Value.int .u8 0, Value.int .u8 0, Value.int .u8 0, Value.int .u8 0, Value.int .u8 0, Value.int .u8 0, Value.int .u8 0, Value.int .u8 0, Value.int .u8 0, Value.int .u8 0] := by
    have h0 : bv 0 = 0 := by unfold bv; rfl
    simp only [List.map_replicate, byt, h0]
    rfl
  have HZR := Lib.hid hzr
  clear hzr
  by_cases hlab : LabOK s
  rotate_left
  focus
    have hd : decide (LabOK s) = false := decide_eq_false hlab
    have hder : der K s z = (List.replicate 32 0, 7) := by unfold der; rw [if_neg hlab]
    have HD := Lib.hid hd
    rw [hder]
    clear hd hder
    go_enter Tryd.func27, Tryd.ntmps27
    go_wp2_with fail
    refine (is_label s (by omega) _).mono ?_
    rintro e w1 ⟨rfl, rfl⟩
    rw [HD.out]
    go_wp2_with (with_reducible refine wpList_store_row rfl 26 _ _ rfl (w.heap.size + 1) _ rfl rfl _ _ (k1 _ _).eq (by rw [hZ.out]; simp) (by simp) (by simp [Value.oneCell']) ?_)
    have hw0 := (k1 (Obj.cells (K.map byt).toArray 26) #[Value.int .u8 0, Value.int .u8 0, Value.int .u8 0, Value.int .u8 0, Value.int .u8 0, Value.int .u8 0, Value.int .u8 0, Value.int .u8 0, Value.int .u8 0, Value.int .u8 0, Value.int .u8 0, Value.int .u8 0, Value.int .u8 0, Value.int .u8 0, Value.int .u8 0, Value.int .u8 0, Value.int .u8 0, Value.int .u8 0, Value.int .u8 0, Value.int .u8 0, Value.int .u8 0, Value.int .u8 0, Value.int .u8 0, Value.int .u8 0, Value.int .u8 0, Value.int .u8 0, Value.int .u8 0, Value.int .u8 0, Value.int .u8 0, Value.int .u8 0, Value.int .u8 0, Value.int .u8 0]).setRow #[Value.int .u8 0, Value.int .u8 0, Value.int .u8 0, Value.int .u8 0, Value.int .u8 0, Value.int .u8 0, Value.int .u8 0, Value.int .u8 0, Value.int .u8 0, Value.int .u8 0, Value.int .u8 0, Value.int .u8 0, Value.int .u8 0, Value.int .u8 0, Value.int .u8 0, Value.int .u8 0, Value.int .u8 0, Value.int .u8 0, Value.int .u8 0, Value.int .u8 0, Value.int .u8 0, Value.int .u8 0, Value.int .u8 0, Value.int .u8 0, Value.int .u8 0, Value.int .u8 0, Value.int .u8 0, Value.int .u8 0, Value.int .u8 0, Value.int .u8 0, Value.int .u8 0, Value.int .u8 0]
    have hb0 := below_setRow (hx (Obj.cells (K.map byt).toArray 26) (Obj.cells #[Value.int .u8 0, Value.int .u8 0, Value.int .u8 0, Value.int .u8 0, Value.int .u8 0, Value.int .u8 0, Value.int .u8 0, Value.int .u8 0, Value.int .u8 0, Value.int .u8 0, Value.int .u8 0, Value.int .u8 0, Value.int .u8 0, Value.int .u8 0, Value.int .u8 0, Value.int .u8 0, Value.int .u8 0, Value.int .u8 0, Value.int .u8 0, Value.int .u8 0, Value.int .u8 0, Value.int .u8 0, Value.int .u8 0, Value.int .u8 0, Value.int .u8 0, Value.int .u8 0, Value.int .u8 0, Value.int .u8 0, Value.int .u8 0, Value.int .u8 0, Value.int .u8 0, Value.int .u8 0] 26)) (g := w.heap.size + 1) (by omega) #[Value.int .u8 0, Value.int .u8 0, Value.int .u8 0, Value.int .u8 0, Value.int .u8 0, Value.int .u8 0, Value.int .u8 0, Value.int .u8 0, Value.int .u8 0, Value.int .u8 0, Value.int .u8 0, Value.int .u8 0, Value.int .u8 0, Value.int .u8 0, Value.int .u8 0, Value.int .u8 0, Value.int .u8 0, Value.int .u8 0, Value.int .u8 0, Value.int .u8 0, Value.int .u8 0, Value.int .u8 0, Value.int .u8 0, Value.int .u8 0, Value.int .u8 0, Value.int .u8 0, Value.int .u8 0, Value.int .u8 0, Value.int .u8 0, Value.int .u8 0, Value.int .u8 0, Value.int .u8 0]
    generalize World.setRow ((w.alloc (Obj.cells (K.map byt).toArray 26)).alloc (Obj.cells #[Value.int .u8 0, Value.int .u8 0, Value.int .u8 0, Value.int .u8 0, Value.int .u8 0, Value.int .u8 0, Value.int .u8 0, Value.int .u8 0, Value.int .u8 0, Value.int .u8 0, Value.int .u8 0, Value.int .u8 0, Value.int .u8 0, Value.int .u8 0, Value.int .u8 0, Value.int .u8 0, Value.int .u8 0, Value.int .u8 0, Value.int .u8 0, Value.int .u8 0, Value.int .u8 0, Value.int .u8 0, Value.int .u8 0, Value.int .u8 0, Value.int .u8 0, Value.int .u8 0, Value.int .u8 0, Value.int .u8 0, Value.int .u8 0, Value.int .u8 0, Value.int .u8 0, Value.int .u8 0] 26)) (w.heap.size + 1) #[Value.int .u8 0, Value.int .u8 0, Value.int .u8 0, Value.int .u8 0, Value.int .u8 0, Value.int .u8 0, Value.int .u8 0, Value.int .u8 0, Value.int .u8 0, Value.int .u8 0, Value.int .u8 0, Value.int .u8 0, Value.int .u8 0, Value.int .u8 0, Value.int .u8 0, Value.int .u8 0, Value.int .u8 0, Value.int .u8 0, Value.int .u8 0, Value.int .u8 0, Value.int .u8 0, Value.int .u8 0, Value.int .u8 0, Value.int .u8 0, Value.int .u8 0, Value.int .u8 0, Value.int .u8 0, Value.int .u8 0, Value.int .u8 0, Value.int .u8 0, Value.int .u8 0, Value.int .u8 0] = W1 at hw0 hb0 ⊢
    rw [← HZR.out] at hw0
    refine bodyPost_ret (results_cell_slot Tryd.results27 _ _ (w.heap.size + 1) ((List.replicate 32 0).map byt) _ rfl _ rfl (fun j v hj => by rw [Nat.zero_add, hw0.cell, List.getElem?_toArray]; exact hj) Tryd.underlying26 rfl (by rw [hZ.out]; simp)) rfl ⟨rfl, hb0⟩
  by_cases hzz : z < 0 ∨ 281474976710656 < z
  focus
    have hd : decide (LabOK s) = true := decide_eq_true hlab
    have hder : der K s z = (List.replicate 32 0, 1) := by unfold der; rw [if_pos hlab, if_pos hzz]
    have HD := Lib.hid hd
    rw [hder]
    clear hd hder
    have hcs : z < 0 ∨ (¬ z < 0 ∧ 281474976710656 < z) := by omega
    clear hzz
    rcases hcs with hc | ⟨hc, hc2⟩
    all_goals
      go_enter Tryd.func27, Tryd.ntmps27
      go_wp2_with fail
      refine (is_label s (by omega) _).mono ?_
      rintro e w1 ⟨rfl, rfl⟩
      rw [HD.out]
      go_wp2_with (with_reducible refine wpList_store_row rfl 26 _ _ rfl (w.heap.size + 1) _ rfl rfl _ _ (k1 _ _).eq (by rw [hZ.out]; simp) (by simp) (by simp [Value.oneCell']) ?_)
      have hw0 := (k1 (Obj.cells (K.map byt).toArray 26) #[Value.int .u8 0, Value.int .u8 0, Value.int .u8 0, Value.int .u8 0, Value.int .u8 0, Value.int .u8 0, Value.int .u8 0, Value.int .u8 0, Value.int .u8 0, Value.int .u8 0, Value.int .u8 0, Value.int .u8 0, Value.int .u8 0, Value.int .u8 0, Value.int .u8 0, Value.int .u8 0, Value.int .u8 0, Value.int .u8 0, Value.int .u8 0, Value.int .u8 0, Value.int .u8 0, Value.int .u8 0, Value.int .u8 0, Value.int .u8 0, Value.int .u8 0, Value.int .u8 0, Value.int .u8 0, Value.int .u8 0, Value.int .u8 0, Value.int .u8 0, Value.int .u8 0, Value.int .u8 0]).setRow #[Value.int .u8 0, Value.int .u8 0, Value.int .u8 0, Value.int .u8 0, Value.int .u8 0, Value.int .u8 0, Value.int .u8 0, Value.int .u8 0, Value.int .u8 0, Value.int .u8 0, Value.int .u8 0, Value.int .u8 0, Value.int .u8 0, Value.int .u8 0, Value.int .u8 0, Value.int .u8 0, Value.int .u8 0, Value.int .u8 0, Value.int .u8 0, Value.int .u8 0, Value.int .u8 0, Value.int .u8 0, Value.int .u8 0, Value.int .u8 0, Value.int .u8 0, Value.int .u8 0, Value.int .u8 0, Value.int .u8 0, Value.int .u8 0, Value.int .u8 0, Value.int .u8 0, Value.int .u8 0]
      have hb0 := below_setRow (hx (Obj.cells (K.map byt).toArray 26) (Obj.cells #[Value.int .u8 0, Value.int .u8 0, Value.int .u8 0, Value.int .u8 0, Value.int .u8 0, Value.int .u8 0, Value.int .u8 0, Value.int .u8 0, Value.int .u8 0, Value.int .u8 0, Value.int .u8 0, Value.int .u8 0, Value.int .u8 0, Value.int .u8 0, Value.int .u8 0, Value.int .u8 0, Value.int .u8 0, Value.int .u8 0, Value.int .u8 0, Value.int .u8 0, Value.int .u8 0, Value.int .u8 0, Value.int .u8 0, Value.int .u8 0, Value.int .u8 0, Value.int .u8 0, Value.int .u8 0, Value.int .u8 0, Value.int .u8 0, Value.int .u8 0, Value.int .u8 0, Value.int .u8 0] 26)) (g := w.heap.size + 1) (by omega) #[Value.int .u8 0, Value.int .u8 0, Value.int .u8 0, Value.int .u8 0, Value.int .u8 0, Value.int .u8 0, Value.int .u8 0, Value.int .u8 0, Value.int .u8 0, Value.int .u8 0, Value.int .u8 0, Value.int .u8 0, Value.int .u8 0, Value.int .u8 0, Value.int .u8 0, Value.int .u8 0, Value.int .u8 0, Value.int .u8 0, Value.int .u8 0, Value.int .u8 0, Value.int .u8 0, Value.int .u8 0, Value.int .u8 0, Value.int .u8 0, Value.int .u8 0, Value.int .u8 0, Value.int .u8 0, Value.int .u8 0, Value.int .u8 0, Value.int .u8 0, Value.int .u8 0, Value.int .u8 0]
      generalize World.setRow ((w.alloc (Obj.cells (K.map byt).toArray 26)).alloc (Obj.cells #[Value.int .u8 0, Value.int .u8 0, Value.int .u8 0, Value.int .u8 0, Value.int .u8 0, Value.int .u8 0, Value.int .u8 0, Value.int .u8 0, Value.int .u8 0, Value.int .u8 0, Value.int .u8 0, Value.int .u8 0, Value.int .u8 0, Value.int .u8 0, Value.int .u8 0, Value.int .u8 0, Value.int .u8 0, Value.int .u8 0, Value.int .u8 0, Value.int .u8 0, Value.int .u8 0, Value.int .u8 0, Value.int .u8 0, Value.int .u8 0, Value.int .u8 0, Value.int .u8 0, Value.int .u8 0, Value.int .u8 0, Value.int .u8 0, Value.int .u8 0, Value.int .u8 0, Value.int .u8 0] 26)) (w.heap.size + 1) #[Value.int .u8 0, Value.int .u8 0, Value.int .u8 0, Value.int .u8 0, Value.int .u8 0, Value.int .u8 0, Value.int .u8 0, Value.int .u8 0, Value.int .u8 0, Value.int .u8 0, Value.int .u8 0, Value.int .u8 0, Value.int .u8 0, Value.int .u8 0, Value.int .u8 0, Value.int .u8 0, Value.int .u8 0, Value.int .u8 0, Value.int .u8 0, Value.int .u8 0, Value.int .u8 0, Value.int .u8 0, Value.int .u8 0, Value.int .u8 0, Value.int .u8 0, Value.int .u8 0, Value.int .u8 0, Value.int .u8 0, Value.int .u8 0, Value.int .u8 0, Value.int .u8 0, Value.int .u8 0] = W1 at hw0 hb0 ⊢
      rw [← HZR.out] at hw0
      refine bodyPost_ret (results_cell_slot Tryd.results27 _ _ (w.heap.size + 1) ((List.replicate 32 0).map byt) _ rfl _ rfl (fun j v hj => by rw [Nat.zero_add, hw0.cell, List.getElem?_toArray]; exact hj) Tryd.underlying26 rfl (by rw [hZ.out]; simp)) rfl ⟨rfl, hb0⟩
  have hd : decide (LabOK s) = true := decide_eq_true hlab
  obtain ⟨n, rfl⟩ : ∃ n : Nat, z = (n : Int) := ⟨z.toNat, by omega⟩
  have hder : der K s (n : Int) = (hmac K (purp s n), 0) := by unfold der; rw [if_pos hlab, if_neg hzz]; rfl
  have HD := Lib.hid hd
  obtain ⟨M, hM⟩ : ∃ M, M = hmac K (purp s n) := ⟨_, rfl⟩
  rw [hder, ← hM]
  have ml : M.length = 32 := by rw [hM]; exact sha_length _
  have HM := Lib.hid hM
  clear hM
  have hn : n ≤ 281474976710656 := by omega
  clear hd hder hzz
  go_enter Tryd.func27, Tryd.ntmps27
  go_wp2_with fail
  refine (is_label s (by omega) _).mono ?_
  rintro e w1 ⟨rfl, rfl⟩
  rw [HD.out]
  go_wp2
  have q0 := k0 (K.map byt).toArray (Obj.cells #[Value.int .u8 0, Value.int .u8 0, Value.int .u8 0, Value.int .u8 0, Value.int .u8 0, Value.int .u8 0, Value.int .u8 0, Value.int .u8 0, Value.int .u8 0, Value.int .u8 0, Value.int .u8 0, Value.int .u8 0, Value.int .u8 0, Value.int .u8 0, Value.int .u8 0, Value.int .u8 0, Value.int .u8 0, Value.int .u8 0, Value.int .u8 0, Value.int .u8 0, Value.int .u8 0, Value.int .u8 0, Value.int .u8 0, Value.int .u8 0, Value.int .u8 0, Value.int .u8 0, Value.int .u8 0, Value.int .u8 0, Value.int .u8 0, Value.int .u8 0, Value.int .u8 0, Value.int .u8 0] 26)
  have q1 := k1 (Obj.cells (K.map byt).toArray 26) #[Value.int .u8 0, Value.int .u8 0, Value.int .u8 0, Value.int .u8 0, Value.int .u8 0, Value.int .u8 0, Value.int .u8 0, Value.int .u8 0, Value.int .u8 0, Value.int .u8 0, Value.int .u8 0, Value.int .u8 0, Value.int .u8 0, Value.int .u8 0, Value.int .u8 0, Value.int .u8 0, Value.int .u8 0, Value.int .u8 0, Value.int .u8 0, Value.int .u8 0, Value.int .u8 0, Value.int .u8 0, Value.int .u8 0, Value.int .u8 0, Value.int .u8 0, Value.int .u8 0, Value.int .u8 0, Value.int .u8 0, Value.int .u8 0, Value.int .u8 0, Value.int .u8 0, Value.int .u8 0]
  have q2 := hx (Obj.cells (K.map byt).toArray 26) (Obj.cells #[Value.int .u8 0, Value.int .u8 0, Value.int .u8 0, Value.int .u8 0, Value.int .u8 0, Value.int .u8 0, Value.int .u8 0, Value.int .u8 0, Value.int .u8 0, Value.int .u8 0, Value.int .u8 0, Value.int .u8 0, Value.int .u8 0, Value.int .u8 0, Value.int .u8 0, Value.int .u8 0, Value.int .u8 0, Value.int .u8 0, Value.int .u8 0, Value.int .u8 0, Value.int .u8 0, Value.int .u8 0, Value.int .u8 0, Value.int .u8 0, Value.int .u8 0, Value.int .u8 0, Value.int .u8 0, Value.int .u8 0, Value.int .u8 0, Value.int .u8 0, Value.int .u8 0, Value.int .u8 0] 26)
  generalize (w.alloc (Obj.cells (K.map byt).toArray 26)).alloc (Obj.cells #[Value.int .u8 0, Value.int .u8 0, Value.int .u8 0, Value.int .u8 0, Value.int .u8 0, Value.int .u8 0, Value.int .u8 0, Value.int .u8 0, Value.int .u8 0, Value.int .u8 0, Value.int .u8 0, Value.int .u8 0, Value.int .u8 0, Value.int .u8 0, Value.int .u8 0, Value.int .u8 0, Value.int .u8 0, Value.int .u8 0, Value.int .u8 0, Value.int .u8 0, Value.int .u8 0, Value.int .u8 0, Value.int .u8 0, Value.int .u8 0, Value.int .u8 0, Value.int .u8 0, Value.int .u8 0, Value.int .u8 0, Value.int .u8 0, Value.int .u8 0, Value.int .u8 0, Value.int .u8 0] 26) = W1 at q0 q1 q2 ⊢
  have hby := q0.bytes (by omega)
  rw [hK] at hby
  have HBY := Lib.hid hby
  have p1 : w.heap.size + 1 < W1.heap.size := q1.lt
  have HY : Hid (W1.there (w.heap.size + 1) 0 32) := Lib.hid (q1.there 0 32 (by simp))
  have hd0 : W1.drew.there (w.heap.size + 1) 0 32 := HY.out
  have HT : Hid (Tables W1) := Lib.hid (hT.below (Nat.le_refl _) q2)
  have HW := Lib.hid q2
  have hst := fun g W => run_sliceAt_whole (P := Tryd.prog) (t := 26) (e := 5) (n := 32) Tryd.underlying26 (by kernel_rfl) g W
  have hpl := purp_length s n
  have hof1 : ∀ W v Q, Bytes W (fun b => b = w.heap.size) (.slice (some ⟨w.heap.size, 0, none⟩) 32 32) K → Bytes W Q v (purp s n) → Tables W → Calls Tryd.prog 21 #[.slice (some ⟨w.heap.size, 0, none⟩) 32 32, v] W fun e w' => e = .returned (tagv M) ∧ Below W.heap.size W w' := fun W v Q h1 h2 h3 => by
    rw [HM.out]
    exact hof (.slice (some ⟨w.heap.size, 0, none⟩) 32 32) v K (purp s n) (fun b => b = w.heap.size) Q W h1 h2 h3 (by omega) (by omega)
  have HO := Lib.hid hof1
  have hone := byt_one M
  have hlen : (M.map byt).length = 32 := by rw [List.length_map]; exact ml
  have hsz : (Tryd.prog.info? 26).map (·.size) = some 32 := hZ.out
  clear hof1 q0 q1 q2 hby hT k0 k1 hx HZR
  go_region_held3 (fun w' => w'.there (w.heap.size + 1) 0 32)
    (first | (with_reducible assumption) | (exact World.there_setCells (by assumption) _ _ _))
    (first
      | (go_at_call 21; refine (HO.out _ _ _ (HBY.out.below hq5 (Nat.le_refl _)) hv5 (HT.out.below (Nat.le_refl _) hq5)).mono ?_; rintro e w6 ⟨rfl, hb6⟩; have hq6 := hq5.trans (hb6.mono hq5.size); have hd6 : w6.there (w.heap.size + 1) 0 32 := there_below HY.out p1 hq6)
      | (go_at_call 44; refine (purpose s (by omega) n W1.drew).mono ?_; rintro e w5 ⟨v5, rfl, hv5, hb5⟩; have hq5 : Below W1.heap.size W1 w5 := ((Below.refl _ _).drew).trans hb5; have hd5 : w5.there (w.heap.size + 1) 0 32 := there_below HY.out p1 hq5))
  refine (‹∀ (a : Act) (w : World), Code.wp Tryd.prog Code.ret _ a w → _›) _ _ ?_
  apply wp_ret
  refine bodyPost_ret (results_cell_slot Tryd.results27 _ _ (w.heap.size + 1) (M.map byt) _ rfl _ rfl (World.rangeAt_setCells_same _ _ _ _ (by rw [hlen]; exact hd6)) Tryd.underlying26 rfl (by rw [hlen]; exact hsz)) rfl ⟨rfl, ?_⟩
  exact (HW.out.trans (hq6.mono HW.out.size)).trans (setCells_below _ (by omega) _ _ _)
end Go.Proofs.YtbbpdcnmoabooaaDoor
