/-
  KSof
  KNm
  PrdDesc
  PrdEq
  PrdKind
-/
import Derived.Laws.DeepStrings4
import Derived.Laws.Concat
import Derived.Test.YtiikhjifjdpgdaaDoorPk3
import Derived.Test.YtiikhjifjdpgdaaDoorPk0
namespace Go.Proofs.YtiikhjifjdpgdaaDoor
open Go Go.RowKit Sh Leaf

def sbytes (s : ByteArray) : List B8 := s.data.toList.map UInt8.toBitVec
theorem sbytes_length (s : ByteArray) : (sbytes s).length = s.size := by simp [sbytes]
@[irreducible] def sof (l : List B8) : ByteArray := ⟨(l.map UInt8.ofBitVec).toArray⟩
theorem sof_size (l : List B8) : (sof l).size = l.length := by unfold sof; simp [ByteArray.size]
theorem sbytes_sof (l : List B8) : sbytes (sof l) = l := by
  unfold sof sbytes
  simp [List.map_map, Function.comp_def]
theorem sof_toList (l : List B8) : (sof l).toList = l.map UInt8.ofBitVec := by rw [ByteArray.toList_eq]; unfold sof; simp
theorem sof_beq (a b : List B8) : ((sof a).toList == (sof b).toList) = decide (a = b) := by
  rw [sof_toList, sof_toList]
  by_cases h : a = b
  · subst h; simp
  · have : ¬ a.map UInt8.ofBitVec = b.map UInt8.ofBitVec := fun e => h (by
      have := congrArg (List.map UInt8.toBitVec) e
      simpa [List.map_map, Function.comp_def] using this)
    rw [decide_eq_false h]
    simpa using this
theorem sof_get (l : List B8) (k : Nat) (h : k < (sof l).size) : (((sof l)[k]'h).toNat : Int) = bv (l.getD k 0) := by
  have hk : k < l.length := by rwa [sof_size] at h
  have e : ((sof l)[k]'h) = UInt8.ofBitVec (l.getD k 0) := by
    have h1 : (sof l).data[k]? = some ((sof l)[k]'h) := by
      rw [Array.getElem?_eq_getElem h]; rfl
    have h2 : (sof l).data[k]? = some (UInt8.ofBitVec (l.getD k 0)) := by
      unfold sof
      simp [List.getD_eq_getElem?_getD, hk]
    rw [h2] at h1
    exact (Option.some.inj h1).symm
  rw [e]
  unfold bv
  rfl
theorem run_index_sof {P : Program} (w : World) (t : TypeId) (l : List B8) (q : IntKind) (z : Int) (k : Nat) (h : P.underlying t = some .string) (hz : z = (k : Int)) (hk : k < l.length) :
    (Instr.index t (.string (sof l)) (.int q z)).run P w = .ok (byt (l.getD k 0)) w := by
  subst hz
  have hi : 0 ≤ (k : Int) ∧ (k : Int) < ((sof l).size : Int) := ⟨by omega, by rw [sof_size]; omega⟩
  rw [run_index_string w t _ q _ h, dif_pos hi]
  have := sof_get l k (by rw [sof_size]; exact hk)
  simp only [Int.toNat_natCast]
  rw [this]
end Go.Proofs.YtiikhjifjdpgdaaDoor
namespace Go.Proofs.YtiikhjifjdpgdaaDoor
open Go Go.RowKit Sh Leaf

theorem nmok_bad {l : List B8} {k : Nat} (h : k < l.length) (hx : ¬ (97 ≤ (l.getD k 0).toNat ∧ (l.getD k 0).toNat ≤ 122)) : decide (nmok l) = false := by
  refine decide_eq_false fun hn => hx ?_
  rw [List.getD_eq_getElem?_getD, List.getElem?_eq_getElem h]
  exact hn.2.2 _ (List.getElem_mem h)
end Go.Proofs.YtiikhjifjdpgdaaDoor
namespace Go.Proofs.YtiikhjifjdpgdaaDoor
open Go Go.RowKit Sh Leaf

@[irreducible] def pv (p : Prd) : Value := .agg #[.int .i64 p.kind, .int .u64 (p.mask : Int), .int .i64 p.lo, .int .i64 p.hi, .string (sof p.name), .int .i64 p.num]
@[irreducible] def dsv (k : Int) : Value :=
  .agg #[.string (sof (wd k)), .int .i64 (if k = 1 ∨ k = 2 ∨ k = 3 then 1 else if k = 4 ∨ k = 5 then 2 else if k = 6 then 3 else if k = 7 then 4 else 0),
    .int .i64 (if k = 1 then 63 else if k = 2 then 31 else if k = 3 then 6 else if k = 4 then 67108864 else if k = 5 then 1439 else if k = 6 then 16 else if k = 7 then 1000000 else 0), .bool (decide (k = 5))]
theorem sof_zone : sof (wd 1) = { data := #[122, 111, 110, 101] } := by unfold sof; rfl
theorem sof_line : sof (wd 2) = { data := #[108, 105, 110, 101] } := by unfold sof; rfl
theorem sof_days : sof (wd 3) = { data := #[100, 97, 121, 115] } := by unfold sof; rfl
theorem sof_time : sof (wd 4) = { data := #[116, 105, 109, 101] } := by unfold sof; rfl
theorem sof_daily : sof (wd 5) = { data := #[100, 97, 105, 108, 121] } := by unfold sof; rfl
theorem sof_holder : sof (wd 6) = { data := #[104, 111, 108, 100, 101, 114] } := by unfold sof; rfl
theorem sof_rides : sof (wd 7) = { data := #[114, 105, 100, 101, 115] } := by unfold sof; rfl
theorem sof_none : sof [] = { data := #[] } := by unfold sof; rfl
theorem dsv_1 : dsv 1 = .agg #[.string (sof (wd 1)), .int .i64 1, .int .i64 63, .bool false] := by unfold dsv; rfl
theorem dsv_2 : dsv 2 = .agg #[.string (sof (wd 2)), .int .i64 1, .int .i64 31, .bool false] := by unfold dsv; rfl
theorem dsv_3 : dsv 3 = .agg #[.string (sof (wd 3)), .int .i64 1, .int .i64 6, .bool false] := by unfold dsv; rfl
theorem dsv_4 : dsv 4 = .agg #[.string (sof (wd 4)), .int .i64 2, .int .i64 67108864, .bool false] := by unfold dsv; rfl
theorem dsv_5 : dsv 5 = .agg #[.string (sof (wd 5)), .int .i64 2, .int .i64 1439, .bool true] := by unfold dsv; rfl
theorem dsv_6 : dsv 6 = .agg #[.string (sof (wd 6)), .int .i64 3, .int .i64 16, .bool false] := by unfold dsv; rfl
theorem dsv_7 : dsv 7 = .agg #[.string (sof (wd 7)), .int .i64 4, .int .i64 1000000, .bool false] := by unfold dsv; rfl
theorem dsv_no {k : Int} (h1 : k ≠ 1) (h2 : k ≠ 2) (h3 : k ≠ 3) (h4 : k ≠ 4) (h5 : k ≠ 5) (h6 : k ≠ 6) (h7 : k ≠ 7) : dsv k = .agg #[.string (sof []), .int .i64 0, .int .i64 0, .bool false] := by
  unfold dsv wd; simp [h1, h2, h3, h4, h5, h6, h7]

theorem describe (k : Int) (w : World) : Calls Tryd.prog 130 #[.int .i64 k] w fun e w' => e = .returned (dsv k) ∧ Below w.heap.size w w' := by
  by_cases h1 : k = 1
  · subst h1
    rw [dsv_1, sof_zone]
    go_enter Tryd.func130, Tryd.ntmps130
    go_wp2
    exact bodyPost_ret (results_cell_row Tryd.results130 _ _ w.heap.size _ _ _ _ rfl (Whole.here _ _ _).eq Tryd.underlying188 rfl (by kernel_rfl)) rfl ⟨rfl, (Below.refl _ _).alloc (Nat.le_refl _) _⟩
  by_cases h2 : k = 2
  · subst h2
    rw [dsv_2, sof_line]
    go_enter Tryd.func130, Tryd.ntmps130
    go_wp2
    exact bodyPost_ret (results_cell_row Tryd.results130 _ _ w.heap.size _ _ _ _ rfl (Whole.here _ _ _).eq Tryd.underlying188 rfl (by kernel_rfl)) rfl ⟨rfl, (Below.refl _ _).alloc (Nat.le_refl _) _⟩
  by_cases h3 : k = 3
  · subst h3
    rw [dsv_3, sof_days]
    go_enter Tryd.func130, Tryd.ntmps130
    go_wp2
    exact bodyPost_ret (results_cell_row Tryd.results130 _ _ w.heap.size _ _ _ _ rfl (Whole.here _ _ _).eq Tryd.underlying188 rfl (by kernel_rfl)) rfl ⟨rfl, (Below.refl _ _).alloc (Nat.le_refl _) _⟩
  by_cases h4 : k = 4
  · subst h4
    rw [dsv_4, sof_time]
    go_enter Tryd.func130, Tryd.ntmps130
    go_wp2
    exact bodyPost_ret (results_cell_row Tryd.results130 _ _ w.heap.size _ _ _ _ rfl (Whole.here _ _ _).eq Tryd.underlying188 rfl (by kernel_rfl)) rfl ⟨rfl, (Below.refl _ _).alloc (Nat.le_refl _) _⟩
  by_cases h5 : k = 5
  · subst h5
    rw [dsv_5, sof_daily]
    go_enter Tryd.func130, Tryd.ntmps130
    go_wp2
    exact bodyPost_ret (results_cell_row Tryd.results130 _ _ w.heap.size _ _ _ _ rfl (Whole.here _ _ _).eq Tryd.underlying188 rfl (by kernel_rfl)) rfl ⟨rfl, (Below.refl _ _).alloc (Nat.le_refl _) _⟩
  by_cases h6 : k = 6
  · subst h6
    rw [dsv_6, sof_holder]
    go_enter Tryd.func130, Tryd.ntmps130
    go_wp2
    exact bodyPost_ret (results_cell_row Tryd.results130 _ _ w.heap.size _ _ _ _ rfl (Whole.here _ _ _).eq Tryd.underlying188 rfl (by kernel_rfl)) rfl ⟨rfl, (Below.refl _ _).alloc (Nat.le_refl _) _⟩
  by_cases h7 : k = 7
  · subst h7
    rw [dsv_7, sof_rides]
    go_enter Tryd.func130, Tryd.ntmps130
    go_wp2
    exact bodyPost_ret (results_cell_row Tryd.results130 _ _ w.heap.size _ _ _ _ rfl (Whole.here _ _ _).eq Tryd.underlying188 rfl (by kernel_rfl)) rfl ⟨rfl, (Below.refl _ _).alloc (Nat.le_refl _) _⟩
  rw [dsv_no h1 h2 h3 h4 h5 h6 h7, sof_none]
  go_enter Tryd.func130, Tryd.ntmps130
  go_wp2
  exact bodyPost_ret (results_cell_row Tryd.results130 _ _ w.heap.size _ _ _ _ rfl (Whole.here _ _ _).eq Tryd.underlying188 rfl (by kernel_rfl)) rfl ⟨rfl, (Below.refl _ _).alloc (Nat.le_refl _) _⟩
set_option maxHeartbeats 1000000 in
theorem is_name (l : List B8) (w : World) (hl : l.length ≤ 9223372036854775807) :
    Calls Tryd.prog 143 #[.string (sof l), .int .i64 16] w fun e w' => e = .returned (.bool (decide (nmok l))) ∧ w = w' := by
  have hsz := sof_size l
  by_cases h1 : l.length < 1
  · have hd : decide (nmok l) = false := decide_eq_false fun h => by have := h.1; omega
    have HD := Lib.hid hd
    clear hd
    obtain rfl : l = [] := List.eq_nil_of_length_eq_zero (by omega)
    go_enter Tryd.func143, Tryd.ntmps143
    go_wp2
    go_ret
    exact ⟨by rw [HD.out]; rfl, rfl⟩
  by_cases h2 : 16 < l.length
  · have hd : decide (nmok l) = false := decide_eq_false fun h => by have := h.2.1; omega
    have HD := Lib.hid hd
    clear hd
    have hb0 : ((l.length : Int) == 0) = false := by simp; intro e; subst e; simp at h2
    have h16 : (16 : Int) < (l.length : Int) := by omega
    go_enter Tryd.func143, Tryd.ntmps143
    go_wp2
    go_ret
    exact ⟨by rw [HD.out]; rfl, rfl⟩
  have hb0 : ((l.length : Int) == 0) = false := by simp; intro e; subst e; simp at h1
  have h16 : (l.length : Int) ≤ 16 := by omega
  have hg : ∀ W (k : Nat), k < l.length → (Instr.index 9 (.string (sof l)) (.int .i64 (k : Int))).run Tryd.prog W = .ok (byt (l.getD k 0)) W := fun W k hk => run_index_sof W 9 l .i64 _ k Tryd.underlying9 rfl hk
  go_enter Tryd.func143, Tryd.ntmps143
  go_wp2
  go_loopw [5, 17] (fun _ i wr => ∃ k : Nat, k ≤ l.length ∧ i = .int .i64 k ∧ (∀ j, j < k → 97 ≤ (l.getD j 0).toNat ∧ (l.getD j 0).toNat ≤ 122) ∧ w = wr) (fun _ i _ => l.length - (intOf i).toNat)
  case atStart => exact ⟨0, by omega, rfl, fun j h => by omega, rfl⟩
  case round =>
    obtain ⟨k, hk, rfl, hall, rfl⟩ := hrel
    have HA := Lib.hid hall
    clear hall
    by_cases hlt : k < l.length
    · have hix := fun W => hg W k hlt
      clear hg
      by_cases hlo : 97 ≤ (l.getD k 0).toNat
      · by_cases hhi : (l.getD k 0).toNat ≤ 122
        · have hn : ∀ j, j < k + 1 → 97 ≤ (l.getD j 0).toNat ∧ (l.getD j 0).toNat ≤ 122 := fun j hj => by
            by_cases e : j = k
            · subst e; exact ⟨hlo, hhi⟩
            · exact HA.out j (by omega)
          have HN := Lib.hid hn
          have h5 : (97 : Int) ≤ bv (l.getD k 0) := by rw [bv_toNat]; omega
          have h6 : bv (l.getD k 0) ≤ 122 := by rw [bv_toNat]; omega
          clear hn hlo hhi
          generalize l.getD k 0 = x at *
          go_wp2
          go_roundw
          case rel => exact ⟨k + 1, by omega, by go_num, HN.out, by first | rfl | trivial⟩
          case measure => simp [intOf]; omega
        · have HD := Lib.hid (nmok_bad hlt (fun h => hhi h.2))
          have h5 : (97 : Int) ≤ bv (l.getD k 0) := by rw [bv_toNat]; omega
          have h6 : (122 : Int) < bv (l.getD k 0) := by rw [bv_toNat]; omega
          clear hlo hhi
          generalize l.getD k 0 = x at *
          go_wp2
          go_ret
          exact ⟨by rw [HD.out]; rfl, rfl⟩
      · have HD := Lib.hid (nmok_bad hlt (fun h => hlo h.1))
        have h5 : bv (l.getD k 0) < 97 := by rw [bv_toNat]; omega
        clear hlo
        generalize l.getD k 0 = x at *
        go_wp2
        go_ret
        exact ⟨by rw [HD.out]; rfl, rfl⟩
    · have hd : decide (nmok l) = true := decide_eq_true ⟨by omega, by omega, fun c hc => by
        obtain ⟨j, hj, rfl⟩ := List.getElem_of_mem hc
        have := HA.out j (by omega)
        rw [List.getD_eq_getElem?_getD, List.getElem?_eq_getElem hj] at this
        exact this⟩
      have HD := Lib.hid hd
      clear hd hg
      go_wp2
      go_ret
      exact ⟨by rw [HD.out]; rfl, rfl⟩
end Go.Proofs.YtiikhjifjdpgdaaDoor
namespace Go.Proofs.YtiikhjifjdpgdaaDoor
open Go Go.RowKit Sh Leaf

theorem sof_toList_iff (a b : List B8) : (sof a).toList = (sof b).toList ↔ a = b := by
  have h := sof_beq a b
  rw [Bool.eq_iff_iff] at h
  simpa using h
theorem run_eql_prd (k m lo hi nu k' m' lo' hi' nu' : Int) (nm nm' : List B8) (w : World) :
    (binOp .eql 57 (.agg #[.int .i64 k, .int .u64 m, .int .i64 lo, .int .i64 hi, .string (sof nm), .int .i64 nu]) (.agg #[.int .i64 k', .int .u64 m', .int .i64 lo', .int .i64 hi', .string (sof nm'), .int .i64 nu'])).run Tryd.prog w
      = .ok (.bool (decide (k = k' ∧ m = m' ∧ lo = lo' ∧ hi = hi' ∧ nm = nm' ∧ nu = nu'))) w := by
  rw [run_eql_struct]
  by_cases h1 : k = k'
  · by_cases h2 : m = m'
    · by_cases h3 : lo = lo'
      · by_cases h4 : hi = hi'
        · by_cases h5 : nm = nm'
          · by_cases h6 : nu = nu'
            · simp [go_sem, h1, h2, h3, h4, h5, h6]
            · simp [go_sem, h1, h2, h3, h4, h5, h6]
          · simp [go_sem, h1, h2, h3, h4, h5, sof_toList_iff]
        · simp [go_sem, h1, h2, h3, h4]
      · simp [go_sem, h1, h2, h3]
    · simp [go_sem, h1, h2]
  · simp [go_sem, h1]
theorem run_eql_prd0 (k m lo hi nu k' m' lo' hi' nu' : Int) (nm : List B8) (w : World) :
    (binOp .eql 57 (.agg #[.int .i64 k, .int .u64 m, .int .i64 lo, .int .i64 hi, .string (sof nm), .int .i64 nu]) (.agg #[.int .i64 k', .int .u64 m', .int .i64 lo', .int .i64 hi', .string { data := #[] }, .int .i64 nu'])).run Tryd.prog w
      = .ok (.bool (decide (k = k' ∧ m = m' ∧ lo = lo' ∧ hi = hi' ∧ nm = [] ∧ nu = nu'))) w := by
  have h := run_eql_prd k m lo hi nu k' m' lo' hi' nu' nm [] w
  rw [sof_none] at h
  exact h
end Go.Proofs.YtiikhjifjdpgdaaDoor
namespace Go.Proofs.YtiikhjifjdpgdaaDoor
open Go Go.RowKit Sh Leaf

theorem dsc_fields (a b c d : Value) (W : World) : (Instr.field 188 (.agg #[a, b, c, d]) 1).run Tryd.prog W = .ok b W := run_field_one Tryd.underlying188 1 _ rfl Tryd.underlying3 rfl _ _ rfl W
end Go.Proofs.YtiikhjifjdpgdaaDoor
