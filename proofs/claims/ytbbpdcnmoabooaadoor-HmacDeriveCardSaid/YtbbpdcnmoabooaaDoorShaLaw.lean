/-
  What the statements of stage 1 call besides: 'short', 'awake'; two equal tags.
-/
import Derived.Test.YtbbpdcnmoabooaaDoorShaOf
import Derived.Test.YtbbpdcnmoabooaaDoorShaRefSha
import Derived.Test.YtbbpdcnmoabooaaDoorShaAbc
import Derived.Stop.BytesEq
import Derived.Lib.SlBytesConst
namespace Go.Proofs.YtbbpdcnmoabooaaDoor
open Go Go.RowKit Sh Leaf

theorem short_any (A : Option Addr) (n c : Nat) (hc : n ≤ c) (hn : n ≤ maxLen) (w : World) : Calls Tryd.prog 12 #[.slice A n c] w fun e w' => e = .returned (.slice A (min n 700) c) ∧ w = w' := by
  unfold maxLen at hn
  by_cases h : n ≤ 700
  · have hs := fun W => run_cut_to A n c n hc W
    rw [show min n 700 = n by omega]
    go_enter Tryd.func12, Tryd.ntmps12
    go_wp2
    go_ret
    exact ⟨rfl, rfl⟩
  · have hs := fun W => run_cut_to A n c 700 (by omega) W
    rw [show min n 700 = 700 by omega]
    go_enter Tryd.func12, Tryd.ntmps12
    go_wp2
    go_ret
    exact ⟨rfl, rfl⟩

theorem cell_byt (x : B8) : Extern.Stop.cell (UInt8.ofBitVec x) = byt x := by
  unfold Extern.Stop.cell byt bv
  rfl
theorem tag_eql (l : List B8) (hl : l.length = 32) (W : World) : (binOp .eql 26 (tagv l) (tagv l)).run Tryd.prog W = .ok (.bool true) W := by
  have h := run_eql_bytes (P := Tryd.prog) W 26 5 32 Tryd.underlying26 Tryd.underlying5 (fun W => run_sizeOf_one (by kernel_rfl) W) (l.map UInt8.ofBitVec) (l.map UInt8.ofBitVec) (by simp [hl]) (by simp [hl])
  have e : (l.map UInt8.ofBitVec).map Extern.Stop.cell = l.map byt := by rw [List.map_map]; exact List.map_congr_left fun x _ => cell_byt x
  rw [e] at h
  rw [h]
  simp

theorem run_field_row {P : Program} {t : TypeId} {fs : Array Field} (ht : P.underlying t = some (.struct fs)) (i : Nat) (f : Field) (hf : fs[i]? = some f) {n : Nat} {e : TypeId} (hu : P.underlying f.type = some (.array n e)) {m : Nat} (hc : (P.info? f.type).map (·.size) = some m) (cs : Array Value) (W : World) :
    (Instr.field t (.agg cs) i).run P W = .ok (.agg (cs.extract f.offset (f.offset + m))) W := by
  have hagg : (isAgg f.type).run P W = .ok true W := by
    unfold isAgg
    rw [Sem.run_bind, run_underlying hu W]
    rfl
  have hs : (sizeOf f.type).run P W = .ok m W := by
    cases hq : P.info? f.type with
    | none => simp [hq] at hc
    | some i => simp [hq] at hc; simp [sizeOf, typeInfo, hq, hc]
  have ha : (asAgg (.agg cs)).run P W = .ok cs W := rfl
  simp [Instr.field, run_underlying ht, hf, Go.part, ha, hagg, hs]
def abc : List B8 := [97, 98, 99]
theorem abc_at (j : Nat) (n : Nat) (h : ((sha abc).map (·.toNat))[j]? = some n) : ∃ x, (sha abc)[j]? = some x ∧ bv x = (n : Int) := by
  rw [List.getElem?_map] at h
  cases hx : (sha abc)[j]? with
  | none => rw [hx] at h; cases h
  | some x =>
    rw [hx] at h
    have h' : x.toNat = n := by simpa using h
    exact ⟨x, rfl, by unfold bv; omega⟩

theorem abc_bytes (w : World) (fr : Nat × Nat) : Bytes (w.alloc (.cells #[.int .u8 97, .int .u8 98, .int .u8 99] 5 fr)) (fun _ => True) (.slice (some ⟨w.heap.size, 0, none⟩) 3 3) abc := by
  refine ⟨some ⟨w.heap.size, 0, none⟩, 3, rfl, by simp [abc], by simp [maxLen], fun h => (by cases h), fun _ => ⟨w.heap.size, 0, rfl, trivial, fun j x hj => ?_⟩⟩
  rw [World.cell?_alloc_mark, Nat.zero_add]
  have e : (abc.map byt).toArray = #[.int .u8 97, .int .u8 98, .int .u8 99] := by
    have h1 : bv 97 = 97 := by unfold bv; rfl
    have h2 : bv 98 = 98 := by unfold bv; rfl
    have h3 : bv 99 = 99 := by unfold bv; rfl
    simp only [abc, List.map_cons, List.map_nil, byt, h1, h2, h3]
  rw [← e]
  simp [hj]

set_option maxHeartbeats 2000000 in
theorem awake (w : World) (hT : Tables w) : Calls Tryd.prog 15 #[] w fun e w' => e = .returned (.bool true) ∧ Below w.heap.size w w' := by
  have kc := fun (w : World) (C : Array Value) (n c : Nat) => Lib.run_convert_bytes_const (P := Tryd.prog) w 22 5 C n c Tryd.underlying22 Tryd.underlying5
  have hb := abc_bytes w (3, 3 + 1)
  have hT1 : ∀ o, Tables (w.alloc o) := fun o => hT.below (Nat.le_refl _) ((Below.refl _ _).alloc (Nat.le_refl _) _)
  go_enter Tryd.func15, Tryd.ntmps15
  go_wp2_with fail
  refine (of_ _ abc _ _ hb (hT1 _) (by simp [abc])).mono ?_
  rintro e w1 ⟨rfl, hb1⟩
  have hT2 : Tables w1 := (hT1 _).below (Nat.le_refl _) hb1
  have hw1 : Below w.heap.size w w1 := ((Below.refl _ _).alloc (Nat.le_refl _) _).trans (hb1.mono (by simp))
  have hdl : (sha abc).length = 32 := digest_length _
  have HL := Lib.hid hdl
  have HZ : Hid ((Tryd.prog.info? 26).map (·.size) = some 32) := Lib.hid (by kernel_rfl)
  have hs1 : w.heap.size < w1.heap.size := by have := hb1.size; simp at this; omega
  have hT3 : ∀ o, Tables (w1.alloc o) := fun o => hT2.below (Nat.le_refl _) ((Below.refl _ _).alloc (Nat.le_refl _) _)
  have k0 : ∀ cs, Whole (w1.alloc (.cells cs 26)) w1.heap.size 26 cs := fun cs => Whole.here _ _ _
  have cl : ∀ (j n : Nat) (z : Int), (n : Int) = z → ((sha abc).map (·.toNat))[j]? = some n → ∀ cs, ((w1.alloc (.cells cs 26)).setRow w1.heap.size ((sha abc).map byt).toArray).cell? ⟨w1.heap.size, j, none⟩ = some (.int .u8 z) := by
    intro j n z hz hj cs
    subst hz
    obtain ⟨x, hx, hn⟩ := abc_at j n hj
    rw [((k0 cs).setRow _).cell]
    have hm : ((sha abc).map byt)[j]? = some (byt x) := by rw [List.getElem?_map, hx]; rfl
    rw [List.getElem?_toArray, hm, byt, hn]
  have c0 := cl 0 186 186 rfl (by unfold abc; rw [sha_abc]; rfl)
  have c1 := cl 1 120 120 rfl (by unfold abc; rw [sha_abc]; rfl)
  have c31 := cl 31 173 173 rfl (by unfold abc; rw [sha_abc]; rfl)
  have hT4 : ∀ cs, Tables ((w1.alloc (.cells cs 26)).setRow w1.heap.size ((sha abc).map byt).toArray) := fun cs => hT2.below (Nat.le_refl _) (below_setRow ((Below.refl _ _).alloc (Nat.le_refl _) _) (Nat.le_refl _) _)
  clear hdl hb1 hT1 hb hT cl hT3 hT2 kc
  go_wp2_with (with_reducible refine wpList_store_row rfl 26 _ _ rfl w1.heap.size _ rfl rfl _ _ (k0 _).eq ?_ ?_ ?_ ?_)
  case refine_1 => rw [HZ.out]; simp [HL.out]
  case refine_2 => simp [HL.out]
  case refine_3 => exact all_oneCell_toArray (byt_one _)
  have hw2 : ∀ cs, Below w.heap.size w ((w1.alloc (.cells cs 26)).setRow w1.heap.size ((sha abc).map byt).toArray) := fun cs => below_setRow (hw1.alloc hw1.size _) (by omega) _
  have hs2 : ∀ cs, w.heap.size ≤ ((w1.alloc (.cells cs 26)).setRow w1.heap.size ((sha abc).map byt).toArray).heap.size := fun cs => (hw2 cs).size
  refine (new _ (hT4 _)).mono ?_
  rintro e w2 ⟨rfl, hb2⟩
  have hw3 := (hw2 _).trans (hb2.mono (hs2 _))
  clear hw2 hs2 hT4 c0 c1 c31 k0 hb2 HL HZ hs1 hw1
  have hv : u (init.at 0) = .int .u32 1779033703 := by
    have : iv (init.at 0) = 1779033703 := by unfold iv; rfl
    rw [u, this]
  have hi : ∀ W, (Instr.index 32 (.agg (stv init)) (.int .i64 0)).run Tryd.prog W = .ok (.int .u32 1779033703) W := fun W => by
    rw [← hv]
    exact run_index_agg (P := Tryd.prog) (t := 32) (e := 31) (n := 8) Tryd.underlying32 Tryd.underlying31 rfl (by kernel_rfl) (stv init) 0 (u (init.at 0)) (by omega) (by rw [stv_wrow]; exact wrow_get 8 _ 0 (by omega)) W
  clear hv
  have hf : ∀ W, (Instr.field 34 (.agg (hashv init (.slice none 0 0) 0)) 0).run Tryd.prog W = .ok (.agg (stv init)) W := fun W =>
    run_field_row Tryd.underlying34 0 _ rfl Tryd.underlying32 (m := 8) (by kernel_rfl) (hashv init (.slice none 0 0) 0) W
  go_wp2
  go_ret
  exact ⟨rfl, hw3⟩
end Go.Proofs.YtbbpdcnmoabooaaDoor
