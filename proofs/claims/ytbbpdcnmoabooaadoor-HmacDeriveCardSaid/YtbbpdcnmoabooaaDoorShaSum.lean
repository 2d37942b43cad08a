/-
  Package sha: 'New', 'Sum', 'Of' by their contracts.
-/
import Derived.Test.YtbbpdcnmoabooaaDoorShaWrite
import Derived.Deep.RegionHeld3
import Derived.Deep.RegionWith
namespace Go.Proofs.YtbbpdcnmoabooaaDoor
open Go Go.RowKit Sh Leaf

/-- The two tables of package sha lie in their variables. -/
def Tables (w : World) : Prop := Consts w ∧ ∀ j, j < 8 → w.cell? ⟨0, j, none⟩ = some (u (init.at j))
theorem Tables.lt {w : World} (h : Tables w) : 0 < w.heap.size := block_lt_of_cell (h.2 0 (by omega))
theorem Tables.below {B : Nat} {w w' : World} (h : Tables w) (hB : w.heap.size ≤ B) (hb : Below B w w') : Tables w' :=
  ⟨h.1.below hB hb, fun j hj => (hb.cell (p := ⟨0, j, none⟩) (by have := h.lt; show 0 < B; omega)).trans (h.2 j hj)⟩
theorem Tables.range {w : World} (h : Tables w) : w.rangeAt 0 0 (stl init) := by
  intro j v hv
  have hj : j < 8 := by have := (List.getElem?_eq_some_iff.1 hv).1; simpa using this
  rw [Nat.zero_add, h.2 j hj]
  rw [← hv]
  have : (stl init) = (List.range 8).map fun j => u (init.at j) := rfl
  rw [this]
  simp [hj]

theorem new (w : World) (hT : Tables w) : Calls Tryd.prog 17 #[] w fun e w' => e = .returned (.agg (hashv init (.slice none 0 0) 0)) ∧ Below w.heap.size w w' := by
  have hr : (w.alloc (.cells #[.int .u32 0, .int .u32 0, .int .u32 0, .int .u32 0, .int .u32 0, .int .u32 0, .int .u32 0, .int .u32 0, .slice none 0 0, .int .i64 0] 34)).rangeAt 0 0 (stl init) := World.rangeAt_alloc hT.range _
  go_enter Tryd.func17, Tryd.ntmps17
  go_wp2_with (first
    | (with_reducible refine wpList_load_mid rfl 32 _ rfl 0 0 rfl _ _ hr Tryd.underlying32 rfl (by kernel_rfl) ?_)
    | (with_reducible refine wpList_build_as rfl 34 _ rfl (hashv init (.slice none 0 0) 0) (by kernel_rfl) ?_)
    | (with_reducible refine wpList_store_row rfl 34 _ _ rfl w.heap.size _ rfl rfl _ _ (Whole.here _ _ _).eq ?_ ?_ ?_ ?_))
  · kernel_rfl
  · rfl
  · simp [Value.oneCell']
  · rw [World.setRow_alloc_new]
    refine bodyPost_ret (results_cell_row Tryd.results17 _ _ w.heap.size _ _ _ _ rfl (Whole.here _ _ _).eq Tryd.underlying34 rfl (by kernel_rfl)) rfl ⟨rfl, (Below.refl _ _).alloc (Nat.le_refl _) _⟩

theorem appendWord (v : Value) (xs : List B8) (x : W) (base : Nat) (w : World) (hown : w.ownsRow base 5 1 v xs.length (xs.map byt)) (hbase : base ≤ w.heap.size) (hx : xs.length ≤ 1000) :
    Calls Tryd.prog 39 #[v, .int .u64 (iv x), .int .i64 4] w fun e w' => ∃ v', e = .returned v' ∧ w'.ownsRow base 5 1 v' (xs ++ beBytes x.toNat 4).length ((xs ++ beBytes x.toNat 4).map byt) ∧ Below base w w' := by
  have e : iv x = ((x.toNat : Nat) : Int) := by unfold iv; rfl
  rw [e]
  exact (appendNumber v xs x.toNat 4 base w hown hbase (by omega) (by omega)).mono fun e w' ⟨v', h1, h2, h3, _⟩ => ⟨v', h1, h2, h3⟩

/-- 'Write' of the padding, as 'Sum' meets it. -/
theorem write_last (s : St) (vr vp : Value) (r : List B8) (n : Nat) (Qr Qp : Nat → Prop) (w : World) (sf : St) (hsf : sf = blocks s (r ++ pad n) ((r ++ pad n).length / 64)) (hr : Bytes w Qr vr r) (hp : Bytes w Qp vp (pad n)) (hK : Consts w) (hl : r.length ≤ 1000000) (hn : n ≤ 1000000) :
    Calls Tryd.prog 19 #[.agg (hashv s vr (n : Int)), vp] w fun e w' => ∃ A l c m, e = .returned (.agg (hashv sf (.slice A l c) m)) ∧ Below w.heap.size w w' := by
  subst hsf
  refine (write s vr vp r (pad n) n Qr Qp w hr hp hK (by have := pad_le n; omega) (by omega)).mono ?_
  rintro e w' ⟨v', rfl, hv, hb⟩
  obtain ⟨A, c, rfl, -⟩ := hv
  exact ⟨A, _, c, _, rfl, hb⟩

set_option maxHeartbeats 4000000 in
theorem sum (s : St) (vr : Value) (r : List B8) (n : Nat) (Q : Nat → Prop) (w : World) (hr : Bytes w Q vr r) (hK : Consts w) (hl : r.length ≤ 1000000) (hn : n ≤ 1000000) :
    Calls Tryd.prog 20 #[.agg (hashv s vr (n : Int))] w fun e w' => e = .returned (.agg ((digest (blocks s (r ++ pad n) ((r ++ pad n).length / 64))).map byt).toArray) ∧ Below w.heap.size w w' := by
  have hr' := hr
  obtain ⟨A1, c1, rfl, -⟩ := hr'
  go_enter Tryd.func20, Tryd.ntmps20
  obtain ⟨sf, hsf⟩ : ∃ sf, sf = blocks s (r ++ pad n) ((r ++ pad n).length / 64) := ⟨_, rfl⟩
  have HSF := Lib.hid hsf
  clear hsf
  have hi := fun (j : Nat) (hj : j < 8) (W : World) => run_index_agg (P := Tryd.prog) (t := 32) (e := 31) (n := 8) Tryd.underlying32 Tryd.underlying31 rfl (by kernel_rfl) (stv sf) j (u (sf.at j)) hj (by rw [stv_wrow]; exact wrow_get 8 _ j hj) W
  have HI := Lib.hid hi
  clear hi
  go_wp2
  have hW0 : ∃ W0, W0 = ((w.alloc (.cells (hashv s (.slice A1 r.length c1) (n : Int)) 34)).alloc (.cells (Array.replicate 32 (.int .u8 0)) 26)) := ⟨_, rfl⟩
  obtain ⟨W0, hW0⟩ := hW0
  have k0 : Whole W0 w.heap.size 34 (hashv s (.slice A1 r.length c1) (n : Int)) := by rw [hW0]; exact (Whole.here _ _ _).alloc _
  have k1 : Whole W0 (w.heap.size + 1) 26 (Array.replicate 32 (.int .u8 0)) := by rw [hW0]; exact Whole.at_ _ _ _ _ (by simp)
  have kb : Below w.heap.size w W0 := by rw [hW0]; exact ((Below.refl _ _).alloc (Nat.le_refl _) _).alloc (by simp) _
  have kr : Bytes W0 Q (.slice A1 r.length c1) r := by rw [hW0]; exact (hr.alloc _).alloc _
  have kK : Consts W0 := hK.below (Nat.le_refl _) kb
  have hE : ((w.alloc (.cells (hashv s (.slice A1 r.length c1) (n : Int)) 34)).alloc (.cells #[.int .u8 0, .int .u8 0, .int .u8 0, .int .u8 0, .int .u8 0, .int .u8 0, .int .u8 0, .int .u8 0, .int .u8 0, .int .u8 0, .int .u8 0, .int .u8 0, .int .u8 0, .int .u8 0, .int .u8 0, .int .u8 0, .int .u8 0, .int .u8 0, .int .u8 0, .int .u8 0, .int .u8 0, .int .u8 0, .int .u8 0, .int .u8 0, .int .u8 0, .int .u8 0, .int .u8 0, .int .u8 0, .int .u8 0, .int .u8 0, .int .u8 0, .int .u8 0] 26)) = W0 := hW0.symm
  rw [hE]
  have q0 : w.heap.size < W0.heap.size := k0.lt
  have a0 : W0.cell? ⟨w.heap.size, 0, none⟩ = some (u s.a) := k0.cell 0
  have a1 : W0.cell? ⟨w.heap.size, 1, none⟩ = some (u s.b) := k0.cell 1
  have a2 : W0.cell? ⟨w.heap.size, 2, none⟩ = some (u s.c) := k0.cell 2
  have a3 : W0.cell? ⟨w.heap.size, 3, none⟩ = some (u s.d) := k0.cell 3
  have a4 : W0.cell? ⟨w.heap.size, 4, none⟩ = some (u s.e) := k0.cell 4
  have a5 : W0.cell? ⟨w.heap.size, 5, none⟩ = some (u s.f) := k0.cell 5
  have a6 : W0.cell? ⟨w.heap.size, 6, none⟩ = some (u s.g) := k0.cell 6
  have a7 : W0.cell? ⟨w.heap.size, 7, none⟩ = some (u s.h) := k0.cell 7
  have a8 : W0.cell? ⟨w.heap.size, 8, none⟩ = some (.slice A1 r.length c1) := k0.cell 8
  have a9 : W0.cell? ⟨w.heap.size, 9, none⟩ = some (.int .i64 (n : Int)) := k0.cell 9
  clear hE hW0 hr hK
  have KB := Lib.hid kb
  have K0 := Lib.hid k0
  have K1 := Lib.hid k1
  have KR := Lib.hid kr
  have KK := Lib.hid kK
  clear kb k0 k1 kr kK
  go_region_held3 (fun w' => ∀ b o, b < W0.heap.size → w'.cell? ⟨b, o, none⟩ = W0.cell? ⟨b, o, none⟩)
    ((intro b o hb; refine Below.cell (B := W0.heap.size) (p := ⟨b, o, none⟩) ?_ hb; go_grown; done))
    (first
      | (go_at_call 38; refine (padding n (by omega) _).mono ?_; rintro e w1 ⟨vp, rfl, hp, hb1⟩; obtain ⟨hc1, hf1⟩ := bcell hb1; have hbw1 : Below W0.heap.size W0 w1 := (by first | exact ((Below.refl _ _).drew).trans hb1 | exact (((Below.refl _ _).alloc (Nat.le_refl _) _).drew).trans (hb1.mono (by simp))); have hs1 : W0.heap.size ≤ w1.heap.size := hbw1.size; have ht1 := hb1.size; (try simp at ht1); (try have ht4 : W0.heap.size < w1.heap.size := (by omega)))
      | (go_at_call 19; go_must (refine (write_last s (.slice A1 r.length c1) vp r n Q _ _ sf HSF.out (by first | exact KR.out.below hbw1 (Nat.le_refl _) | exact (KR.out.below hbw1 (Nat.le_refl _)).alloc _) (by first | exact hp | exact hp.alloc _) (by first | exact KK.out.below (Nat.le_refl _) hbw1 | exact KK.out.below (Nat.le_refl _) (hbw1.alloc hbw1.size _)) hl hn).mono ?_); rintro e w2 ⟨A2, l2, c2, m2, rfl, hb2⟩; obtain ⟨hc2, hf2⟩ := bcell hb2; have hbw2 : Below W0.heap.size W0 w2 := (by first | exact hbw1.trans (hb2.mono hbw1.size) | exact (hbw1.alloc hbw1.size _).trans (hb2.mono (by have := hbw1.size; simp; omega))); have hs2 : W0.heap.size ≤ w2.heap.size := hbw2.size; have ht2 := hb2.size; (try simp at ht2); have ht3 : w1.heap.size ≤ w2.heap.size := (by omega)))
  all_goals
    clear hp hb1 hb2 a0 a1 a2 a3 a4 a5 a6 a7 a8 a9
    go_wp2
    clear hc1 hf1 hc2 hf2
    go_loopw [4, 14] (fun vd vi wr => ∃ k : Nat, k ≤ 8 ∧ vi = .int .i64 k ∧ wr.ownsRow W0.heap.size 5 1 vd (dig sf k).length ((dig sf k).map byt) ∧ Below W0.heap.size W0 wr) (fun _ i _ => 8 - (intOf i).toNat)
    case atStart => exact ⟨0, by omega, rfl, World.ownsRow_nil _ _ _ _, by go_grown⟩
    case round =>
      obtain ⟨k, hk, rfl, hown, hbr⟩ := hrel
      clear hbw1 hs1 ht1 hbw2 hs2 ht2 ht3
      by_cases hlt : k < 8
      · have i1 := HI.out k hlt
        have hn0 := iv_nonneg (sf.at k)
        have hn1 := iv_le (sf.at k)
        have hdl := dig_length sf k hk
        have hbs := hbr.size
        go_wp2_with fail
        refine (appendWord _ (dig sf k) (sf.at k) W0.heap.size _ hown hbs (by omega)).mono ?_
        rintro e w3 ⟨v3, rfl, ho3, hb3⟩
        rw [← dig_succ sf k hlt] at ho3
        clear hdl i1 hown
        go_wp2
        go_roundw
        case rel => exact ⟨k + 1, by omega, by go_num, ho3, hbr.trans hb3⟩
        case measure => simp [intOf]; omega
      · have hk8 : dig sf k = digest sf := by rw [show k = 8 by omega]; rfl
        rw [hk8] at hown
        have hdl := digest_length sf
        have hb0 := Bytes.of_own hown
        obtain ⟨A3, c3, rfl, -⟩ := id hb0
        obtain ⟨g3, o3, rfl, _, hrg⟩ := Bytes.range hb0 (by omega)
        rw [hdl]
        have ha := fun (a : Option Addr) (c : Nat) (W : World) => run_arrayAt (P := Tryd.prog) (t := 26) Tryd.underlying26 a 32 c (by omega) W
        have k1 : Whole wr (w.heap.size + 1) 26 (Array.replicate 32 (.int .u8 0)) := K1.out.below hbr K1.out.lt
        have HZ : Hid ((Tryd.prog.info? 26).map (·.size) = some 32) := Lib.hid (by kernel_rfl)
        have hbw := KB.out.trans (hbr.mono KB.out.size)
        have HL := Lib.hid hdl
        clear hown hb0 hk8 hdl
        go_wp2_with (first
          | (with_reducible refine wpList_load_mid rfl 26 _ rfl g3 o3 rfl _ _ hrg Tryd.underlying26 rfl (by rw [List.length_map, HL.out]; kernel_rfl) ?_)
          | (with_reducible refine wpList_store_row rfl 26 _ _ rfl (w.heap.size + 1) _ rfl rfl _ _ k1.eq ?_ ?_ ?_ ?_))
        · rw [HZ.out]; simp [HL.out]
        · simp [HL.out]
        · exact all_oneCell_toArray (byt_one _)
        · have h3 := k1.setRow ((digest sf).map byt).toArray
          have hs9 : (Tryd.prog.info? 26).map (·.size) = some ((digest sf).map byt).toArray.size := by rw [HZ.out]; simp [HL.out]
          have hsf := HSF.out
          subst hsf
          refine bodyPost_ret (results_cell_row Tryd.results20 _ _ (w.heap.size + 1) _ _ _ _ rfl h3 Tryd.underlying26 rfl hs9) rfl ⟨rfl, below_setRow hbw (by omega) _⟩
end Go.Proofs.YtbbpdcnmoabooaaDoor
