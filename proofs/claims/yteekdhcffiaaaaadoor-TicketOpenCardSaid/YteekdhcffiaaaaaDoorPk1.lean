/-
  ShaSched
-/
import Derived.StillTailTactics
import Derived.Test.YteekdhcffiaaaaaDoorPk0
namespace Go.Proofs.YteekdhcffiaaaaaDoor
open Go Go.RowKit Sh Leaf

theorem word_walk (a b c d : B8) : bits .or .u32 (bits .or .u32 (bits .or .u32 (bv a % 4294967296 * 16777216 % 4294967296) (bv b % 4294967296 * 65536 % 4294967296)) (bv c % 4294967296 * 256 % 4294967296)) (bv d % 4294967296) = iv (word a b c d) := by
  have e : ∀ x : B8, bv x % 4294967296 = iv (x.setWidth 32) := fun x => by rw [← bv_iv]; have := bv_nonneg x; have := bv_le x; omega
  have s24 : ∀ x : W, iv x * (16777216 : Int) % (4294967296 : Int) = iv (x <<< 24) := fun x => shl_mod_iv x 24
  have s16 : ∀ x : W, iv x * (65536 : Int) % (4294967296 : Int) = iv (x <<< 16) := fun x => shl_mod_iv x 16
  have s8 : ∀ x : W, iv x * (256 : Int) % (4294967296 : Int) = iv (x <<< 8) := fun x => shl_mod_iv x 8
  rw [e, e, e, e, s24, s16, s8, bits_or_iv, bits_or_iv, bits_or_iv, word]

set_option maxRecDepth 20000 in
theorem shaNumber (a b c d : B8) (w : World) : Calls Tryd.prog 95 #[.agg #[byt a, byt b, byt c, byt d]] w fun e w' => e = .returned (.int .u32 (iv (word a b c d))) ∧ w.alloc (.cells #[byt a, byt b, byt c, byt d] 145) = w' := by
  go_enter Tryd.func95, Tryd.ntmps95
  go_wp2
  go_ret
  exact ⟨ret_int (word_walk a b c d), rfl⟩

def SchedRel (m : List B8) (w : World) (k : Nat) (wr : World) : Prop :=
  Below w.heap.size w wr ∧ Whole wr w.heap.size 123 (m.map byt).toArray ∧ Whole wr (w.heap.size + 1) 130 (wrow 64 fun _ => 0) ∧
  ∃ f, Whole wr (w.heap.size + 1 + 1) 130 (wrow 64 f) ∧ ∀ j, j < k → f j = wAt m j
theorem SchedRel.step {m : List B8} {w wr : World} {k : Nat} (hb : Below w.heap.size w wr) (h0 : Whole wr w.heap.size 123 (m.map byt).toArray) (h1 : Whole wr (w.heap.size + 1) 130 (wrow 64 fun _ => 0)) {f : Nat → W}
    (h2 : Whole wr (w.heap.size + 1 + 1) 130 (wrow 64 f)) (hf : ∀ j, j < k → f j = wAt m j) (hk : k < 64) (x : W) (hx : x = wAt m k) :
    SchedRel m w (k + 1) (wr.setCell ⟨w.heap.size + 1 + 1, k, none⟩ (u x)) := by
  refine ⟨hb.setCell (by simp; omega) _, h0.far (by simp; omega) _, h1.far (by simp) _, _, by rw [← wrow_set 64 f k x hk]; exact h2.set k _, fun j hj => ?_⟩
  by_cases e : j = k
  · subst e; simp [hx]
  · simp [e]; exact hf j (by omega)
theorem SchedRel.alloc {m : List B8} {w wr : World} {k : Nat} (h : SchedRel m w k wr) (hs : w.heap.size ≤ wr.heap.size) (o : Obj) : SchedRel m w k (wr.alloc o) :=
  ⟨h.1.alloc hs _, h.2.1.alloc _, h.2.2.1.alloc _, h.2.2.2.elim fun f hf => ⟨f, hf.1.alloc _, hf.2⟩⟩
theorem SchedRel.drew {m : List B8} {w wr : World} {k : Nat} (h : SchedRel m w k wr) : SchedRel m w k wr.drew :=
  ⟨h.1.drew, h.2.1.drew, h.2.2.1.drew, h.2.2.2.elim fun f hf => ⟨f, hf.1.drew, hf.2⟩⟩

set_option maxRecDepth 20000 in
set_option maxHeartbeats 1000000 in
theorem schedule (m : List B8) (hm : m.length = 64) (w : World) : Calls Tryd.prog 90 #[.agg (m.map byt).toArray] w fun e w' => e = .returned (.agg (wrow 64 (wAt m))) ∧ Below w.heap.size w w' := by
  go_enter Tryd.func90, Tryd.ntmps90
  go_wp2
  go_loopw [6] (fun i wr => ∃ k : Nat, k ≤ 16 ∧ i = .int .i64 k ∧ SchedRel m w k wr) (fun i _ => 16 - (intOf i).toNat)
  case atStart =>
    refine ⟨0, by omega, rfl, (((Below.refl _ _).alloc (Nat.le_refl _) _).alloc (by simp) _).alloc (by simp; omega) _, ?_, ?_, fun _ => 0, ?_, fun j hj => by omega⟩
    · exact ((Whole.here _ _ _).alloc _).alloc _
    · rw [wrow_zero]; exact (Whole.at_ _ _ _ _ (by simp)).alloc _
    · rw [wrow_zero]; exact Whole.at_ _ _ _ _ (by simp)
  case round =>
    obtain ⟨k, hk, rfl, hb, h0, h1, f, h2, hf⟩ := hrel
    by_cases hlt : k < 16
    · have hs : ∀ W, (Instr.sliceAt 123 (.pointer (some ⟨w.heap.size, 0, none⟩)) (some (.int .i64 (4 * (k : Int)))) (some (.int .i64 (4 * (k : Int) + 4))) none).run Tryd.prog W = .ok (.slice (some ⟨w.heap.size, 4 * k, none⟩) 4 (64 - 4 * k)) W := fun W => by
        have := run_sliceAt_arr (P := Tryd.prog) (t := 123) (e := 5) (n := 64) Tryd.underlying123 (by kernel_rfl) w.heap.size (4 * k) (4 * k + 4) (by omega) (by omega) W
        rw [show (4 * k + 4) - 4 * k = 4 by omega] at this
        exact_mod_cast this
      have ha := fun (a : Option Addr) (c : Nat) (W : World) => run_arrayAt (P := Tryd.prog) (t := 145) Tryd.underlying145 a 4 c (by omega) W
      have hr := range4 h0 (4 * k) (by omega)
      have hc := h2.cell k
      rw [wrow_get 64 f k (by omega)] at hc
      have hz := h2.frozen k
      have hl := h2.lt
      go_wp2_with (first
        | (with_reducible refine wpList_load_mid rfl 145 _ rfl w.heap.size (4 * k) rfl _ _ hr Tryd.underlying145 rfl (by kernel_rfl) ?_)
        | (go_at_call 95; refine (shaNumber _ _ _ _ _).mono ?_; rintro e w' ⟨rfl, rfl⟩))
      have hx := wAt_first m k hlt
      have hn := SchedRel.step hb h0 h1 h2 hf (by omega : k < 64) _ hx.symm
      clear hs ha hr hc hz hf h0 h1 h2 hx
      go_roundw
      case rel => exact ⟨k + 1, by omega, by go_num, hn.alloc (by simp [World.setCell]; exact hb.size) _⟩
      case measure => simp [intOf]; omega
    · have hrel1 : SchedRel m w 16 wr := ⟨hb, h0, h1, f, h2, fun j hj => hf j (by omega)⟩
      clear hb h0 h1 h2 hf f
      go_wp2
      go_loopw [5] (fun i wr => ∃ k : Nat, 16 ≤ k ∧ k ≤ 64 ∧ i = .int .i64 k ∧ SchedRel m w k wr) (fun i _ => 64 - (intOf i).toNat)
      case atStart => exact ⟨16, by omega, by omega, rfl, hrel1⟩
      case round =>
        obtain ⟨k, hk16, hk, rfl, hb, h0, h1, f, h2, hf⟩ := hrel
        clear hrel1
        by_cases hlt : k < 64
        · have hc : ∀ j : Nat, j < 64 → wr.cell? ⟨w.heap.size + 1 + 1, j, none⟩ = some (u (f j)) := fun j hj => (h2.cell j).trans (wrow_get 64 f j hj)
          have c2 := hc (k - 2) (by omega)
          have c7 := hc (k - 7) (by omega)
          have c15 := hc (k - 15) (by omega)
          have c16 := hc (k - 16) (by omega)
          have c0 := hc k hlt
          have hz := h2.frozen k
          clear hc
          have i2 : (2 : Int) ≤ (k : Int) ∧ (k : Int) - 2 < 64 := by omega
          have i7 : (7 : Int) ≤ (k : Int) ∧ (k : Int) - 7 < 64 := by omega
          have i15 : (15 : Int) ≤ (k : Int) ∧ (k : Int) - 15 < 64 := by omega
          have i16 : (16 : Int) ≤ (k : Int) ∧ (k : Int) - 16 < 64 := by omega
          have n2 : ((k : Int) - 2).toNat = k - 2 := by omega
          have n7 : ((k : Int) - 7).toNat = k - 7 := by omega
          have n15 : ((k : Int) - 15).toNat = k - 15 := by omega
          have n16 : ((k : Int) - 16).toNat = k - 16 := by omega
          go_wp2
          refine wp_region_still_tail 23 (by kernel_rfl) (by kernel_rfl) ?_
          simp only [List.take_succ_cons, List.take_zero, List.drop_succ_cons, List.drop_zero]
          change wpStill _ _ wr.drew (fun a' => wpList _ _ _ _ a' wr.drew) _ _
          repeat (refine wpStill_step (fun K hK => ?_); go_simp; (try go_bits); refine hK _ ?_; clear hK K)
          refine wpStill_step (fun K hK => ?_)
          go_simp
          refine ⟨_, (smallSigma1 _ _).mono fun _ _ h => ⟨h.1, h.2.symm⟩, hK _ ?_⟩
          clear hK K
          repeat (refine wpStill_step (fun K hK => ?_); go_simp; (try go_bits); refine hK _ ?_; clear hK K)
          refine wpStill_step (fun K hK => ?_)
          go_simp
          refine ⟨_, (smallSigma0 _ _).mono fun _ _ h => ⟨h.1, h.2.symm⟩, hK _ ?_⟩
          clear hK K
          repeat (refine wpStill_step (fun K hK => ?_); go_simp; (try go_bits); refine hK _ ?_; clear hK K)
          refine wpStill_nil ?_
          go_wp2
          have e := add4_mod_iv (s1 (f (k - 2))) (f (k - 7)) (s0 (f (k - 15))) (f (k - 16))
          have hn := (SchedRel.step hb h0 h1 h2 hf (by omega : k < 64) (s1 (f (k - 2)) + f (k - 7) + s0 (f (k - 15)) + f (k - 16)) (by
            rw [wAt_next m k hk16 hlt, hf _ (by omega), hf _ (by omega), hf _ (by omega), hf _ (by omega)])).drew
          rw [u, ← e] at hn
          have HN := Lib.hid hn
          clear hn
          clear e c2 c7 c15 c16 c0 hz i2 i7 i15 i16 n2 n7 n15 n16 h0 h1 h2 hf
          go_roundw
          case rel => exact ⟨k + 1, by omega, by omega, by go_num, HN.out⟩
          case measure => simp [intOf]; omega
        · have hf' : wrow 64 f = wrow 64 (wAt m) := wrow_congr fun j hj => hf j (by omega)
          rw [hf'] at h2
          clear hf hf'
          go_wp2_with (first
            | (with_reducible refine wpList_load_row rfl 130 _ rfl (w.heap.size + 1 + 1) rfl _ _ _ _ h2.eq Tryd.underlying130 rfl (by rw [wrow_size]; kernel_rfl) ?_)
            | (with_reducible refine wpList_store_row rfl 130 _ _ rfl (w.heap.size + 1) _ rfl rfl _ _ h1.eq (by rw [wrow_size]; kernel_rfl) (by rw [wrow_size, wrow_size]) (wrow_one _ _) ?_))
          have h3 := h1.setRow (wrow 64 (wAt m))
          refine bodyPost_ret (results_cell_row Tryd.results90 _ _ (w.heap.size + 1) _ _ _ _ rfl h3 Tryd.underlying130 rfl (by rw [wrow_size]; kernel_rfl)) rfl ⟨rfl, below_setRow hb (by omega) _⟩
end Go.Proofs.YteekdhcffiaaaaaDoor
