/-
  Package sha: 'compress' by its contract: the chaining value behind a block.
-/
import Derived.Test.YtbbpdcnmoabooaaDoorShaSched
import Derived.Deep.QuietTactic
import Derived.BigQuiet
import Derived.Deep.DeepMust
namespace Go.Proofs.YtbbpdcnmoabooaaDoor
open Go Go.RowKit Sh Leaf

abbrev stv (s : St) : Array Value := #[u s.a, u s.b, u s.c, u s.d, u s.e, u s.f, u s.g, u s.h]
theorem stv_wrow (s : St) : stv s = wrow 8 s.at := by unfold wrow; rfl
/-- The table of the constants lies in its variable. -/
def Consts (w : World) : Prop := ∀ j, j < 64 → w.cell? ⟨1, j, none⟩ = some (u (kAt j))
theorem Consts.lt {w : World} (h : Consts w) : 1 < w.heap.size := block_lt_of_cell (h 0 (by omega))
theorem Consts.below {B : Nat} {w w' : World} (h : Consts w) (hB : w.heap.size ≤ B) (hb : Below B w w') : Consts w' := fun j hj =>
  (hb.cell (p := ⟨1, j, none⟩) (by have := h.lt; show 1 < B; omega)).trans (h j hj)

/-- What the rounds of 'compress' keep. g: the block of the numbers w. -/
def CompRel (s : St) (m : List B8) (w : World) (g : Nat) (wr : World) : Prop :=
  Below w.heap.size w wr ∧ Whole wr w.heap.size 32 (stv s) ∧ (∃ z, z.size = 8 ∧ Whole wr (w.heap.size + 1 + 1) 32 z) ∧ Whole wr g 74 (wrow 64 (wAt m)) ∧ Consts wr
theorem CompRel.drewN {s : St} {m : List B8} {w wr : World} {g : Nat} (h : CompRel s m w g wr) (n : Nat) : CompRel s m w g (wr.drewN n) :=
  ⟨below_drewN h.1 _, h.2.1.drewN _, h.2.2.1.elim fun z hz => ⟨z, hz.1, hz.2.drewN _⟩, h.2.2.2.1.drewN _, h.2.2.2.2⟩

set_option maxHeartbeats 2000000 in
theorem compress (s : St) (m : List B8) (hm : m.length = 64) (w : World) (hK : Consts w) : Calls Tryd.prog 36 #[.agg (stv s), .agg (m.map byt).toArray] w fun e w' => e = .returned (.agg (stv (block s m))) ∧ Below w.heap.size w w' := by
  have hsz : (Tryd.prog.info? 63).map (·.size) = some (m.map byt).toArray.size := by rw [show (m.map byt).toArray.size = 64 by simp [hm]]; kernel_rfl
  have HS := Lib.hid hsz
  clear hsz
  go_enter Tryd.func36, Tryd.ntmps36
  go_wp2_with (first
    | (with_reducible refine wpList_load_row rfl 63 _ rfl (w.heap.size + 1) rfl _ _ _ _ ((Whole.at_ _ _ _ _ (by simp)).alloc _).eq Tryd.underlying63 rfl HS.out ?_))
  refine (schedule m hm _).mono ?_
  rintro e W1 ⟨rfl, hb1⟩
  have hbw : Below w.heap.size w W1 := ((((Below.refl _ _).alloc (Nat.le_refl _) _).alloc (by simp) _).alloc (by simp; omega) _).trans (hb1.mono (by simp; omega))
  have c0 : Whole W1 w.heap.size 32 (stv s) := (((Whole.here _ _ _).alloc _).alloc _).below hb1 (by simp; omega)
  have c2 : Whole W1 (w.heap.size + 1 + 1) 32 (Array.replicate 8 (.int .u32 0)) := (Whole.at_ _ _ _ _ (by simp)).below hb1 (by simp)
  have cK : Consts W1 := hK.below (Nat.le_refl _) hbw
  clear hb1
  go_wp2_with (first
    | (with_reducible refine wpList_store_row rfl 74 _ _ rfl W1.heap.size _ rfl rfl _ _ ((Whole.at_ _ _ _ _ rfl).eq) (by rw [wrow_size]; kernel_rfl) (by simp [wrow_size]) (wrow_one _ _) ?_))
  rw [World.setRow_alloc_new]
  have hg : w.heap.size + 1 + 1 < W1.heap.size := c2.lt
  have hrel0 : CompRel s m w W1.heap.size (W1.alloc (.cells (wrow 64 (wAt m)) 74)) :=
    ⟨hbw.alloc (by omega) _, c0.alloc _, ⟨_, by simp, c2.alloc _⟩, Whole.here _ _ _, cK.below (Nat.le_refl _) ((Below.refl _ _).alloc (Nat.le_refl _) _)⟩
  generalize W1.alloc (.cells (wrow 64 (wAt m)) 74) = W2 at *
  generalize W1.heap.size = g at *
  clear c0 c2 cK hbw HS W1
  obtain ⟨hb, c0, ⟨z, hz, c2⟩, c3, cK⟩ := hrel0
  have a0 : W2.cell? ⟨w.heap.size, 0, none⟩ = some (u s.a) := c0.cell 0
  have a1 : W2.cell? ⟨w.heap.size, 1, none⟩ = some (u s.b) := c0.cell 1
  have a2 : W2.cell? ⟨w.heap.size, 2, none⟩ = some (u s.c) := c0.cell 2
  have a3 : W2.cell? ⟨w.heap.size, 3, none⟩ = some (u s.d) := c0.cell 3
  have a4 : W2.cell? ⟨w.heap.size, 4, none⟩ = some (u s.e) := c0.cell 4
  have a5 : W2.cell? ⟨w.heap.size, 5, none⟩ = some (u s.f) := c0.cell 5
  have a6 : W2.cell? ⟨w.heap.size, 6, none⟩ = some (u s.g) := c0.cell 6
  have a7 : W2.cell? ⟨w.heap.size, 7, none⟩ = some (u s.h) := c0.cell 7
  go_wp2
  go_quiet (fail)
  go_wp2
  go_quiet (fail)
  go_wp2
  clear a0 a1 a2 a3 a4 a5 a6 a7
  have hrel0 : CompRel s m w g W2 := ⟨hb, c0, ⟨z, hz, c2⟩, c3, cK⟩
  go_loopw [6, 7, 8, 9, 10, 11, 12, 13, 37] (fun va vb vc vd ve vf vg vh vk wr => ∃ (k : Nat) (r : St), k ≤ 64 ∧ vk = .int .i64 k ∧ va = u r.a ∧ vb = u r.b ∧ vc = u r.c ∧ vd = u r.d ∧ ve = u r.e ∧ vf = u r.f ∧ vg = u r.g ∧ vh = u r.h ∧ Hid (r = rounds (wAt m) s k) ∧ CompRel s m w g wr)
    (fun _ _ _ _ _ _ _ _ i _ => 64 - (intOf i).toNat)
  case atStart => exact ⟨0, s, by omega, rfl, rfl, rfl, rfl, rfl, rfl, rfl, rfl, rfl, Lib.hid rfl, (hrel0.drewN _).drewN _⟩
  case round =>
    clear hrel0 c0 c2 c3 cK hb
    obtain ⟨k, r, hk, rfl, rfl, rfl, rfl, rfl, rfl, rfl, rfl, rfl, hr, hrel⟩ := hrel
    by_cases hlt : k < 64
    · have wc : wr.cell? ⟨g, k, none⟩ = some (u (wAt m k)) := (hrel.2.2.2.1.cell k).trans (wrow_get 64 _ k hlt)
      have kc : wr.cell? ⟨1, k, none⟩ = some (u (kAt k)) := hrel.2.2.2.2 k hlt
      go_wp2
      go_quiet ((first
        | (go_at_call 51; exact Calls.quiet_of_same ((bigSigma1 _ _).mono fun _ _ h => ⟨h.1, h.2.symm⟩))
        | (go_at_call 52; go_must (exact Calls.quiet_of_same ((Leaf.choose _ _ _ _).mono fun _ _ h => ⟨h.1, h.2.symm⟩)))))
      go_wp2_with (first
        | (go_at_call 53; refine (bigSigma0 _ _).mono ?_; rintro e w' ⟨rfl, rfl⟩)
        | (go_at_call 54; refine (majority _ _ _ _).mono ?_; rintro e w' ⟨rfl, rfl⟩))
      go_roundw
      case rel =>
        refine ⟨k + 1, Sh.step r (kAt k) (wAt m k), by omega, by go_num, congrArg (Value.int .u32) ?_, rfl, rfl, rfl, congrArg (Value.int .u32) ?_, rfl, rfl, rfl, Lib.hid ?_, hrel.drewN nq⟩
        · rw [add5_mod_iv, add_mod_iv, add_mod_iv]; rfl
        · rw [add5_mod_iv, add_mod_iv]; rfl
        · rw [hr.out]; rfl
      case measure => simp [intOf]; omega
    · have hr' : Hid (r = rounds (wAt m) s 64) := by rw [show 64 = k by omega]; exact hr
      clear hr
      obtain ⟨hb, c0, ⟨z, hz, c2⟩, _, _⟩ := hrel
      rw [stv_wrow] at c0
      have hi := fun (j : Nat) (hj : j < 8) (W : World) => run_index_agg (P := Tryd.prog) (t := 32) (e := 31) (n := 8) Tryd.underlying32 Tryd.underlying31 rfl (by kernel_rfl) (stv r) j (u (r.at j)) hj (by rw [stv_wrow]; exact wrow_get 8 _ j hj) W
      have HI := Lib.hid hi
      clear hi
      go_wp2
      go_loopw [86] (fun i wr => ∃ k : Nat, k ≤ 8 ∧ i = .int .i64 k ∧ Below w.heap.size w wr ∧ Whole wr w.heap.size 32 (wrow 8 (mix s r k)) ∧ Whole wr (w.heap.size + 1 + 1) 32 z) (fun i _ => 8 - (intOf i).toNat)
      case atStart => exact ⟨0, by omega, rfl, hb, by rw [mix_zero]; exact c0, c2⟩
      case round =>
        clear hb c0 c2
        obtain ⟨j, hj, rfl, hb, c0, c2⟩ := hrel
        by_cases hlt8 : j < 8
        · have i1 := HI.out j hlt8
          have a1 := (c0.cell j).trans (wrow_get 8 _ j hlt8)
          have a2 := c0.frozen j
          have ej : mix s r j j = s.at j := by unfold mix; rw [if_neg (by omega)]
          have hn : Whole (wr.setCell ⟨w.heap.size, j, none⟩ (u (mix s r j j + r.at j))) w.heap.size 32 (wrow 8 (mix s r (j + 1))) := by
            have := c0.set j (u (mix s r j j + r.at j))
            rw [wrow_set 8 _ j _ hlt8] at this
            rw [show mix s r (j + 1) = fun i => if i = j then mix s r j j + r.at j else mix s r j i from funext fun i => by rw [mix_succ, ej]]
            exact this
          rw [u, ← add_mod_iv] at hn
          have HN := Lib.hid hn
          clear hn ej
          go_wp2
          go_roundw
          case rel => exact ⟨j + 1, by omega, by go_num, hb.setCell (by simp) _, HN.out, c2.far (by simp; omega) _⟩
          case measure => simp [intOf]; omega
        · have ex : wrow 8 (mix s r j) = wrow 8 (block s m).at := by
            refine wrow_congr fun i hi => ?_
            rw [show j = 8 by omega, mix_all s r i hi, block, ← hr'.out]
          rw [ex] at c0
          clear ex HI
          go_wp2_with (first
            | (with_reducible refine wpList_load_row rfl 32 _ rfl w.heap.size rfl _ _ _ _ c0.eq Tryd.underlying32 rfl (by rw [wrow_size]; kernel_rfl) ?_)
            | (with_reducible refine wpList_store_row rfl 32 _ _ rfl (w.heap.size + 1 + 1) _ rfl rfl _ _ c2.eq (by rw [wrow_size]; kernel_rfl) (by rw [wrow_size]; exact hz) (wrow_one _ _) ?_))
          go_outline
          have h3 := c2.setRow (wrow 8 (block s m).at)
          refine bodyPost_ret (results_cell_row Tryd.results36 _ _ (w.heap.size + 1 + 1) _ _ _ _ rfl h3 Tryd.underlying32 rfl (by rw [wrow_size]; kernel_rfl)) rfl ⟨by rw [stv_wrow], below_setRow hb (by omega) _⟩
end Go.Proofs.YtbbpdcnmoabooaaDoor
