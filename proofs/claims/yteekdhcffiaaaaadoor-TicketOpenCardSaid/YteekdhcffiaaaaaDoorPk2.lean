/-
  ShaComp
  ShaRef
-/
import Derived.Deep.QuietTactic
import Derived.BigQuiet
import Derived.Deep.DeepMust
import Derived.Test.YteekdhcffiaaaaaDoorPk1
namespace Go.Proofs.YteekdhcffiaaaaaDoor
open Go Go.RowKit Sh Leaf

abbrev stv (s : St) : Array Value := #[u s.a, u s.b, u s.c, u s.d, u s.e, u s.f, u s.g, u s.h]
theorem stv_wrow (s : St) : stv s = wrow 8 s.at := by unfold wrow; rfl
def Consts (w : World) : Prop := ∀ j, j < 64 → w.cell? ⟨1, j, none⟩ = some (u (kAt j))
theorem Consts.lt {w : World} (h : Consts w) : 1 < w.heap.size := block_lt_of_cell (h 0 (by omega))
theorem Consts.below {B : Nat} {w w' : World} (h : Consts w) (hB : w.heap.size ≤ B) (hb : Below B w w') : Consts w' := fun j hj =>
  (hb.cell (p := ⟨1, j, none⟩) (by have := h.lt; show 1 < B; omega)).trans (h j hj)

def CompRel (s : St) (m : List B8) (w : World) (g : Nat) (wr : World) : Prop :=
  Below w.heap.size w wr ∧ Whole wr w.heap.size 117 (stv s) ∧ (∃ z, z.size = 8 ∧ Whole wr (w.heap.size + 1 + 1) 117 z) ∧ Whole wr g 130 (wrow 64 (wAt m)) ∧ Consts wr
theorem CompRel.drewN {s : St} {m : List B8} {w wr : World} {g : Nat} (h : CompRel s m w g wr) (n : Nat) : CompRel s m w g (wr.drewN n) :=
  ⟨below_drewN h.1 _, h.2.1.drewN _, h.2.2.1.elim fun z hz => ⟨z, hz.1, hz.2.drewN _⟩, h.2.2.2.1.drewN _, h.2.2.2.2⟩

set_option maxRecDepth 20000 in
set_option maxHeartbeats 2000000 in
theorem compress (s : St) (m : List B8) (hm : m.length = 64) (w : World) (hK : Consts w) : Calls Tryd.prog 89 #[.agg (stv s), .agg (m.map byt).toArray] w fun e w' => e = .returned (.agg (stv (block s m))) ∧ Below w.heap.size w w' := by
  have hsz : (Tryd.prog.info? 123).map (·.size) = some (m.map byt).toArray.size := by rw [show (m.map byt).toArray.size = 64 by simp [hm]]; kernel_rfl
  have HS := Lib.hid hsz
  clear hsz
  go_enter Tryd.func89, Tryd.ntmps89
  go_wp2_with (first
    | (with_reducible refine wpList_load_row rfl 123 _ rfl (w.heap.size + 1) rfl _ _ _ _ ((Whole.at_ _ _ _ _ (by simp)).alloc _).eq Tryd.underlying123 rfl HS.out ?_))
  refine (schedule m hm _).mono ?_
  rintro e W1 ⟨rfl, hb1⟩
  have hbw : Below w.heap.size w W1 := ((((Below.refl _ _).alloc (Nat.le_refl _) _).alloc (by simp) _).alloc (by simp; omega) _).trans (hb1.mono (by simp; omega))
  have c0 : Whole W1 w.heap.size 117 (stv s) := (((Whole.here _ _ _).alloc _).alloc _).below hb1 (by simp; omega)
  have c2 : Whole W1 (w.heap.size + 1 + 1) 117 (Array.replicate 8 (.int .u32 0)) := (Whole.at_ _ _ _ _ (by simp)).below hb1 (by simp)
  have cK : Consts W1 := hK.below (Nat.le_refl _) hbw
  clear hb1
  go_wp2_with (first
    | (with_reducible refine wpList_store_row rfl 130 _ _ rfl W1.heap.size _ rfl rfl _ _ ((Whole.at_ _ _ _ _ rfl).eq) (by rw [wrow_size]; kernel_rfl) (by simp [wrow_size]) (wrow_one _ _) ?_))
  rw [World.setRow_alloc_new]
  have hg : w.heap.size + 1 + 1 < W1.heap.size := c2.lt
  have hrel0 : CompRel s m w W1.heap.size (W1.alloc (.cells (wrow 64 (wAt m)) 130)) :=
    ⟨hbw.alloc (by omega) _, c0.alloc _, ⟨_, by simp, c2.alloc _⟩, Whole.here _ _ _, cK.below (Nat.le_refl _) ((Below.refl _ _).alloc (Nat.le_refl _) _)⟩
  generalize W1.alloc (.cells (wrow 64 (wAt m)) 130) = W2 at *
  generalize W1.heap.size = g at *
  clear c0 c2 cK hbw HS W1
  obtain ⟨hb, c0, ⟨z, hz, c2⟩, c3, cK⟩ := hrel0
  have a0 : W2.cell? ⟨w.heap.size, 0, none⟩ = some (u s.a) := c0.cell 0
  have a1 : W2.cell? ⟨w.heap.size, 1, none⟩ = some (u s.b) := c0.cell 1
  have a2 : W2.cell? ⟨w.heap.size, 2, none⟩ = some (u s.c) := c0.cell 2
  have a3 : W2.cell? ⟨w.heap.size, 3, none⟩ = some (u s.d) := c0.cell 3
  have a4 : W2.cell? ⟨w.heap.size, 4, none⟩ = some (u s.e) := c0.cell 4
  have a5 : W2.cell? ⟨w.heap.size, 5, none⟩ = some (u s.f) := c0.cell 5
  have a6 : W2.cell? ⟨w.heap.size, 6, none⟩ = some (u s.g) := c0.cell 6
  have a7 : W2.cell? ⟨w.heap.size, 7, none⟩ = some (u s.h) := c0.cell 7
  go_wp2
  go_quiet (fail)
  go_wp2
  go_quiet (fail)
  go_wp2
  clear a0 a1 a2 a3 a4 a5 a6 a7
  have hrel0 : CompRel s m w g W2 := ⟨hb, c0, ⟨z, hz, c2⟩, c3, cK⟩
  go_loopw [6, 7, 8, 9, 10, 11, 12, 13, 37] (fun va vb vc vd ve vf vg vh vk wr => ∃ (k : Nat) (r : St), k ≤ 64 ∧ vk = .int .i64 k ∧ va = u r.a ∧ vb = u r.b ∧ vc = u r.c ∧ vd = u r.d ∧ ve = u r.e ∧ vf = u r.f ∧ vg = u r.g ∧ vh = u r.h ∧ Hid (r = rounds (wAt m) s k) ∧ CompRel s m w g wr)
    (fun _ _ _ _ _ _ _ _ i _ => 64 - (intOf i).toNat)
  case atStart => exact ⟨0, s, by omega, rfl, rfl, rfl, rfl, rfl, rfl, rfl, rfl, rfl, Lib.hid rfl, (hrel0.drewN _).drewN _⟩
  case round =>
    clear hrel0 c0 c2 c3 cK hb
    obtain ⟨k, r, hk, rfl, rfl, rfl, rfl, rfl, rfl, rfl, rfl, rfl, hr, hrel⟩ := hrel
    by_cases hlt : k < 64
    · have wc : wr.cell? ⟨g, k, none⟩ = some (u (wAt m k)) := (hrel.2.2.2.1.cell k).trans (wrow_get 64 _ k hlt)
      have kc : wr.cell? ⟨1, k, none⟩ = some (u (kAt k)) := hrel.2.2.2.2 k hlt
      go_wp2
      go_quiet ((first
        | (go_at_call 91; exact Calls.quiet_of_same ((bigSigma1 _ _).mono fun _ _ h => ⟨h.1, h.2.symm⟩))
        | (go_at_call 92; go_must (exact Calls.quiet_of_same ((Leaf.choose _ _ _ _).mono fun _ _ h => ⟨h.1, h.2.symm⟩)))))
      go_wp2_with (first
        | (go_at_call 93; refine (bigSigma0 _ _).mono ?_; rintro e w' ⟨rfl, rfl⟩)
        | (go_at_call 94; refine (majority _ _ _ _).mono ?_; rintro e w' ⟨rfl, rfl⟩))
      go_roundw
      case rel =>
        refine ⟨k + 1, Sh.step r (kAt k) (wAt m k), by omega, by go_num, congrArg (Value.int .u32) ?_, rfl, rfl, rfl, congrArg (Value.int .u32) ?_, rfl, rfl, rfl, Lib.hid ?_, hrel.drewN nq⟩
        · rw [add5_mod_iv, add_mod_iv, add_mod_iv]; rfl
        · rw [add5_mod_iv, add_mod_iv]; rfl
        · rw [hr.out]; rfl
      case measure => simp [intOf]; omega
    · have hr' : Hid (r = rounds (wAt m) s 64) := by rw [show 64 = k by omega]; exact hr
      clear hr
      obtain ⟨hb, c0, ⟨z, hz, c2⟩, _, _⟩ := hrel
      rw [stv_wrow] at c0
      have hi := fun (j : Nat) (hj : j < 8) (W : World) => run_index_agg (P := Tryd.prog) (t := 117) (e := 116) (n := 8) Tryd.underlying117 Tryd.underlying116 rfl (by kernel_rfl) (stv r) j (u (r.at j)) hj (by rw [stv_wrow]; exact wrow_get 8 _ j hj) W
      have HI := Lib.hid hi
      clear hi
      go_wp2
      go_loopw [86] (fun i wr => ∃ k : Nat, k ≤ 8 ∧ i = .int .i64 k ∧ Below w.heap.size w wr ∧ Whole wr w.heap.size 117 (wrow 8 (shMix s r k)) ∧ Whole wr (w.heap.size + 1 + 1) 117 z) (fun i _ => 8 - (intOf i).toNat)
      case atStart => exact ⟨0, by omega, rfl, hb, by rw [shMix_zero]; exact c0, c2⟩
      case round =>
        clear hb c0 c2
        obtain ⟨j, hj, rfl, hb, c0, c2⟩ := hrel
        by_cases hlt8 : j < 8
        · have i1 := HI.out j hlt8
          have a1 := (c0.cell j).trans (wrow_get 8 _ j hlt8)
          have a2 := c0.frozen j
          have ej : shMix s r j j = s.at j := by unfold shMix; rw [if_neg (by omega)]
          have hn : Whole (wr.setCell ⟨w.heap.size, j, none⟩ (u (shMix s r j j + r.at j))) w.heap.size 117 (wrow 8 (shMix s r (j + 1))) := by
            have := c0.set j (u (shMix s r j j + r.at j))
            rw [wrow_set 8 _ j _ hlt8] at this
            rw [show shMix s r (j + 1) = fun i => if i = j then shMix s r j j + r.at j else shMix s r j i from funext fun i => by rw [mix_succ, ej]]
            exact this
          rw [u, ← add_mod_iv] at hn
          have HN := Lib.hid hn
          clear hn ej
          go_wp2
          go_roundw
          case rel => exact ⟨j + 1, by omega, by go_num, hb.setCell (by simp) _, HN.out, c2.far (by simp; omega) _⟩
          case measure => simp [intOf]; omega
        · have ex : wrow 8 (shMix s r j) = wrow 8 (block s m).at := by
            refine wrow_congr fun i hi => ?_
            rw [show j = 8 by omega, shMix_all s r i hi, block, ← hr'.out]
          rw [ex] at c0
          clear ex HI
          go_wp2_with (first
            | (with_reducible refine wpList_load_row rfl 117 _ rfl w.heap.size rfl _ _ _ _ c0.eq Tryd.underlying117 rfl (by rw [wrow_size]; kernel_rfl) ?_)
            | (with_reducible refine wpList_store_row rfl 117 _ _ rfl (w.heap.size + 1 + 1) _ rfl rfl _ _ c2.eq (by rw [wrow_size]; kernel_rfl) (by rw [wrow_size]; exact hz) (wrow_one _ _) ?_))
          go_outline
          have h3 := c2.setRow (wrow 8 (block s m).at)
          refine bodyPost_ret (results_cell_row Tryd.results89 _ _ (w.heap.size + 1 + 1) _ _ _ _ rfl h3 Tryd.underlying117 rfl (by rw [wrow_size]; kernel_rfl)) rfl ⟨by rw [stv_wrow], below_setRow hb (by omega) _⟩
end Go.Proofs.YteekdhcffiaaaaaDoor
namespace Go.Proofs.YteekdhcffiaaaaaDoor
open Go Go.RowKit Sh Leaf

set_option maxRecDepth 20000 in
theorem ref_constants (w : World) : Calls Tryd.prog 80 #[] w fun e w' => e = .returned (.agg (wrow 64 kAt)) ∧ Below w.heap.size w w' := by
  go_enter Tryd.func80, Tryd.ntmps80
  go_wp2_with (first
    | (with_reducible refine wpList_build_as rfl 130 _ rfl (wrow 64 kAt) (by kernel_rfl) ?_)
    | (with_reducible refine wpList_store_row rfl 130 _ _ rfl w.heap.size _ rfl rfl _ _ (Whole.here _ _ _).eq (by rw [wrow_size]; kernel_rfl) (by simp [wrow_size]) (wrow_one _ _) ?_))
  rw [World.setRow_alloc_new]
  refine bodyPost_ret (results_cell_row Tryd.results80 _ _ w.heap.size _ _ _ _ rfl (Whole.here _ _ _).eq Tryd.underlying130 rfl (by rw [wrow_size]; kernel_rfl)) rfl ⟨rfl, (Below.refl _ _).alloc (Nat.le_refl _) _⟩
set_option maxRecDepth 20000 in
theorem ref_initial (w : World) : Calls Tryd.prog 70 #[] w fun e w' => e = .returned (.agg (stv init)) ∧ Below w.heap.size w w' := by
  rw [stv_wrow]
  go_enter Tryd.func70, Tryd.ntmps70
  go_wp2_with (first
    | (with_reducible refine wpList_build_as rfl 117 _ rfl (wrow 8 init.at) (by kernel_rfl) ?_)
    | (with_reducible refine wpList_store_row rfl 117 _ _ rfl w.heap.size _ rfl rfl _ _ (Whole.here _ _ _).eq (by rw [wrow_size]; kernel_rfl) (by simp [wrow_size]) (wrow_one _ _) ?_))
  rw [World.setRow_alloc_new]
  refine bodyPost_ret (results_cell_row Tryd.results70 _ _ w.heap.size _ _ _ _ rfl (Whole.here _ _ _).eq Tryd.underlying117 rfl (by rw [wrow_size]; kernel_rfl)) rfl ⟨rfl, (Below.refl _ _).alloc (Nat.le_refl _) _⟩

def RefRel (s : St) (m : List B8) (w : World) (k : Nat) (wr : World) : Prop :=
  Below w.heap.size w wr ∧ Whole wr w.heap.size 117 (wrow 8 s.at) ∧ (∃ z, z.size = 8 ∧ Whole wr (w.heap.size + 1) 117 z) ∧
  ∃ f, Whole wr (w.heap.size + 1 + 1) 130 (wrow 64 f) ∧ ∀ j, j < k → f j = wAt m j
theorem RefRel.step {s : St} {m : List B8} {w wr : World} {k : Nat} (h : RefRel s m w k wr) {f : Nat → W} (h2 : Whole wr (w.heap.size + 1 + 1) 130 (wrow 64 f)) (hf : ∀ j, j < k → f j = wAt m j) (hk : k < 64) (x : W) (hx : x = wAt m k) :
    RefRel s m w (k + 1) (wr.setCell ⟨w.heap.size + 1 + 1, k, none⟩ (u x)) := by
  refine ⟨h.1.setCell (by simp; omega) _, h.2.1.far (by simp; omega) _, h.2.2.1.elim fun z hz => ⟨z, hz.1, hz.2.far (by simp) _⟩, _, by rw [← wrow_set 64 f k x hk]; exact h2.set k _, fun j hj => ?_⟩
  by_cases e : j = k
  · subst e; simp [hx]
  · simp [e]; exact hf j (by omega)
theorem RefRel.drew {s : St} {m : List B8} {w wr : World} {k : Nat} (h : RefRel s m w k wr) : RefRel s m w k wr.drew :=
  ⟨h.1.drew, h.2.1.drew, h.2.2.1.elim fun z hz => ⟨z, hz.1, hz.2.drew⟩, h.2.2.2.elim fun f hf => ⟨f, hf.1.drew, hf.2⟩⟩
theorem RefRel.drewN {s : St} {m : List B8} {w wr : World} {k : Nat} (h : RefRel s m w k wr) (n : Nat) : RefRel s m w k (wr.drewN n) :=
  ⟨below_drewN h.1 n, h.2.1.drewN n, h.2.2.1.elim fun z hz => ⟨z, hz.1, hz.2.drewN n⟩, h.2.2.2.elim fun f hf => ⟨f, hf.1.drewN n, hf.2⟩⟩
theorem _root_.Go.Calls.quiet_add_same {P : Program} {f : FuncId} {args : Array Value} {w : World} {a n : Nat} {v : Value}
    (h : Calls P f args (w.drewN (a + n)) fun e w' => e = .returned v ∧ w' = w.drewN (a + n)) : Calls P f args (w.drewN (a + n)) fun e w'' => e = .returned v ∧ ∃ m, w'' = w.drewN (a + m) :=
  h.mono fun _ _ ⟨he, hm⟩ => ⟨he, n, hm⟩
def RefRound (s : St) (m : List B8) (w : World) (g : Nat) (r : St) (wr : World) : Prop :=
  Below w.heap.size w wr ∧ Whole wr w.heap.size 117 (wrow 8 s.at) ∧ (∃ z, z.size = 8 ∧ Whole wr (w.heap.size + 1) 117 z) ∧
  Whole wr (w.heap.size + 1 + 1) 130 (wrow 64 (wAt m)) ∧ Whole wr g 130 (wrow 64 kAt) ∧ Whole wr (g + 1) 117 (wrow 8 r.at)
theorem RefRound.drewN {s : St} {m : List B8} {w wr : World} {g : Nat} {r : St} (h : RefRound s m w g r wr) (n : Nat) : RefRound s m w g r (wr.drewN n) :=
  ⟨below_drewN h.1 n, h.2.1.drewN n, h.2.2.1.elim fun z hz => ⟨z, hz.1, hz.2.drewN n⟩, h.2.2.2.1.drewN n, h.2.2.2.2.1.drewN n, h.2.2.2.2.2.drewN n⟩
theorem RefRound.setRow {s : St} {m : List B8} {w wr : World} {g : Nat} {r : St} (h : RefRound s m w g r wr) (hg : w.heap.size + 1 + 1 < g) (r' : St) : RefRound s m w g r' (wr.setRow (g + 1) (wrow 8 r'.at)) :=
  ⟨below_setRow h.1 (by omega) _, h.2.1.setRow_far (by omega) _, h.2.2.1.elim fun z hz => ⟨z, hz.1, hz.2.setRow_far (by omega) _⟩, h.2.2.2.1.setRow_far (by omega) _, h.2.2.2.2.1.setRow_far (by omega) _, h.2.2.2.2.2.setRow _⟩
theorem ref_step_cells (r : St) (kk ww : W) :
    #[Value.int .u32 ((iv r.h + iv (rotr r.e 6 ^^^ rotr r.e 11 ^^^ rotr r.e 25) + iv (r.e &&& r.f ^^^ ~~~r.e &&& r.g) + iv kk + iv ww + (iv (rotr r.a 2 ^^^ rotr r.a 13 ^^^ rotr r.a 22) + iv (r.a &&& r.b ^^^ r.a &&& r.c ^^^ r.b &&& r.c))) % 4294967296),
      u r.a, u r.b, u r.c, Value.int .u32 ((iv r.d + (iv r.h + iv (rotr r.e 6 ^^^ rotr r.e 11 ^^^ rotr r.e 25) + iv (r.e &&& r.f ^^^ ~~~r.e &&& r.g) + iv kk + iv ww)) % 4294967296), u r.e, u r.f, u r.g] = wrow 8 (Sh.step r kk ww).at := by
  rw [← stv_wrow]
  have e5 := add5_mod_iv r.h (S1 r.e) (shCh r.e r.f r.g) kk ww
  have e2 := add_mod_iv (S0 r.a) (maj r.a r.b r.c)
  have ea := add_mod_iv (t1 r kk ww) (t2 r)
  have ed := add_mod_iv r.d (t1 r kk ww)
  have h5 : iv (t1 r kk ww) = (iv r.h + iv (S1 r.e) + iv (shCh r.e r.f r.g) + iv kk + iv ww) % 4294967296 := e5.symm
  have h2 : iv (t2 r) = (iv (S0 r.a) + iv (maj r.a r.b r.c)) % 4294967296 := e2.symm
  have ga : (iv r.h + iv (S1 r.e) + iv (shCh r.e r.f r.g) + iv kk + iv ww + (iv (S0 r.a) + iv (maj r.a r.b r.c))) % 4294967296 = iv (t1 r kk ww + t2 r) := by rw [← ea, h5, h2]; omega
  have gd : (iv r.d + (iv r.h + iv (S1 r.e) + iv (shCh r.e r.f r.g) + iv kk + iv ww)) % 4294967296 = iv (r.d + t1 r kk ww) := by rw [← ed, h5]; omega
  show #[Value.int .u32 ((iv r.h + iv (S1 r.e) + iv (shCh r.e r.f r.g) + iv kk + iv ww + (iv (S0 r.a) + iv (maj r.a r.b r.c))) % 4294967296), u r.a, u r.b, u r.c, Value.int .u32 ((iv r.d + (iv r.h + iv (S1 r.e) + iv (shCh r.e r.f r.g) + iv kk + iv ww)) % 4294967296), u r.e, u r.f, u r.g] = _
  rw [ga, gd]; rfl

set_option maxRecDepth 100000 in
set_option maxHeartbeats 4000000 in
theorem ref_block (s : St) (m : List B8) (gb ob c : Nat) (w : World) (hm : ∀ j, j < 64 → w.cell? ⟨gb, ob + j, none⟩ = some (byt (m.getD j 0))) :
    Calls Tryd.prog 71 #[.agg (stv s), .slice (some ⟨gb, ob, none⟩) 64 c] w fun e w' => e = .returned (.agg (stv (block s m))) ∧ Below w.heap.size w w' := by
  rw [stv_wrow, stv_wrow]
  have hgb : gb < w.heap.size := block_lt_of_cell (hm 0 (by omega))
  have HM := Lib.hid hm
  clear hm
  have HI8 : Hid ((Tryd.prog.info? 117).map (·.size) = some 8) := Lib.hid (by kernel_rfl)
  go_enter Tryd.func71, Tryd.ntmps71
  go_wp2
  go_loopw [6] (fun i wr => ∃ k : Nat, k ≤ 16 ∧ i = .int .i64 k ∧ RefRel s m w k wr) (fun i _ => 16 - (intOf i).toNat)
  case atStart =>
    refine ⟨0, by omega, rfl, (((Below.refl _ _).alloc (Nat.le_refl _) _).alloc (by simp) _).alloc (by simp; omega) _, ?_, ⟨_, ?_, (Whole.at_ _ _ _ _ (by simp)).alloc _⟩, fun _ => 0, ?_, fun j hj => by omega⟩
    · exact ((Whole.here _ _ _).alloc _).alloc _
    · rfl
    · rw [wrow_zero]; exact Whole.at_ _ _ _ _ (by simp)
  case round =>
    obtain ⟨k, hk, rfl, hrel⟩ := hrel
    obtain ⟨f, h2, hf⟩ := hrel.2.2.2
    by_cases hlt : k < 16
    · -- R1
      have hc : ∀ j, j < 64 → wr.cell? ⟨gb, ob + j, none⟩ = some (byt (m.getD j 0)) := fun j hj => (hrel.1.cell (p := ⟨gb, ob + j, none⟩) hgb).trans (HM.out j hj)
      have b0 := hc (4 * k) (by omega)
      have b1 := hc (4 * k + 1) (by omega)
      have b2 := hc (4 * k + 2) (by omega)
      have b3 := hc (4 * k + 3) (by omega)
      have c0 := (h2.cell k).trans (wrow_get 64 _ k (by omega))
      have hz := h2.frozen k
      clear hc
      have i0 : (0 : Int) ≤ 4 * (k : Int) ∧ 4 * (k : Int) < 64 := by omega
      have i1 : (0 : Int) ≤ 4 * (k : Int) + 1 ∧ 4 * (k : Int) + 1 < 64 := by omega
      have i2 : (0 : Int) ≤ 4 * (k : Int) + 2 ∧ 4 * (k : Int) + 2 < 64 := by omega
      have i3 : (0 : Int) ≤ 4 * (k : Int) + 3 ∧ 4 * (k : Int) + 3 < 64 := by omega
      have i4 : (k : Int) < 64 := by omega
      have n0 : (4 * (k : Int)).toNat = 4 * k := by omega
      have n1 : (4 * (k : Int) + 1).toNat = 4 * k + 1 := by omega
      have n2 : (4 * (k : Int) + 2).toNat = 4 * k + 2 := by omega
      have n3 : (4 * (k : Int) + 3).toNat = 4 * k + 3 := by omega
      go_wp2
      refine wp_region_still_tail 35 (by kernel_rfl) (by kernel_rfl) ?_
      simp only [List.take_succ_cons, List.take_zero, List.drop_succ_cons, List.drop_zero]
      change wpStill _ _ wr.drew (fun a' => wpList _ _ _ _ a' wr.drew) _ _
      repeat (refine wpStill_step (fun K hK => ?_); go_simp; (try go_bits); refine hK _ ?_; clear hK K)
      refine wpStill_nil ?_
      have hn := (hrel.step h2 hf (by omega) (first m k) (wAt_first m k hlt).symm).drew
      rw [u, first, ← word_walk] at hn
      have HN := Lib.hid hn
      clear hn
      go_wp2
      go_roundw
      case rel => exact ⟨k + 1, by omega, by go_num, HN.out⟩
      case measure => simp [intOf]; omega
      -- R1 ends
    · have hrel1 : RefRel s m w 16 wr := ⟨hrel.1, hrel.2.1, hrel.2.2.1, f, h2, fun j hj => hf j (by omega)⟩
      clear h2 hf f hrel
      go_wp2
      go_loopw [7] (fun i wr => ∃ k : Nat, 16 ≤ k ∧ k ≤ 64 ∧ i = .int .i64 k ∧ RefRel s m w k wr) (fun i _ => 64 - (intOf i).toNat)
      case atStart => exact ⟨16, by omega, by omega, rfl, hrel1⟩
      case round =>
        clear hrel1
        obtain ⟨k, hk16, hk, rfl, hrel⟩ := hrel
        obtain ⟨f, h2, hf⟩ := hrel.2.2.2
        by_cases hlt : k < 64
        · -- R2
          have hc : ∀ j : Nat, j < 64 → wr.cell? ⟨w.heap.size + 1 + 1, j, none⟩ = some (u (f j)) := fun j hj => (h2.cell j).trans (wrow_get 64 f j hj)
          have c2 := hc (k - 2) (by omega)
          have c7 := hc (k - 7) (by omega)
          have c15 := hc (k - 15) (by omega)
          have c16 := hc (k - 16) (by omega)
          have c0 := hc k hlt
          have hz := h2.frozen k
          clear hc
          have hx := bits_xor_iv
          have d10 : iv (f (k - 2)) / (1024 : Int) = iv (f (k - 2) >>> 10) := shr_div_iv _ 10
          have d3 : iv (f (k - 15)) / (8 : Int) = iv (f (k - 15) >>> 3) := shr_div_iv _ 3
          have i2 : (2 : Int) ≤ (k : Int) ∧ (k : Int) - 2 < 64 := by omega
          have i7 : (7 : Int) ≤ (k : Int) ∧ (k : Int) - 7 < 64 := by omega
          have i15 : (15 : Int) ≤ (k : Int) ∧ (k : Int) - 15 < 64 := by omega
          have i16 : (16 : Int) ≤ (k : Int) ∧ (k : Int) - 16 < 64 := by omega
          have n2 : ((k : Int) - 2).toNat = k - 2 := by omega
          have n7 : ((k : Int) - 7).toNat = k - 7 := by omega
          have n15 : ((k : Int) - 15).toNat = k - 15 := by omega
          have n16 : ((k : Int) - 16).toNat = k - 16 := by omega
          go_wp2
          go_quiet (fail)
          go_wp2
          refine wp_region_still_tail 29 (by kernel_rfl) (by kernel_rfl) ?_
          simp only [List.take_succ_cons, List.take_zero, List.drop_succ_cons, List.drop_zero]
          change wpStill _ _ (wr.drewN nq).drew (fun a' => wpList _ _ _ _ a' (wr.drewN nq).drew) _ _
          repeat (refine wpStill_step (fun K hK => ?_); go_simp; (try go_bits); refine hK _ ?_; clear hK K)
          refine wpStill_step (fun K hK => ?_)
          go_simp
          refine ⟨_, (rotated _ 17 (by omega) (by omega) _).mono fun _ _ h => ⟨h.1, h.2.symm⟩, hK _ ?_⟩
          clear hK K
          repeat (refine wpStill_step (fun K hK => ?_); go_simp; (try go_bits); refine hK _ ?_; clear hK K)
          refine wpStill_step (fun K hK => ?_)
          go_simp
          refine ⟨_, (rotated _ 19 (by omega) (by omega) _).mono fun _ _ h => ⟨h.1, h.2.symm⟩, hK _ ?_⟩
          clear hK K
          repeat (refine wpStill_step (fun K hK => ?_); go_simp; (try go_bits); refine hK _ ?_; clear hK K)
          refine wpStill_step (fun K hK => ?_)
          go_simp
          refine ⟨_, (rotated _ 7 (by omega) (by omega) _).mono fun _ _ h => ⟨h.1, h.2.symm⟩, hK _ ?_⟩
          clear hK K
          repeat (refine wpStill_step (fun K hK => ?_); go_simp; (try go_bits); refine hK _ ?_; clear hK K)
          refine wpStill_step (fun K hK => ?_)
          go_simp
          refine ⟨_, (rotated _ 18 (by omega) (by omega) _).mono fun _ _ h => ⟨h.1, h.2.symm⟩, hK _ ?_⟩
          clear hK K
          repeat (refine wpStill_step (fun K hK => ?_); go_simp; (try go_bits); refine hK _ ?_; clear hK K)
          refine wpStill_nil ?_
          have e := add4_mod_iv (s1 (f (k - 2))) (f (k - 7)) (s0 (f (k - 15))) (f (k - 16))
          have hn := (hrel.drewN (nq + 1)).step (h2.drewN _) hf hlt (s1 (f (k - 2)) + f (k - 7) + s0 (f (k - 15)) + f (k - 16)) (by
            rw [wAt_next m k hk16 hlt, hf _ (by omega), hf _ (by omega), hf _ (by omega), hf _ (by omega)])
          rw [u, ← e, s1, s0] at hn
          have HN := Lib.hid hn
          clear hn e
          go_wp2
          go_roundw
          case rel => exact ⟨k + 1, by omega, by omega, by go_num, HN.out⟩
          case measure => simp [intOf]; omega
          -- R2 ends
        · have hf' : wrow 64 f = wrow 64 (wAt m) := wrow_congr fun j hj => hf j (by omega)
          rw [hf'] at h2
          clear hf hf'
          obtain ⟨hb, c0, ⟨z, hz, c1⟩, _⟩ := hrel
          go_wp2_with fail
          refine (ref_constants _).mono ?_
          rintro e W1 ⟨rfl, hb1⟩
          have hbw := hb.trans (hb1.mono hb.size)
          have c0' := c0.below hb1 c0.lt
          have c1' := c1.below hb1 c1.lt
          have h2' := h2.below hb1 h2.lt
          have hg : w.heap.size + 1 + 1 < W1.heap.size := h2'.lt
          clear hb1 hb c0 c1 h2
          go_wp2_with (first
            | (with_reducible refine wpList_store_row rfl 130 _ _ rfl W1.heap.size _ rfl rfl _ _ ((Whole.at_ _ _ _ _ rfl).eq) (by rw [wrow_size]; kernel_rfl) (by simp [wrow_size]) (wrow_one _ _) ?_; rw [World.setRow_alloc_new])
            | (with_reducible refine wpList_load_row rfl 117 _ rfl w.heap.size rfl _ _ _ _ (c0'.alloc _).eq Tryd.underlying117 rfl (by rw [wrow_size]; kernel_rfl) ?_)
            | (with_reducible refine wpList_store_row rfl 117 _ _ rfl (W1.heap.size + 1) _ rfl rfl _ _ ((Whole.at_ _ _ _ _ (by simp)).eq) (by rw [wrow_size]; kernel_rfl) (by simp [wrow_size]) (wrow_one _ _) ?_))
          have hr0 : RefRound s m w W1.heap.size s (((W1.alloc (.cells (wrow 64 kAt) 130)).alloc (.cells (Array.replicate 8 (.int .u32 0)) 117)).setRow (W1.heap.size + 1) (wrow 8 s.at)) :=
            ⟨below_setRow ((hbw.alloc (by omega) _).alloc (by simp; omega) _) (by omega) _, ((c0'.alloc _).alloc _).setRow_far (by omega) _, ⟨z, hz, ((c1'.alloc _).alloc _).setRow_far (by omega) _⟩, ((h2'.alloc _).alloc _).setRow_far (by omega) _,
              ((Whole.here _ _ _).alloc _).setRow_far (by omega) _, (Whole.at_ _ _ _ _ (by simp)).setRow _⟩
          have hr1 : RefRound s m w W1.heap.size s (((W1.alloc (.cells (wrow 64 kAt) 130)).alloc (.cells #[.int .u32 0, .int .u32 0, .int .u32 0, .int .u32 0, .int .u32 0, .int .u32 0, .int .u32 0, .int .u32 0] 117)).setRow (W1.heap.size + 1) (wrow 8 s.at)) := hr0
          clear hr0 hbw c0' c1' h2'
          generalize (((W1.alloc (.cells (wrow 64 kAt) 130)).alloc (.cells #[.int .u32 0, .int .u32 0, .int .u32 0, .int .u32 0, .int .u32 0, .int .u32 0, .int .u32 0, .int .u32 0] 117)).setRow (W1.heap.size + 1) (wrow 8 s.at)) = W2 at *
          generalize W1.heap.size = g at *
          clear W1
          go_loopw [12] (fun i wr => ∃ (k : Nat) (r : St), k ≤ 64 ∧ i = .int .i64 k ∧ Hid (r = rounds (wAt m) s k) ∧ RefRound s m w g r wr) (fun i _ => 64 - (intOf i).toNat)
          case atStart => exact ⟨0, s, by omega, rfl, Lib.hid rfl, hr1⟩
          case round =>
            clear hr1 hz
            obtain ⟨k, r, hk, rfl, hr, hrel⟩ := hrel
            by_cases hlt : k < 64
            · have wc := (hrel.2.2.2.1.cell k).trans (wrow_get 64 _ k hlt)
              have kc := (hrel.2.2.2.2.1.cell k).trans (wrow_get 64 _ k hlt)
              have v0 : _ = some (u r.a) := (hrel.2.2.2.2.2.cell 0).trans (wrow_get 8 r.at 0 (by omega))
              have v1 : _ = some (u r.b) := (hrel.2.2.2.2.2.cell 1).trans (wrow_get 8 r.at 1 (by omega))
              have v2 : _ = some (u r.c) := (hrel.2.2.2.2.2.cell 2).trans (wrow_get 8 r.at 2 (by omega))
              have v3 : _ = some (u r.d) := (hrel.2.2.2.2.2.cell 3).trans (wrow_get 8 r.at 3 (by omega))
              have v4 : _ = some (u r.e) := (hrel.2.2.2.2.2.cell 4).trans (wrow_get 8 r.at 4 (by omega))
              have v5 : _ = some (u r.f) := (hrel.2.2.2.2.2.cell 5).trans (wrow_get 8 r.at 5 (by omega))
              have v6 : _ = some (u r.g) := (hrel.2.2.2.2.2.cell 6).trans (wrow_get 8 r.at 6 (by omega))
              have v7 : _ = some (u r.h) := (hrel.2.2.2.2.2.cell 7).trans (wrow_get 8 r.at 7 (by omega))
              have hx := bits_xor_iv
              have hy := bits_and_iv
              have hz := bits_not_iv
              have hu := u32_unsigned
              go_wp2
              go_quiet (fail)
              have hra := hrel.drewN nq
              go_wp2
              go_quiet ((go_at_call 79; exact Calls.quiet_add_same ((rotatedI _ _ (by decide) (by decide) _).mono fun _ _ h => ⟨h.1, h.2.symm⟩)))
              have hrb := hra.drewN nq
              rw [World.drewN_drewN] at hrb
              have hvr := hrb.2.2.2.2.2
              go_wp2_with (first
                | (go_at_call 79; refine (rotatedI _ _ (by decide) (by decide) _).mono ?_; rintro e w' ⟨rfl, rfl⟩)
                | (with_reducible refine wpList_store_row rfl 117 _ _ rfl (g + 1) _ rfl rfl _ _ hvr.eq ?_ ?_ ?_ ?_))
              · exact HI8.out
              · simp [wrow_size]
              · simp [Value.oneCell']
              · have hn := hrb.setRow hg (Sh.step r (kAt k) (wAt m k))
                rw [← ref_step_cells] at hn
                have HN := Lib.hid hn
                clear hn
                go_roundw
                case rel => exact ⟨k + 1, _, by omega, by go_num, Lib.hid (by rw [hr.out]; rfl), HN.out⟩
                case measure => simp [intOf]; omega
            · have hr' : Hid (r = rounds (wAt m) s 64) := by rw [show 64 = k by omega]; exact hr
              clear hr
              obtain ⟨hb, c0, ⟨z, hz, c1⟩, _, _, cv⟩ := hrel
              go_wp2
              go_loopw [21] (fun i wr => ∃ k : Nat, k ≤ 8 ∧ i = .int .i64 k ∧ Below w.heap.size w wr ∧ Whole wr w.heap.size 117 (wrow 8 (shMix s r k)) ∧ Whole wr (w.heap.size + 1) 117 z ∧ Whole wr (g + 1) 117 (wrow 8 r.at)) (fun i _ => 8 - (intOf i).toNat)
              case atStart => exact ⟨0, by omega, rfl, hb, by rw [shMix_zero]; exact c0, c1, cv⟩
              case round =>
                clear hb c0 c1 cv
                obtain ⟨j, hj, rfl, hb, c0, c1, cv⟩ := hrel
                by_cases hlt8 : j < 8
                · have a1 := (c0.cell j).trans (wrow_get 8 _ j hlt8)
                  have a3 := (cv.cell j).trans (wrow_get 8 _ j hlt8)
                  have a2 := c0.frozen j
                  have i0 : (j : Int) < 8 := by omega
                  have ej : shMix s r j j = s.at j := by unfold shMix; rw [if_neg (by omega)]
                  have hn : Whole (wr.setCell ⟨w.heap.size, j, none⟩ (u (shMix s r j j + r.at j))).drew w.heap.size 117 (wrow 8 (shMix s r (j + 1))) := by
                    have := (c0.set j (u (shMix s r j j + r.at j))).drew
                    rw [wrow_set 8 _ j _ hlt8] at this
                    rw [show shMix s r (j + 1) = fun i => if i = j then shMix s r j j + r.at j else shMix s r j i from funext fun i => by rw [mix_succ, ej]]
                    exact this
                  rw [u, ← add_mod_iv] at hn
                  have HN := Lib.hid hn
                  clear hn ej
                  go_wp2
                  refine wp_region_still_tail 9 (by kernel_rfl) (by kernel_rfl) ?_
                  simp only [List.take_succ_cons, List.take_zero, List.drop_succ_cons, List.drop_zero]
                  change wpStill _ _ wr.drew (fun a' => wpList _ _ _ _ a' wr.drew) _ _
                  repeat (refine wpStill_step (fun K hK => ?_); go_simp; (try go_bits); refine hK _ ?_; clear hK K)
                  refine wpStill_nil ?_
                  go_wp2
                  go_roundw
                  case rel => exact ⟨j + 1, by omega, by go_num, (hb.setCell (by simp) _).drew, HN.out, (c1.far (by simp) _).drew, (cv.far (by simp; omega) _).drew⟩
                  case measure => simp [intOf]; omega
                · have ex : wrow 8 (shMix s r j) = wrow 8 (block s m).at := by
                    refine wrow_congr fun i hi => ?_
                    rw [show j = 8 by omega, shMix_all s r i hi, block, ← hr'.out]
                  rw [ex] at c0
                  clear ex
                  go_wp2_with (first
                    | (with_reducible refine wpList_load_row rfl 117 _ rfl w.heap.size rfl _ _ _ _ c0.eq Tryd.underlying117 rfl (by rw [wrow_size]; kernel_rfl) ?_)
                    | (with_reducible refine wpList_store_row rfl 117 _ _ rfl (w.heap.size + 1) _ rfl rfl _ _ c1.eq (by rw [wrow_size]; kernel_rfl) (by rw [wrow_size]; exact hz) (wrow_one _ _) ?_))
                  have h3 := c1.setRow (wrow 8 (block s m).at)
                  refine bodyPost_ret (results_cell_row Tryd.results71 _ _ (w.heap.size + 1) _ _ _ _ rfl h3 Tryd.underlying117 rfl (by rw [wrow_size]; kernel_rfl)) rfl ⟨rfl, below_setRow hb (by omega) _⟩
end Go.Proofs.YteekdhcffiaaaaaDoor
