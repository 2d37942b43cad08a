/-
  The law's same: two states with equal parts.
-/
import Derived.Test.YtbbpdcnmoabooaaDoorShaRefState
import Derived.Test.YtbbpdcnmoabooaaDoorHmacEqual
namespace Go.Proofs.YtbbpdcnmoabooaaDoor
open Go Go.RowKit Sh Leaf

theorem run_equalIn_words {P : Program} (w : World) (d : Nat) (t e : TypeId) (n : Nat) (ht : P.underlying t = some (.array n e)) (he : P.underlying e = some (.int .u32)) (hsz : ∀ w, (sizeOf e).run P w = .ok 1 w) (f : Nat → W) :
    (Op.equalIn (d + 2) t (.agg (wrow n f)) (.agg (wrow n f))).run P w = .ok true w := by
  rw [Op.equalIn]
  simp only [Sem.run_bind, run_underlying ht, Result.andThen_ok, hsz, Std.Legacy.Range.forIn_eq_forIn_range', Std.Legacy.Range.size, Nat.sub_zero, Nat.add_sub_cancel, Nat.div_one]
  have hl : ∀ i ∈ List.range' 0 n 1, i < n := fun i hi => by simpa using (List.mem_range'_1.1 hi).2
  generalize List.range' 0 n 1 = l at hl ⊢
  induction l with
  | nil => simp
  | cons i l ih =>
    have hi : i < n := hl i (by simp)
    have px : (Go.part e (wrow n f) (i * 1)).run P w = .ok (u (f i)) w := by
      have hg := wrow_get n f i hi
      simp [Go.part, isAgg, run_underlying he, hg]
    have pe : (Op.equalIn (d + 1) e (u (f i)) (u (f i))).run P w = .ok true w := by
      rw [run_equalIn_int w d e .u32 .u32 _ _ he]
      simp
    simp only [List.forIn_cons, Sem.run_bind, px, pe, Result.andThen_ok]
    simp only [Bool.not_true, Bool.false_eq_true, if_false, Sem.run_pure, Result.andThen_ok]
    exact ih fun j hj => hl j (by simp [hj])
theorem run_equalIn_state (s : St) (w : World) : (Op.equalIn 10000 32 (.agg #[u s.a, u s.b, u s.c, u s.d, u s.e, u s.f, u s.g, u s.h]) (.agg #[u s.a, u s.b, u s.c, u s.d, u s.e, u s.f, u s.g, u s.h])).run Tryd.prog w = .ok true w := by
  have := run_equalIn_words (P := Tryd.prog) w 9998 32 31 8 Tryd.underlying32 Tryd.underlying31 (fun W => run_sizeOf_one (by kernel_rfl) W) s.at
  rw [← stv_wrow] at this
  exact this

set_option maxHeartbeats 1000000 in
theorem same_states (s : St) (v1 v2 : Value) (n : Int) (r : List B8) (Q1 Q2 : Nat → Prop) (w : World) (h1 : Bytes w Q1 v1 r) (h2 : Bytes w Q2 v2 r) (hr : r.length ≤ 1000) :
    Calls Tryd.prog 16 #[.agg (hashv s v1 n), .agg (hashv s v2 n)] w fun e w' => e = .returned (.bool true) ∧ Below w.heap.size w w' := by
  obtain ⟨A1, c1, rfl, -⟩ := id h1
  obtain ⟨A2, c2, rfl, -⟩ := id h2
  have k1 := fun o o' => (h1.alloc o).alloc o'
  have k2 := fun o o' => (h2.alloc o).alloc o'
  have hx : ∀ o o', Below w.heap.size w ((w.alloc o).alloc o') := fun o o' => ((Below.refl _ _).alloc (Nat.le_refl _) _).alloc (by simp) _
  have K1 := Lib.hid k1
  have K2 := Lib.hid k2
  have HX := Lib.hid hx
  clear k1 k2 hx h1 h2
  go_enter Tryd.func16, Tryd.ntmps16
  have heq := run_equalIn_state s
  go_wp2_with fail
  refine (same_ _ _ r r _ _ _ (K1.out _ _) (K2.out _ _) (by omega) (by omega)).mono ?_
  rintro e w1 ⟨rfl, hb1⟩
  rw [show decide (r = r) = true by simp]
  have hw1 := (HX.out _ _).trans (hb1.mono (HX.out _ _).size)
  clear hb1 K1 K2 HX
  go_wp2
  go_ret
  exact ⟨rfl, hw1⟩
end Go.Proofs.YtbbpdcnmoabooaaDoor
