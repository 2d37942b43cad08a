/-
  The reference's State by its contract.
-/
import Derived.Test.YtbbpdcnmoabooaaDoorShaStep
import Derived.Test.YtbbpdcnmoabooaaDoorShaSumLaw
import Derived.Test.YtbbpdcnmoabooaaDoorHmacDig
namespace Go.Proofs.YtbbpdcnmoabooaaDoor
open Go Go.RowKit Sh Leaf

abbrev hashZero : Array Value := #[.int .u32 0, .int .u32 0, .int .u32 0, .int .u32 0, .int .u32 0, .int .u32 0, .int .u32 0, .int .u32 0, .slice none 0 0, .int .i64 0]
def StLoop (w : World) (l : List B8) (vm : Value) (gh q : Nat) (wr : World) : Prop :=
  64 * q ≤ l.length ∧ Bytes wr (fun g => g ≠ gh ∧ g ≠ w.heap.size) vm l ∧ Whole wr gh 32 (wrow 8 (blocks init l q).at) ∧ Whole wr w.heap.size 34 hashZero ∧ Below w.heap.size w wr

theorem whole_set10 {w : World} {g : Nat} {t : TypeId} {c0 c1 c2 c3 c4 c5 c6 c7 c8 c9 : Value} (h : Whole w g t #[c0, c1, c2, c3, c4, c5, c6, c7, c8, c9]) (v0 v1 v2 v3 v4 v5 v6 v7 v8 v9 : Value) :
    Whole ((((((((((w.setCell ⟨g, 0, none⟩ v0).setCell ⟨g, 1, none⟩ v1).setCell ⟨g, 2, none⟩ v2).setCell ⟨g, 3, none⟩ v3).setCell ⟨g, 4, none⟩ v4).setCell ⟨g, 5, none⟩ v5).setCell ⟨g, 6, none⟩ v6).setCell ⟨g, 7, none⟩ v7).setCell ⟨g, 8, none⟩ v8).setCell ⟨g, 9, none⟩ v9) g t #[v0, v1, v2, v3, v4, v5, v6, v7, v8, v9] := by
  have h1 := ((((((((((h.set 0 v0).set 1 v1).set 2 v2).set 3 v3).set 4 v4).set 5 v5).set 6 v6).set 7 v7).set 8 v8).set 9 v9)
  simp only [List.setIfInBounds_toArray, List.set_cons_zero, List.set_cons_succ] at h1
  exact h1
theorem bytes_set10 {w : World} {Q : Nat → Prop} {v : Value} {l : List B8} (h : Bytes w Q v l) {g : Nat} (hg : ∀ b, Q b → b ≠ g) (v0 v1 v2 v3 v4 v5 v6 v7 v8 v9 : Value) :
    Bytes ((((((((((w.setCell ⟨g, 0, none⟩ v0).setCell ⟨g, 1, none⟩ v1).setCell ⟨g, 2, none⟩ v2).setCell ⟨g, 3, none⟩ v3).setCell ⟨g, 4, none⟩ v4).setCell ⟨g, 5, none⟩ v5).setCell ⟨g, 6, none⟩ v6).setCell ⟨g, 7, none⟩ v7).setCell ⟨g, 8, none⟩ v8).setCell ⟨g, 9, none⟩ v9) Q v l := ((((((((((h.set hg v0).set hg v1).set hg v2).set hg v3).set hg v4).set hg v5).set hg v6).set hg v7).set hg v8).set hg v9)
theorem below_set10 {B : Nat} {a w : World} (h : Below B a w) {g : Nat} (hg : B ≤ g) (v0 v1 v2 v3 v4 v5 v6 v7 v8 v9 : Value) :
    Below B a ((((((((((w.setCell ⟨g, 0, none⟩ v0).setCell ⟨g, 1, none⟩ v1).setCell ⟨g, 2, none⟩ v2).setCell ⟨g, 3, none⟩ v3).setCell ⟨g, 4, none⟩ v4).setCell ⟨g, 5, none⟩ v5).setCell ⟨g, 6, none⟩ v6).setCell ⟨g, 7, none⟩ v7).setCell ⟨g, 8, none⟩ v8).setCell ⟨g, 9, none⟩ v9) := ((((((((((h.setCell hg v0).setCell hg v1).setCell hg v2).setCell hg v3).setCell hg v4).setCell hg v5).setCell hg v6).setCell hg v7).setCell hg v8).setCell hg v9)

set_option maxRecDepth 100000 in
set_option maxHeartbeats 2000000 in
theorem ref_state (v : Value) (l : List B8) (Q : Nat → Prop) (w : World) (hr : Bytes w Q v l) (hl : l.length ≤ 1000000) :
    Calls Tryd.prog 18 #[v] w fun e w' => ∃ v', e = .returned (.agg (hstate l v')) ∧ Bytes w' (fun g => w.heap.size ≤ g) v' (restOf l) ∧ Below w.heap.size w w' := by
  obtain ⟨A, c, rfl, -⟩ := id hr
  have hx0 : ∀ o, Below w.heap.size w (w.alloc o) := fun o => (Below.refl _ _).alloc (Nat.le_refl _) o
  have k0 : Whole (w.alloc (.cells hashZero 34)) w.heap.size 34 hashZero := Whole.here _ _ _
  have hr0 := fun o => hr.alloc o
  go_enter Tryd.func18, Tryd.ntmps18
  go_wp2_with fail
  refine (ref_initial _).mono ?_
  rintro e w1 ⟨rfl, hb1⟩
  have k1 := k0.below hb1 (by simp)
  have hw1 := (hx0 _).trans (hb1.mono (hx0 _).size)
  have hr1 : Bytes w1 (fun g => g < w.heap.size) (.slice A l.length c) l := (hr.mono fun g hg _ => hg).below hw1 (Nat.le_refl _)
  have hs1 : w.heap.size < w1.heap.size := k1.lt
  clear hb1 hx0 k0 hr0 hr
  go_wp2_with (first
    | (with_reducible refine wpList_store_row rfl 32 _ _ rfl w1.heap.size _ rfl rfl _ _ ((Whole.at_ _ _ _ _ rfl).eq) ?_ ?_ ?_ ?_))
  · kernel_rfl
  · rfl
  · simp [Value.oneCell']
  rw [World.setRow_alloc_new]
  have HI8 : Hid ((Tryd.prog.info? 32).map (·.size) = some 8) := Lib.hid (by kernel_rfl)
  have hrel0 : StLoop w l (.slice A l.length c) w1.heap.size 0 (w1.alloc (.cells (stv init) 32)) :=
    ⟨by omega, (hr1.mono fun g hg h => ⟨by omega, by omega⟩).alloc _, by rw [stv_wrow]; exact Whole.here _ _ _, k1.alloc _, hw1.alloc hw1.size _⟩
  have HR0 := Lib.hid hrel0
  clear hrel0 hr1 k1 hw1
  go_wp2
  go_loopw [4] (fun i wr => ∃ q : Nat, i = .int .i64 (64 * (q : Int)) ∧ StLoop w l (.slice A l.length c) w1.heap.size q wr) (fun i _ => l.length - (intOf i).toNat)
  case atStart => exact ⟨0, rfl, HR0.out⟩
  case round =>
    clear HR0
    obtain ⟨q, rfl, hq, hm, hh, hkw, hkb⟩ := hrel
    by_cases hq1 : 64 * q + 64 ≤ l.length
    · obtain ⟨g, o, c', hsl, hQ, hcells⟩ := bytes_mid hm q hq1
      have hr8 : wr.rangeAt w1.heap.size 0 (stl (blocks init l q)) := by
        have := World.rangeAt_of_block hh.eq 0 8
        rw [← stv_wrow] at this
        exact this
      have HSL := Lib.hid hsl
      have HC := Lib.hid hcells
      clear hsl hcells
      go_wp2
      refine wp_region_still_tail 6 (by kernel_rfl) (by kernel_rfl) ?_
      simp only [List.take_succ_cons, List.take_zero, List.drop_succ_cons, List.drop_zero]
      change wpStill _ _ wr.drew (fun a' => wpList _ _ _ _ a' wr.drew) _ _
      refine wpStill_load_run rfl 32 _ rfl w1.heap.size 0 rfl (stl (blocks init l q)) _ ((World.rangeAt_drew _ _ _ _).2 hr8) Tryd.underlying32 rfl (by kernel_rfl) ?_
      refine wpStill_step (fun K hK => ?_); go_simp; refine hK _ ?_; clear hK K
      refine wpStill_step (fun K hK => ?_); go_simp; refine hK _ ?_; clear hK K
      refine wpStill_step (fun K hK => ?_); go_simp; refine hK _ ?_; clear hK K
      refine wpStill_step (fun K hK => ?_); go_simp; (try go_bits); refine hK _ ?_; clear hK K
      refine wpStill_slice_run rfl 22 _ _ _ _ rfl _ (HSL.out _) ?_
      refine wpStill_nil ?_
      clear hr8 HSL
      go_wp2_with fail
      refine (ref_block (blocks init l q) ((l.drop (64 * q)).take 64) g o c' wr.drew HC.out).mono ?_
      rintro e w6 ⟨rfl, hb6⟩
      rw [← blocks_succ]
      have hm6 := (hm.drew).below hb6 (Nat.le_refl _)
      have hh6 := Whole.below hh.drew hb6 hh.lt
      have hkw6 := Whole.below hkw.drew hb6 hkw.lt
      have hkb6 := (hkb.drew).trans (hb6.mono hkb.size)
      clear hm hh hkw hkb hb6 HC hQ
      go_wp2_with (with_reducible refine wpList_store_row rfl 32 _ _ rfl w1.heap.size _ rfl rfl _ _ hh6.eq ?_ ?_ ?_ ?_)
      · exact HI8.out
      · simp [wrow_size]
      · simp [Value.oneCell']
      · have hn : StLoop w l (.slice A l.length c) w1.heap.size (q + 1) (w6.setRow w1.heap.size (stv (blocks init l (q + 1)))) :=
          ⟨by omega, hm6.setRow (fun g hg => hg.1) _, by rw [stv_wrow]; exact hh6.setRow _, hkw6.setRow_far (by omega) _, below_setRow hkb6 (by omega) _⟩
        have HN := Lib.hid hn
        clear hn hm6 hh6 hkw6 hkb6
        go_roundw
        case rel => exact ⟨q + 1, by go_num, HN.out⟩
        case measure => simp [intOf]; omega
    · have hqq : q = l.length / 64 := by omega
      have hst : blocks init l q = stAfter l := by unfold stAfter; rw [hqq]
      rw [hst] at hh
      have hz := hm.drop (64 * q) (by omega)
      have hrest : l.drop (64 * q) = restOf l := by unfold restOf; rw [hqq]
      rw [hrest] at hz
      have hcut := fun W => run_cut_from A l.length c (64 * q) (by omega) W
      rw [show (((64 * q : Nat)) : Int) = 64 * (q : Int) by omega] at hcut
      have hrl := restOf_length l
      have hrl2 : l.length - 64 * q = (restOf l).length := by omega
      rw [hrl2] at hz hcut
      generalize (if c = 64 * q then A else A.map (·.add (64 * q))) = A2 at hz hcut
      have hrb : (restOf l).length ≤ 64 := by omega
      clear hst hrest hqq hrl hrl2
      have hc1 : ∀ o, wr.cell? ⟨w1.heap.size, o, none⟩ = (stv (stAfter l))[o]? := fun o => by rw [stv_wrow]; exact hh.cell o
      obtain ⟨s, hs⟩ : ∃ s, s = stAfter l := ⟨_, rfl⟩
      rw [← hs] at hc1
      have HS := Lib.hid hs
      clear hh hs
      have hne : w.heap.size ≠ w1.heap.size := by omega
      have hfar : ∀ (W : World) (i o : Nat) (x : Value), (W.setCell ⟨w.heap.size, i, none⟩ x).cell? ⟨w1.heap.size, o, none⟩ = W.cell? ⟨w1.heap.size, o, none⟩ := fun W i o x => World.cell?_setCell_far W ⟨w.heap.size, i, none⟩ ⟨w1.heap.size, o, none⟩ x hne
      have HFAR := Lib.hid hfar
      clear hfar
      have hne2 : w1.heap.size ≠ w.heap.size := by omega
      have hgl : w1.heap.size < wr.heap.size := by
        have : wr.cell? ⟨w1.heap.size, 0, none⟩ = some (u s.a) := hc1 0
        exact block_lt_of_cell this
      have hgw : w.heap.size < wr.heap.size := hkw.lt
      have HKW := Lib.hid hkw
      have HKB := Lib.hid hkb
      have HZ := Lib.hid hz
      clear hkw hkb hz hm
      have hwl : IntKind.i64.wrap (l.length : Int) = (l.length : Int) := by rw [IntKind.wrap_i64]; omega
      go_wp2
      have hd0 : ∀ o, wr.drew.cell? ⟨w1.heap.size, o, none⟩ = (stv s)[o]? := hc1
      have hd1 : ∀ o, (wr.alloc (.cells #[] 5)).drew.cell? ⟨w1.heap.size, o, none⟩ = (stv s)[o]? := fun o => ((((Below.refl wr.heap.size wr).alloc (Nat.le_refl _) (.cells #[] 5)).drew).cell (p := ⟨w1.heap.size, o, none⟩) hgl).trans (hc1 o)
      go_region_held3 (fun w' => ∀ o, w'.cell? ⟨w1.heap.size, o, none⟩ = (stv s)[o]?)
        (first
          | (with_reducible assumption)
          | (intro o; simp only [HFAR.out]; with_reducible exact hd7 o))
        (first
          | (refine step_append_bytes (by rfl) _ _ (by rfl) wr.heap.size (.slice (some ⟨wr.heap.size, 0, none⟩) 0 0) [] (by rfl) (own_lit_at wr.drew wr.heap.size wr.heap.size [] rfl (Nat.le_refl _) (by simp)) _ _ (restOf l) (by rfl) (HZ.out.drew.alloc _) (by simp; omega) (by simp) ?_; intro v7 w7 hown7 hb7; rw [List.nil_append] at hown7; obtain ⟨A7, c7, rfl, -⟩ := id (Bytes.of_own hown7); have hq7 : Below wr.heap.size wr w7 := (((Below.refl _ _).drew).alloc (Nat.le_refl _) _).trans hb7; have hd7 : ∀ o, w7.cell? ⟨w1.heap.size, o, none⟩ = (stv s)[o]? := fun o => (hq7.cell (p := ⟨w1.heap.size, o, none⟩) hgl).trans (hc1 o); have hk7 := HKW.out.below hq7 hgw; have hk7c : ∀ o, w7.cell? ⟨w.heap.size, o, none⟩ = hashZero[o]? := fun o => hk7.cell o; have hk7f : ∀ o, w7.frozen? ⟨w.heap.size, o, none⟩ = false := fun o => hk7.frozen o))
      have hbz : Bytes w7 (fun g => wr.heap.size ≤ g) (.slice A7 (restOf l).length c7) (restOf l) := Bytes.of_own hown7
      have hgn : ∀ g, wr.heap.size ≤ g → g ≠ w.heap.size := fun g hg => by omega
      have hq := HKB.out.trans (hq7.mono HKB.out.size)
      have hkz : w.heap.size ≤ wr.heap.size := by omega
      refine (‹∀ (a : Act) (w : World), Code.wp Tryd.prog Code.ret _ a w → _›) _ _ ?_
      apply wp_ret
      refine bodyPost_ret (results_cell_row Tryd.results18 _ _ w.heap.size 34 (hashv s (.slice A7 (restOf l).length c7) l.length) _ _ rfl (whole_set10 hk7 _ _ _ _ _ _ _ _ _ _) Tryd.underlying34 rfl (by kernel_rfl)) rfl ⟨.slice A7 (restOf l).length c7, by rw [HS.out], ?_, below_set10 hq (Nat.le_refl _) _ _ _ _ _ _ _ _ _ _⟩
      exact (bytes_set10 hbz hgn _ _ _ _ _ _ _ _ _ _).mono fun g _ hg => Nat.le_trans hkz hg
end Go.Proofs.YtbbpdcnmoabooaaDoor
