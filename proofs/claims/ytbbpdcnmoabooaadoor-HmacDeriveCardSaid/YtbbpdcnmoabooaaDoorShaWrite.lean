/-
  Package sha: 'Write' by its contract.
-/
import Derived.Test.YtbbpdcnmoabooaaDoorShaComp
import Derived.Test.YtbbpdcnmoabooaaDoorShaConcat
import Derived.Test.YtbbpdcnmoabooaaDoorShaLaws
namespace Go.Proofs.YtbbpdcnmoabooaaDoor
open Go Go.RowKit Sh Leaf

abbrev hashv (s : St) (v : Value) (n : Int) : Array Value := #[u s.a, u s.b, u s.c, u s.d, u s.e, u s.f, u s.g, u s.h, v, .int .i64 n]
abbrev stl (s : St) : List Value := [u s.a, u s.b, u s.c, u s.d, u s.e, u s.f, u s.g, u s.h]
theorem Whole.setH {w : World} {g : Nat} {t : TypeId} {s : St} {v : Value} {n : Int} (h : Whole w g t (hashv s v n)) (s' : St) : Whole (w.setCells g 0 (stl s')) g t (hashv s' v n) := by
  have h8 := (((((((h.set 0 (u s'.a)).set 1 (u s'.b)).set 2 (u s'.c)).set 3 (u s'.d)).set 4 (u s'.e)).set 5 (u s'.f)).set 6 (u s'.g)).set 7 (u s'.h)
  simp only [List.setIfInBounds_toArray, List.set_cons_zero, List.set_cons_succ] at h8
  simp only [World.setCells]
  exact h8
theorem Whole.there {w : World} {g : Nat} {t : TypeId} {cs : Array Value} (h : Whole w g t cs) (o n : Nat) (hn : o + n ≤ cs.size) : w.there g o n := fun j hj => by
  refine ⟨?_, h.frozen _⟩
  rw [h.cell, Array.getElem?_eq_getElem (by omega)]; rfl
theorem setCells_far (b : Nat) : ∀ (vs : List Value) (o : Nat) (w : World) (g : Nat), g ≠ b → (w.setCells b o vs).heap[g]? = w.heap[g]?
  | [], _, _, _, _ => rfl
  | _ :: r, o, w, g, hg => by
    rw [World.setCells, setCells_far b r (o + 1) _ g hg, heap_setCell_other _ _ _ _ hg]
theorem setCells_below {B : Nat} (b : Nat) (hb : B ≤ b) : ∀ (vs : List Value) (o : Nat) (w : World), Below B w (w.setCells b o vs)
  | [], _, _ => Below.refl _ _
  | _ :: r, o, w => ((Below.refl B w).setCell hb _).trans (setCells_below b hb r (o + 1) _)
theorem setCells_size (b : Nat) (vs : List Value) (o : Nat) (w : World) : w.heap.size ≤ (w.setCells b o vs).heap.size := (setCells_below b (Nat.le_refl _) vs o w).size

def slen : Value → Nat
  | .slice _ n _ => n
  | _ => 0

/-- What the loop of 'Write' keeps: q blocks of L are done. -/
def WriteRel (s : St) (L : List B8) (vr : Value) (n : Int) (w : World) (q : Nat) (vd : Value) (wr : World) : Prop :=
  64 * q ≤ L.length ∧ Bytes wr (fun g => g ≠ w.heap.size ∧ g ≠ w.heap.size + 1) vd (L.drop (64 * q)) ∧ Whole wr w.heap.size 34 (hashv (blocks s L q) vr n) ∧
  (∃ z, z.size = 10 ∧ Whole wr (w.heap.size + 1) 34 z) ∧ Below w.heap.size w wr ∧ Consts wr

set_option maxHeartbeats 400000 in
theorem write (s : St) (vr vb : Value) (r b : List B8) (n : Nat) (Qr Qb : Nat → Prop) (w : World) (hr : Bytes w Qr vr r) (hb : Bytes w Qb vb b) (hK : Consts w) (hl : r.length + b.length ≤ 1000000000) (hn : n ≤ 1000000000) :
    Calls Tryd.prog 19 #[.agg (hashv s vr (n : Int)), vb] w fun e w' => ∃ v', e = .returned (.agg (hashv (blocks s (r ++ b) ((r ++ b).length / 64)) v' ((n : Int) + (b.length : Int)))) ∧
      Bytes w' (fun g => w.heap.size ≤ g) v' ((r ++ b).drop (64 * ((r ++ b).length / 64))) ∧ Below w.heap.size w w' := by
  have hr' := hr
  have hb' := hb
  obtain ⟨A1, c1, rfl, -⟩ := hr'
  obtain ⟨A2, c2, rfl, -⟩ := hb'
  have HI8 : Hid ((Tryd.prog.info? 32).map (·.size) = some 8) := Lib.hid (by kernel_rfl)
  have HKl : Hid (1 < w.heap.size) := Lib.hid hK.lt
  by_cases h0 : r.length ≤ 0
  focus
    have e0 : r ++ b = b := by rw [List.eq_nil_of_length_eq_zero (Nat.le_zero.1 h0)]; rfl
    have hrel0 : WriteRel s (r ++ b) (.slice A1 r.length c1) ((n : Int) + (b.length : Int)) w 0 (.slice A2 b.length c2) ((w.alloc (.cells (hashv s (.slice A1 r.length c1) ((n : Int) + (b.length : Int))) 34)).alloc (.cells #[.int .u32 0, .int .u32 0, .int .u32 0, .int .u32 0, .int .u32 0, .int .u32 0, .int .u32 0, .int .u32 0, .slice none 0 0, .int .i64 0] 34)) := by
      refine ⟨by omega, ?_, (Whole.here _ _ _).alloc _, ⟨_, rfl, Whole.at_ _ _ _ _ (by simp)⟩, ((Below.refl _ _).alloc (Nat.le_refl _) _).alloc (by simp) _, hK.below (Nat.le_refl _) (((Below.refl _ _).alloc (Nat.le_refl _) _).alloc (by simp) _)⟩
      rw [e0]
      exact (((hb.mono (Q' := fun g => g < w.heap.size) (fun g hg _ => hg)).alloc _).alloc _).mono (fun g _ hg => ⟨by have := hg; omega, by have := hg; omega⟩)
    have HR := Lib.hid hrel0
    clear hrel0 hr hb e0
    have hdec : decide (0 < r.length) = false := by rw [decide_eq_false_iff_not]; omega
    go_enter Tryd.func19, Tryd.ntmps19
    go_wp2
    clear hdec
  rotate_left
  focus
    go_enter Tryd.func19, Tryd.ntmps19
    go_wp2_with fail
    refine (concat (w.heap.size + 1 + 1) _ _ r b Qr Qb _ ((Whole.at_ _ _ _ _ (by simp)).cell 0) ((Whole.at_ _ _ _ _ (by simp)).cell 1) (((hr.alloc _).alloc _).alloc _) (((hb.alloc _).alloc _).alloc _) (by omega) hl).mono ?_
    rintro e W0 ⟨vd, rfl, hd, hbel⟩
    have hrel0 : WriteRel s (r ++ b) (.slice A1 r.length c1) ((n : Int) + (b.length : Int)) w 0 vd W0 := by
      have hbw : Below w.heap.size w W0 := ((((Below.refl _ _).alloc (Nat.le_refl _) _).alloc (by simp) _).alloc (by simp; omega) _).trans (hbel.mono (by simp; omega))
      exact ⟨by omega, hd.mono fun g _ hg => ⟨by have := hg; simp at this; omega, by have := hg; simp at this; omega⟩, (((Whole.here _ _ _).alloc _).alloc _).below hbel (by simp; omega),
        ⟨_, rfl, ((Whole.at_ _ _ _ (w.heap.size + 1) (by simp)).alloc _).below hbel (by simp)⟩, hbw, hK.below (Nat.le_refl _) hbw⟩
    have HR := Lib.hid hrel0
    clear hrel0 hr hb hd hbel
    go_wp2
  all_goals
    clear h0 hK
    go_loopw [5] (fun vd wr => ∃ q : Nat, WriteRel s (r ++ b) (.slice A1 r.length c1) ((n : Int) + (b.length : Int)) w q vd wr) (fun vd _ => slen vd)
    case atStart => exact ⟨0, HR.out⟩
    case round =>
      clear HR
      obtain ⟨q, hq, hbt, hw0, ⟨z, hz, hw1⟩, hbel, hK⟩ := hrel
      have hsz : w.heap.size + 1 < wr.heap.size := hw1.lt
      have hLl : (r ++ b).length ≤ 1000000000 := by simp; omega
      obtain ⟨L, hL⟩ : ∃ L, L = r ++ b := ⟨_, rfl⟩
      rw [← hL] at hq hbt hw0 hLl ⊢
      obtain ⟨D, hD⟩ : ∃ D, D = L.drop (64 * q) := ⟨_, rfl⟩
      rw [← hD] at hbt
      have hDl : D.length ≤ 1000000000 := by rw [hD, List.length_drop]; omega
      have HL := Lib.hid hL
      have HD := Lib.hid hD
      clear hL hD
      have hbt' := hbt
      obtain ⟨A, c, rfl, hDc, hcm, -⟩ := hbt'
      by_cases hlt : 64 ≤ D.length
      · obtain ⟨m, hm⟩ : ∃ m, m = D.take 64 := ⟨_, rfl⟩
        have hm64 : m.length = 64 := by rw [hm]; simp; omega
        have htk := hbt.take 64 hlt
        rw [← hm] at htk
        have HM := Lib.hid hm
        clear hm
        obtain ⟨g, o, rfl, hqg, hrange⟩ := htk.range (by omega)
        clear htk
        have hc1 := fun W => run_cut_to (some ⟨g, o, none⟩) D.length c 64 (by omega) W
        have hc2 := fun W => run_cut_from (some ⟨g, o, none⟩) D.length c 64 hlt W
        have hbt2 := hbt.drop 64 hlt
        generalize (if c = 64 then some (⟨g, o, none⟩ : Addr) else (some (⟨g, o, none⟩ : Addr)).map (·.add 64)) = A2' at *
        have ha := fun (a : Option Addr) (c : Nat) (W : World) => run_arrayAt (P := Tryd.prog) (t := 63) Tryd.underlying63 a 64 c (by omega) W
        have hr8 : wr.rangeAt w.heap.size 0 (stl (blocks s L q)) := World.rangeAt_of_block hw0.eq 0 8
        have H1 := Lib.hid hc1
        have H2 := Lib.hid hc2
        clear hc1 hc2 hbt
        go_wp2
        refine wp_region_still_tail 6 (by kernel_rfl) (by kernel_rfl) ?_
        simp only [List.take_succ_cons, List.take_zero, List.drop_succ_cons, List.drop_zero]
        change wpStill _ _ wr.drew (fun a' => wpList _ _ _ _ a' wr.drew) _ _
        refine wpStill_step (fun K hK => ?_); go_simp; refine hK _ ?_; clear hK K
        refine wpStill_load_run rfl 32 _ rfl w.heap.size 0 rfl (stl (blocks s L q)) _ ((World.rangeAt_drew _ _ _ _).2 hr8) Tryd.underlying32 rfl (by kernel_rfl) ?_
        refine wpStill_step (fun K hK => ?_); go_simp; refine hK _ ?_; clear hK K
        refine wpStill_slice_run rfl 22 _ _ _ _ rfl _ (H1.out _) ?_
        refine wpStill_step (fun K hK => ?_); go_simp; refine hK _ ?_; clear hK K
        refine wpStill_load_run rfl 63 _ rfl g o rfl (m.map byt) _ ((World.rangeAt_drew _ _ _ _).2 hrange) Tryd.underlying63 rfl (by rw [List.length_map, hm64]; kernel_rfl) ?_
        refine wpStill_nil ?_
        clear H1 ha hr8 hrange
        have hnext : blocks s L (q + 1) = block (blocks s L q) m := by rw [blocks_succ, HM.out, HD.out]
        have hdrop : D.drop 64 = L.drop (64 * (q + 1)) := by rw [HD.out, List.drop_drop]; congr 1
        have hq1 : 64 * (q + 1) ≤ L.length := by have := hlt; rw [HD.out, List.length_drop] at this; omega
        rw [hdrop] at hbt2
        have HN := Lib.hid hnext
        clear hnext hdrop
        go_wp2_with fail
        refine (compress (blocks s L q) m hm64 wr.drew hK).mono ?_
        rintro e W1 ⟨rfl, hb1⟩
        rw [← HN.out]
        have hw0' := Whole.below (hw0.drew) hb1 hw0.lt
        have hw1' := Whole.below (hw1.drew) hb1 hw1.lt
        have hbt2' := hbt2.drew.below hb1 (Nat.le_refl _)
        have hbw := (hbel.drew).trans (hb1.mono hbel.size)
        have hK' : Consts W1 := Consts.below (w := wr.drew) hK (Nat.le_refl _) hb1
        have hs1 : w.heap.size + 1 < W1.heap.size := hw1'.lt
        clear hw0 hw1 hbt2 hbel hK hb1 HN hsz
        go_wp2_with (first
          | (with_reducible refine wpList_store_mid rfl 32 _ _ rfl w.heap.size 0 _ rfl rfl ?_ ?_ ?_ ?_)
          | ((with_reducible refine wpList_slice_run rfl 22 _ _ _ _ rfl (.slice A2' (D.length - 64) (c - 64)) ?_ ?_); (exact H2.out _)))
        · exact hw0'.there 0 8 (by simp)
        · exact HI8.out
        · simp [Value.oneCell']
        · have hn : WriteRel s L (.slice A1 r.length c1) ((n : Int) + (b.length : Int)) w (q + 1) (.slice A2' (D.length - 64) (c - 64)) (W1.setCells w.heap.size 0 (stl (blocks s L (q + 1)))) :=
            ⟨hq1, hbt2'.keep fun g' _ hg' => setCells_far _ _ _ _ _ hg'.1, hw0'.setH _, ⟨z, hz, (setCells_far _ _ _ _ _ (by omega)).trans hw1'⟩, hbw.trans (setCells_below _ (Nat.le_refl _) _ _ _),
              fun j hj => (World.cell?_of_block (w := W1) (a := ⟨1, j, none⟩) (setCells_far _ _ _ _ _ (by have := HKl.out; show 1 ≠ _; omega))).trans (hK' j hj)⟩
          have HX := Lib.hid hn
          clear hn hw0' hw1' hbt2' hbw hK'
          go_roundw
          case rel => exact ⟨q + 1, HX.out⟩
          case measure => simp [slen]; omega
      · have hq64 : q = L.length / 64 := by
          have := hlt; rw [HD.out, List.length_drop] at this; omega
        go_wp2_with fail
        refine (clone _ D _ wr hbt hDl).mono ?_
        rintro e W1 ⟨v', rfl, hv', hb1⟩
        have hv := hv'
        obtain ⟨A', c', rfl, -⟩ := hv'
        have hw0' := hw0.below hb1 hw0.lt
        have hw1' := hw1.below hb1 hw1.lt
        have hbw := hbel.trans (hb1.mono hbel.size)
        have c8 : W1.cell? ⟨w.heap.size, 8, none⟩ = some (.slice A1 r.length c1) := hw0'.cell 8
        have z8 := hw0'.frozen 8
        have hn : Whole (W1.setCell ⟨w.heap.size, 8, none⟩ (.slice A' D.length c')) w.heap.size 34 (hashv (blocks s L q) (.slice A' D.length c') ((n : Int) + (b.length : Int))) := hw0'.set 8 _
        have hw1'' := hw1'.far (a := ⟨w.heap.size, 8, none⟩) (by simp) (.slice A' D.length c')
        have hbt2 := (hv.mono (Q' := fun g => w.heap.size + 1 < g) (fun g _ hg => by have := hg; omega)).set (a := ⟨w.heap.size, 8, none⟩) (fun g hg => by have := hg; show g ≠ w.heap.size; omega) (.slice A' D.length c')
        have hbw2 := hbw.setCell (p := ⟨w.heap.size, 8, none⟩) (Nat.le_refl _) (.slice A' D.length c')
        have HW := Lib.hid hn
        have HW1 := Lib.hid hw1''
        clear hn hw1'' hw0 hw1 hbel hb1 hbt hv hw0' hw1' hbw hK
        have HQ := Lib.hid hq64
        clear hq64
        go_wp2_with (first
          | (with_reducible refine wpList_load_row rfl 34 _ rfl w.heap.size rfl _ _ _ _ HW.out.eq Tryd.underlying34 rfl (by kernel_rfl) ?_)
          | (with_reducible refine wpList_store_row rfl 34 _ _ rfl (w.heap.size + 1) _ rfl rfl _ _ HW1.out.eq ?_ ?_ ?_ ?_))
        · kernel_rfl
        · exact hz
        · simp [Value.oneCell']
        · have h3 := HW1.out.setRow (hashv (blocks s L q) (.slice A' D.length c') ((n : Int) + (b.length : Int)))
          have hb3 := hbt2.setRow (b := w.heap.size + 1) (fun g hg => by have := hg; omega) (hashv (blocks s L q) (.slice A' D.length c') ((n : Int) + (b.length : Int)))
          have hL := HL.out
          have hD := HD.out
          have hQ := HQ.out
          subst hD
          subst hQ
          subst hL
          refine bodyPost_ret (results_cell_row Tryd.results19 _ _ (w.heap.size + 1) _ _ _ _ rfl h3 Tryd.underlying34 rfl (by kernel_rfl)) rfl ⟨_, rfl, hb3.mono (fun g _ hg => by have := hg; omega), below_setRow hbw2 (by omega) _⟩
end Go.Proofs.YtbbpdcnmoabooaaDoor
