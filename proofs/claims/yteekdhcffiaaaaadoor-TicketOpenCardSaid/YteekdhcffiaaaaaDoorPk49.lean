/-
  RefB32
-/
import Derived.Deep.CutBlock
import Derived.Deep.DeepCutAuto
import Derived.Test.YteekdhcffiaaaaaDoorPk48
import Derived.Test.YteekdhcffiaaaaaDoorPk15
import Derived.Test.YteekdhcffiaaaaaDoorKSq
import Derived.Test.YteekdhcffiaaaaaDoorPk24
namespace Go.Proofs.YteekdhcffiaaaaaDoor
open Go Go.RowKit Sh Leaf

set_option maxRecDepth 100000 in
theorem qb32 (g : Nat) (b : List B8) (w : World) (h : Qrd g w b 0 0) :
    Calls Tryd.prog 57 #[.pointer (some ⟨g, 0, none⟩), .int .i64 32] w fun x w' => ∃ A c R, x = .returned (.slice A 32 c) ∧ Bytes w' (fun x => x < g ∨ w.heap.size ≤ x) (.slice A 32 c) R ∧ R.length = 32 ∧ (32 ≤ b.length → R = b.take 32) ∧ Qds g b (if 32 ≤ b.length then 32 else 0) (if 32 ≤ b.length then 0 else 3) w w' := by
  obtain ⟨A, c, hb, hW, hu⟩ := id h
  obtain ⟨A', c', e0, hlc, hcm, -⟩ := id hb
  cases e0
  have c0 := hW.cell 0
  have c1 := hW.cell 1
  have c2 := hW.cell 2
  have f2 := hW.frozen 2
  simp only [List.getElem?_toArray, List.getElem?_cons_zero, List.getElem?_cons_succ] at c0 c1 c2
  have hgl := h.lt
  unfold maxLen at hcm
  have hsub : IntKind.i64.wrap ((b.length : Int)) = (b.length : Int) := by rw [IntKind.wrap_i64]; omega
  by_cases hs : b.length < 32
  · rw [if_neg (by omega : ¬ 32 ≤ b.length), if_neg (by omega : ¬ 32 ≤ b.length)]
    have hno : 32 ≤ b.length → List.replicate 32 (0 : B8) = b.take 32 := fun h => absurd h (by omega)
    have HNO := Lib.hid hno
    clear hno
    have hs' : (b.length : Int) < 32 := by omega
    have hmk := fun W => make_bytes 32 32 rfl (by omega) W
    have hE : Hid (∀ n, Qds g b 0 3 w ((w.drewN n).setCell ⟨g, 2, none⟩ (.int .i64 3))) := Lib.hid fun n => Qds.drewN (n := n) (Qrd.short (show Qrd g (w.drewN n) b 0 0 from h))
    have hmd := Lib.hid fun W => made_bytes W 32 (by omega)
    clear hb hW hs h hu hlc
    go_enter Tryd.func57, Tryd.ntmps57
    go_wp2
    go_quiet (fail)
    go_wp2
    go_ret
    have hsz : ((w.drewN nq).setCell ⟨g, 2, none⟩ (.int .i64 3)).heap.size = w.heap.size := by simp
    have hbm := hmd.out ((w.drewN nq).setCell ⟨g, 2, none⟩ (.int .i64 3))
    rw [hsz] at hbm
    exact ⟨_, _, List.replicate 32 0, rfl, hbm.mono fun _ _ e => .inr (by omega), by simp, HNO.out, (hE.out nq).alloc _⟩
  · rw [if_pos (by omega : 32 ≤ b.length), if_pos (by omega : 32 ≤ b.length)]
    have hs' : ¬ (b.length : Int) < 32 := by omega
    have hmid := fun W => run_cut_mid A b.length c 0 (0 + 32) (by omega) (by omega) W
    have hmv : Hid (∀ n, Qds g b 32 0 w ((w.drewN n).setCell ⟨g, 1, none⟩ (.int .i64 32))) := Lib.hid fun n => Qds.drewN (n := n) ((show Qrd g (w.drewN n) b 0 0 from h).move (k := 32) (by omega)).1
    have hw : IntKind.i64.wrap (((0 : Nat) : Int) + 32) = 32 := by rw [IntKind.wrap_i64]; omega
    have f1 := hW.frozen 1
    have hbd := hb.take 32 (by omega)
    rw [show 0 + 32 - 0 = 32 by omega] at hmid
    have hA2 : (if c = 0 then A else A.map (·.add 0)) = A := by
      split
      · rfl
      · cases A with
        | none => rfl
        | some a => rfl
    rw [hA2] at hmid
    clear hA2
    have hsb2 : IntKind.i64.wrap (32 - 32) = 0 := by rw [IntKind.wrap_i64]; omega
    have hmid' : ∀ W, (Instr.sliceAt 39 (.slice A b.length c) (some (.int .i64 0)) (some (.int .i64 32)) none).run Tryd.prog W = .ok (.slice A 32 c) W := hmid
    have HBD := Lib.hid hbd
    have HLE := Lib.hid (by omega : 32 ≤ b.length)
    have hul : (32 : Int) ≤ (c : Int) := by omega
    clear hmid hbd
    clear hb hW hs h hu hlc
    go_enter Tryd.func57, Tryd.ntmps57
    go_wp2
    go_quiet (fail)
    have hF := hmv.out nq
    have hB8 : Bytes ((w.drewN nq).setCell ⟨g, 1, none⟩ (.int .i64 32)) (fun x => x < g) (.slice A 32 c) (b.take 32) := (show Bytes (w.drewN nq) (fun x => x < g) (.slice A 32 c) (b.take 32) from HBD.out).set (fun x hx e => by have : x = g := e; omega) _
    have HF := Lib.hid hF
    have HB8 := Lib.hid hB8
    clear hF hB8
    go_wp2
    go_quiet (fail)
    go_wp2
    go_ret
    exact ⟨_, _, _, rfl, (show Bytes (((w.drewN _).setCell ⟨g, 1, none⟩ (.int .i64 32)).drewN nq) (fun x => x < g) (.slice A 32 c) (b.take 32) from HB8.out).mono fun _ _ h => .inl h, by rw [List.length_take]; have := HLE.out; omega, fun _ => rfl, HF.out.after nq⟩
theorem Qds.behind {g B : Nat} {b : List B8} {u e : Nat} {w w2 w3 : World} (h : Qds g b u e w w2) (hb : Below B w2 w3) (hB : w.heap.size ≤ B) (hg : g < w.heap.size) : Qds g b u e w w3 := by
  refine ⟨h.1.below hb (by omega), h.2.1.trans (hb.mono (by omega)), ⟨fun x t cs hx fr hw => ?_, fun v hv => ?_⟩⟩
  · have h1 := h.2.2.oth x t cs hx hw
    rw [hb.block x (by have := lt_of_heap hw; omega)]
    exact h1
  · exact (hb.cell (p := ⟨g, 0, none⟩) (by show g < B; omega)).trans (h.2.2.zero v hv)
set_option linter.unusedSimpArgs false in
set_option linter.unusedVariables false in
set_option maxRecDepth 100000 in
set_option maxHeartbeats 4000000 in
theorem qtag (g : Nat) (b : List B8) (w : World) (h : Qrd g w b 0 0) :
    Calls Tryd.prog 40 #[.pointer (some ⟨g, 0, none⟩)] w fun x w' => ∃ K : List B8, x = .returned (tagv K) ∧ K.length = 32 ∧ (32 ≤ b.length → K = b.take 32) ∧ Qds g b (if 32 ≤ b.length then 32 else 0) (if 32 ≤ b.length then 0 else 3) w w' := by
  have hgl := h.lt
  obtain ⟨p, hp⟩ : ∃ p, p = (w.alloc (.cells ztr 28)).alloc (.cells ztr 28) := ⟨_, rfl⟩
  have hk : Whole p w.heap.size 28 ztr := by rw [hp]; exact (Whole.here _ _ _).alloc _
  have ht : Whole p (w.heap.size + 1) 28 ztr := by rw [hp]; exact Whole.at_ _ _ _ _ (by simp)
  have hb : Below w.heap.size w p := by rw [hp]; exact ((Below.refl _ _).alloc (Nat.le_refl _) _).alloc (by simp) _
  have hps := ht.lt
  have hq0 : Qrd g p b 0 0 := h.below hb hgl
  obtain ⟨u1, hu1⟩ : ∃ u, u = if 32 ≤ b.length then 32 else 0 := ⟨_, rfl⟩
  obtain ⟨e1, he1⟩ : ∃ u, u = if 32 ≤ b.length then 0 else 3 := ⟨_, rfl⟩
  have hcl := fun W hW => qb32 g b W hW
  rw [← hu1, ← he1] at hcl ⊢
  have HC := Lib.hid hcl
  have hst := fun g W => run_sliceAt_whole (P := Tryd.prog) (t := 28) (e := 5) (n := 32) Tryd.underlying28 (by kernel_rfl) g W
  have hdd : Below p.heap.size p p.drew := (Below.refl _ _).drew
  have hqd := hq0.below hdd (by omega)
  have hkd := hk.below hdd (by omega)
  have htd := ht.below hdd hps
  have hbd : Below w.heap.size w p.drew := hb.drew
  have hpd : w.heap.size + 1 < p.drew.heap.size := htd.lt
  go_enter Tryd.func40, Tryd.ntmps40
  go_upto_region 2 with fail
  rw [ztr_lit, ← hp]
  clear hp hk ht hb hq0 hdd hcl h hu1 he1 hps
  refine wp_region_held_drew (S := fun _ : World => True) (by kernel_rfl) (trivial) (fun hHeld => ?_)
  generalize p.drew = W0 at *
  apply wpT (i := 0) rfl (by kernel_rfl)
  case hQ => exact fun _ _ _ h => h
  case hS => exact hHeld
  case hy => (refine Or.inl ⟨by rfl, ?_⟩; intro w hSw; (try go_split_ands); go_simp; (try with_reducible rfl))
  (try simp only [sq])
  apply wpT (i := 1) rfl (by kernel_rfl)
  case hQ => exact fun _ _ _ h => h
  case hS => exact hHeld
  case hy => (refine Or.inl ⟨by rfl, ?_⟩; intro w hSw; (try go_split_ands); go_simp; (try with_reducible rfl))
  (try simp only [sq])
  refine wpAnyH_ready (rs := [2]) (by kernel_rfl) (by simp) ?_
  refine AllReadyH.cons rfl (fun KK hKK => ?_) AllReadyH.nil
  (try simp only [sq])
  go_simp
  go_at_call 57
  refine (HC.out _ hqd).mono ?_
  rintro e w2 ⟨A, c, K, rfl, hby, hKl, hKb, hqs⟩
  have hk2 := hqs.2.2.oth _ _ _ (by omega) hkd
  have ht2 := hqs.2.2.oth _ _ _ (by omega) htd
  have hs2 := hqs.2.1.size
  refine hKK.out _ _ (trivial) (fun hHeld => ?_)
  clear hKK KK
  (try simp only [sq])
  refine wpAnyH_ready (rs := [3]) (by kernel_rfl) (by simp) ?_
  refine AllReadyH.cons rfl (fun KK hKK => ?_) AllReadyH.nil
  refine step_copy_bytes rfl _ _ rfl (w.heap.size + 1) 32 32 rfl _ rfl _ K hby _ (ztag.map byt) (by have h := ht2; rw [ztr_eq] at h; exact h) (by omega) (by simp) ?_
  intro w3 hw3 hbw3
  refine hKK.out _ _ (trivial) (fun hHeld => ?_)
  clear hKK KK
  (try simp only [sq])
  refine wpAnyH_done (by kernel_rfl) ?_ _
  have hrow : TGRow w3 (w.heap.size + 1) K := by
    have h := hw3.out
    rw [List.drop_of_length_le (by simp [hKl]), List.append_nil] at h
    exact h
  have hres : Whole w3 w.heap.size 28 ztr := Whole.below (show Whole w2 w.heap.size 28 ztr from hk2) hbw3 (by omega)
  have HQ : Hid (Qds g b u1 e1 w w3) := Lib.hid (Qds.behind (Qds.trans ⟨hqd, hbd.mono (by omega), Oth.below g hbd⟩ hqs) hbw3 (by omega) (by omega))
  have HKB := Lib.hid hKb
  have hs3 := hbw3.size
  clear hw3 hby hqs hk2 ht2 hqd hkd htd HC hst hKb hHeld
  go_wp2_with (first
    | (with_reducible refine wpList_load_tag rfl _ rfl (g := w.heap.size + 1) rfl hrow (tag_size hKl) ?_)
    | (with_reducible refine wpList_store_tag rfl _ _ rfl (g := w.heap.size) rfl rfl hres ztr_size (tag_size hKl) (tag_one _) ?_))
  have h3 := Whole.setRow hres (K.map byt).toArray
  refine bodyPost_ret (results_cell_row Tryd.results40 _ _ w.heap.size _ _ _ _ rfl h3 Tryd.underlying28 rfl (by rw [tagSize, tag_size hKl])) rfl ?_
  exact ⟨K, rfl, hKl, HKB.out, Qds.behind HQ.out (below_setRow (Below.refl w.heap.size w3) (Nat.le_refl _) _) (Nat.le_refl _) (by omega)⟩
end Go.Proofs.YteekdhcffiaaaaaDoor
