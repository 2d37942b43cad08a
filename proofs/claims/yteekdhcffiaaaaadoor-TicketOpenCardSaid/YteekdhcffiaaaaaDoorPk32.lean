/-
  TkSpl2
  TkOpn
  TkBlk
  RefBlk
  KDpp
  KDcc
  KDco
  TkBkS
  TkLw
  SameBlank of the reference, of two values that are one blank.
-/
import Derived.Recover
import Derived.Defers
import Derived.Laws.Pointers
import Derived.Test.YteekdhcffiaaaaaDoorPk31
import Derived.Deep.CutBlock
import Derived.Deep.DeepCutAuto
import Derived.Test.YteekdhcffiaaaaaDoorPk23
import Derived.Test.YteekdhcffiaaaaaDoorPk27
import Derived.Deep.RegionHeld3
import Derived.Test.YteekdhcffiaaaaaDoorKSq
import Derived.Test.YteekdhcffiaaaaaDoorKAnyG
import Derived.Test.YteekdhcffiaaaaaDoorPk34
import Derived.Test.YteekdhcffiaaaaaDoorPk3
import Derived.Test.YteekdhcffiaaaaaDoorPk30
import Derived.Test.YteekdhcffiaaaaaDoorPk35
import Derived.Test.YteekdhcffiaaaaaDoorPk11
namespace Go.Proofs.YteekdhcffiaaaaaDoor
open Go Go.RowKit Sh Leaf

theorem catch_pan (p : Addr) (x : Int) (u : TypeId) (pv : Value) (older : List PanicEntry) (w : World) (hc : w.cell? p = some (.int .i64 x)) (hz : w.frozen? p = false) :
    CallsD Tryd.prog 55 #[.pointer (some p)] (.panicking ({ v := .iface u pv, recovered := false } :: older)) w fun e u' w' =>
      e = .returned (.tuple #[]) ∧ u' = .panicking ({ v := .iface u pv, recovered := true } :: older) ∧ w' = w.setCell p (.int .i64 5) := by
  refine callsD_of_wpS Tryd.func55 rfl fun c₀ cs hu => ?_
  apply wpS_seq
  apply wpS_region
  simp [wpOpsS, go_sem, recoverD, hu, Tryd.ntmps55, Exit.thenS]
  refine wpS_cond (t := true) (by simp [Act.eval, Array.replicate]) ?_
  simp only [if_true]
  apply wpS_region
  simp [wpOpsS, go_sem, hc, hz, bodyPostS, results, Tryd.results55]
theorem catch_idle (p : Addr) (w : World) :
    CallsD Tryd.prog 55 #[.pointer (some p)] .returning w fun e u' w' => e = .returned (.tuple #[]) ∧ u' = .returning ∧ w' = w := by
  refine callsD_of_wpS Tryd.func55 rfl fun c₀ cs hu => ?_
  apply wpS_seq
  apply wpS_region
  simp [wpOpsS, go_sem, recoverD, hu, Tryd.ntmps55, Exit.thenS]
  refine wpS_cond (t := false) (by simp [Act.eval, Array.replicate]) ?_
  simp only [Bool.false_eq_true, if_false]
  refine wpS_of_wp (wp_skip ?_)
  cases c₀
  simp_all [bodyPostS, results, Tryd.results55]
theorem tsplit_len {l K : List B8} {lo hi : Int} (h : tsplit l = some (K, lo, hi)) : K.length = 32 := by
  unfold tsplit at h
  split at h
  · cases h
  split at h
  · cases h
  split at h
  · cases h
  split at h
  · injection h with h
    injection h with h _
    rw [← h, List.length_take]
    omega
  · cases h
theorem wpList_store_tms {w : World} {g : Nat} {ops : Array Oper} {rest : List Oper} {o : Oper} {a : Act} {Q : Exit → Act → World → Prop} (hgd : o.guard = none) (x y : Operand) (ho : o.op = .store 24 x y) (hx : a.eval x = .pointer (some ⟨g, 0, none⟩)) {z1 z2 : Int} (hy : a.eval y = .agg #[.int .i64 z1, .int .i64 z2]) {cs : Array Value} (hg : Whole w g 24 cs) (hcs : cs.size = 2)
    (h : wpList Tryd.prog ops Q rest (a.put o.dst undef) (w.setRow g #[.int .i64 z1, .int .i64 z2])) : wpList Tryd.prog ops Q (o :: rest) a w :=
  wpList_store_row hgd 24 x y ho g _ hx hy 24 _ hg (by rw [tmsSize]; rfl) (by rw [hcs]; rfl) (by simp [Value.oneCell']) h
theorem results_key3 {w : World} {g g2 g3 : Nat} {fn : Func} {p q r : Tmp} (h : fn.results = #[.cell p 28, .cell q 24, .cell r 42]) (tmps : Array Value) {cs cs2 : Array Value} {z : Int} (hp : tmps.getD p undef = .pointer (some ⟨g, 0, none⟩)) (hq : tmps.getD q undef = .pointer (some ⟨g2, 0, none⟩)) (hr : tmps.getD r undef = .pointer (some ⟨g3, 0, none⟩))
    (h8 : cs.size = 32) (h8' : cs2.size = 2) (hg : Whole w g 28 cs) (hg2 : Whole w g2 24 cs2) (hg3 : w.cell? ⟨g3, 0, none⟩ = some (.int .i64 z)) : (results fn tmps).run Tryd.prog w = .ok (.tuple #[.agg cs, .agg cs2, .int .i64 z]) w := by
  have hp' : tmps[p]?.getD undef = .pointer (some ⟨g, 0, none⟩) := by simpa using hp
  have hq' : tmps[q]?.getD undef = .pointer (some ⟨g2, 0, none⟩) := by simpa using hq
  have hr' : tmps[r]?.getD undef = .pointer (some ⟨g3, 0, none⟩) := by simpa using hr
  have h3 : (loadVar 42 ⟨g3, 0, none⟩).run Tryd.prog w = .ok (.int .i64 z) w := by simp [go_sem, hg3]
  simp [results, h, hp', hq', hr', asAddr, h3, run_loadVar_row w g 28 28 _ (0, 0) _ hg Tryd.underlying28 rfl (by rw [tagSize, h8]), run_loadVar_row w g2 24 24 _ (0, 0) _ hg2 Tryd.underlying24 rfl (by rw [tmsSize, h8'])]
theorem wp_norm {P : Program} {c : Code} {Q : Exit → Act → World → Prop} {a : Act} {w : World} (h : c.wp P (fun e a w => e = .normal ∧ Q e a w) a w) : c.wp P Q a w := Code.wp_mono (fun _ _ _ h => h.2) h
def SpR (w : World) (l : List B8) (e : Ending) (w' : World) : Prop := (e = match tsplit l with
  | some (K, lo, hi) => .returned (.tuple #[tagv K, .agg #[.int .i64 lo, .int .i64 hi], .int .i64 0])
  | none => .returned (.tuple #[tagv ztag, .agg #[.int .i64 0, .int .i64 0], .int .i64 5])) ∧ Below w.heap.size w w'
set_option linter.unusedSimpArgs false in
set_option linter.unusedVariables false in
set_option maxRecDepth 100000 in
set_option maxHeartbeats 4000000 in
theorem tsplit_ {w : World} {Q : Nat → Prop} {A : Option Addr} {c : Nat} {l : List B8} (hb : Bytes w Q (.slice A l.length c) l) :
    Calls Tryd.prog 38 #[.slice A l.length c] w (SpR w l) := by
  have hmf : ∀ (fn : Fn) (first cap : Array Value) (w : World), (Instr.makeFunc fn first cap).run Tryd.prog w = .ok (.func fn first cap) w := fun _ _ _ _ => rfl
  obtain ⟨p, hp⟩ : ∃ p, p = ((w.alloc (.cells ztr 28)).alloc (.cells #[.int .i64 0, .int .i64 0] 24)).alloc (.cells #[.int .i64 0] 42) := ⟨_, rfl⟩
  have hk : Whole p w.heap.size 28 ztr := by rw [hp]; exact ((Whole.here _ _ _).alloc _).alloc _
  have ht : Whole p (w.heap.size + 1) 24 #[.int .i64 0, .int .i64 0] := by rw [hp]; exact (Whole.at_ _ _ _ _ (by simp)).alloc _
  have he : Whole p (w.heap.size + 1 + 1) 42 #[.int .i64 0] := by rw [hp]; exact Whole.at_ _ _ _ _ (by simp)
  have hbp : Below w.heap.size w p := by rw [hp]; exact (((Below.refl _ _).alloc (Nat.le_refl _) _).alloc (by simp) _).alloc (by simp; omega) _
  have hps : w.heap.size + 1 + 1 < p.heap.size := he.lt
  have HK := Lib.hid hk
  have HT := Lib.hid ht
  have HE := Lib.hid he
  have HP := Lib.hid hp
  have HB := Lib.hid hbp
  have hcl := must_split (hb.below hbp (Nat.le_refl _))
  obtain ⟨N, hN⟩ : ∃ N, N = l.length := ⟨_, rfl⟩
  rw [← hN] at hcl ⊢
  clear hk ht he hp hbp hb hN
  go_enter_defers Tryd.func38, Tryd.ntmps38
  go_upto_region 1 with fail
  rw [ztr_lit, ← HP.out]
  go_wp2_with fail
  refine hcl.mono ?_
  rintro e w1 ⟨hm, hb1⟩
  clear hcl
  have hs1 : p.heap.size ≤ w1.heap.size := hb1.size
  have HK1 := Lib.hid (Whole.below HK.out hb1 (by omega))
  have HT1 := Lib.hid (Whole.below HT.out hb1 (by omega))
  have HE1 := Lib.hid (Whole.below HE.out hb1 (by omega))
  have HB1 := Lib.hid (HB.out.trans (hb1.mono (by omega)))
  clear hb1 HK HT HE HB HP
  cases hsp : tsplit l with
  | none =>
    rw [hsp] at hm
    obtain ⟨u, pv, rfl⟩ := hm
    have HSP := Lib.hid hsp
    clear hsp
    dsimp only
    refine leaves_cons (f := 55) (args := #[.pointer (some ⟨w.heap.size + 1 + 1, 0, none⟩)]) (by simp) (by simp [go_sem]) ?_
    refine (catch_pan ⟨w.heap.size + 1 + 1, 0, none⟩ 0 _ _ [] _ (HE1.out.cell 0) (HE1.out.frozen 0)).mono ?_
    rintro e u' w2 ⟨rfl, rfl, rfl⟩
    have hk2 : Whole (w1.setCell ⟨w.heap.size + 1 + 1, 0, none⟩ (.int .i64 5)) w.heap.size 28 ztr := (Below.heap_setCell w1 ⟨w.heap.size + 1 + 1, 0, none⟩ _ w.heap.size (by show w.heap.size ≠ w.heap.size + 1 + 1; omega)).trans HK1.out
    have ht2 : Whole (w1.setCell ⟨w.heap.size + 1 + 1, 0, none⟩ (.int .i64 5)) (w.heap.size + 1) 24 #[.int .i64 0, .int .i64 0] := (Below.heap_setCell w1 ⟨w.heap.size + 1 + 1, 0, none⟩ _ (w.heap.size + 1) (by show w.heap.size + 1 ≠ w.heap.size + 1 + 1; omega)).trans HT1.out
    have he2 := (Whole.set HE1.out 0 (.int .i64 5)).cell 0
    have hb2 : Below w.heap.size w (w1.setCell ⟨w.heap.size + 1 + 1, 0, none⟩ (.int .i64 5)) := Below.setCell HB1.out (p := ⟨w.heap.size + 1 + 1, 0, none⟩) (by show w.heap.size ≤ w.heap.size + 1 + 1; omega) _
    refine ⟨_, results_key3 Tryd.results38 _ rfl rfl rfl ztr_size rfl hk2 ht2 he2, ?_⟩
    unfold SpR
    rw [HSP.out]
    refine ⟨?_, hb2⟩
    rw [ztr_eq]
  | some R =>
    rw [hsp] at hm
    obtain ⟨K, lo, hi⟩ := R
    dsimp only at hm
    subst hm
    have HSP := Lib.hid hsp
    have hlK := tsplit_len hsp
    clear hsp
    go_upto_region 3 with (first
      | (with_reducible refine wpList_store_tag rfl _ _ rfl (g := w.heap.size) rfl rfl HK1.out ztr_size (tag_size hlK) (tag_one _) ?_)
      | (with_reducible refine wpList_store_tms rfl _ _ rfl (g := w.heap.size + 1) rfl rfl (Whole.setRow_far HT1.out (by omega) _) rfl ?_))
    obtain ⟨w2, hq⟩ : ∃ q, q = (w1.setRow w.heap.size (K.map byt).toArray).setRow (w.heap.size + 1) #[.int .i64 lo, .int .i64 hi] := ⟨_, rfl⟩
    rw [← hq]
    simp only [Act.put]
    have hk8 : Whole w2.drew w.heap.size 28 (K.map byt).toArray := by rw [hq]; exact Whole.drew (Whole.setRow_far (Whole.setRow HK1.out _) (by omega) _)
    have ht8 : Whole w2.drew (w.heap.size + 1) 24 #[.int .i64 lo, .int .i64 hi] := by rw [hq]; exact Whole.drew (Whole.setRow (Whole.setRow_far HT1.out (by omega) _) _)
    have he8 : Whole w2.drew (w.heap.size + 1 + 1) 42 #[.int .i64 0] := by rw [hq]; exact Whole.drew (Whole.setRow_far (Whole.setRow_far HE1.out (by omega) _) (by omega) _)
    have hb8 : Below w.heap.size w w2.drew := by rw [hq]; exact Below.drew (below_setRow (below_setRow HB1.out (Nat.le_refl _) _) (by omega) _)
    clear hq HK1 HT1 HE1 HB1
    refine wp_norm ?_
    refine wp_region_held_drew (S := fun W : World => W.rangeAt w.heap.size 0 (K.map byt) ∧ W.rangeAt (w.heap.size + 1) 0 [.int .i64 lo, .int .i64 hi]) (by kernel_rfl) (⟨TGRow.range hk8, Whole.range ht8⟩) (fun hHeld => ?_)
    apply wpAnyH_take (i := 0) rfl (by kernel_rfl) (by kernel_rfl) (by kernel_rfl)
    case hQ => exact fun _ _ _ h => nomatch h.1
    case hS => exact hHeld
    case hy => exact yieldsIf_load_mid (by rfl) 28 _ rfl w.heap.size (0) rfl ((K.map byt)) _ (fun w hS => hS.1) Tryd.underlying28 rfl (by rw [tagSize, List.length_map, hlK])
    (try simp only [List.getElem_toArray, List.getElem_cons_zero, Act.put, List.setIfInBounds_toArray, List.set_cons_zero, List.set_cons_succ])
    apply wpAnyH_take (i := 1) rfl (by kernel_rfl) (by kernel_rfl) (by kernel_rfl)
    case hQ => exact fun _ _ _ h => nomatch h.1
    case hS => exact hHeld
    case hy => exact yieldsIf_load_mid (by rfl) 24 _ rfl (w.heap.size + 1) (0) rfl ([.int .i64 lo, .int .i64 hi]) _ (fun w hS => hS.2) Tryd.underlying24 rfl (by rw [tmsSize]; rfl)
    (try simp only [List.getElem_toArray, List.getElem_cons_succ, List.getElem_cons_zero, Act.put, List.setIfInBounds_toArray, List.set_cons_zero, List.set_cons_succ])
    refine wpAnyH_ready (rs := [2]) (by kernel_rfl) (by simp) ?_
    refine AllReadyH.cons rfl (fun KK hKK => ?_) AllReadyH.nil
    obtain ⟨X1, hX1⟩ : ∃ x, x = w2.drew.setRow w.heap.size (K.map byt).toArray := ⟨_, rfl⟩
    have hkX1 : Whole X1 w.heap.size 28 (K.map byt).toArray := by rw [hX1]; exact Whole.setRow hk8 _
    have htX1 : Whole X1 (w.heap.size + 1) 24 #[.int .i64 lo, .int .i64 hi] := by rw [hX1]; exact Whole.setRow_far ht8 (by omega) _
    have heX1 : Whole X1 (w.heap.size + 1 + 1) 42 #[.int .i64 0] := by rw [hX1]; exact Whole.setRow_far he8 (by omega) _
    have hbX1 : Below w.heap.size w X1 := by rw [hX1]; exact below_setRow hb8 (by omega) _
    rw [if_pos (by kernel_rfl)]
    refine wp_store_row 28 _ _ rfl w.heap.size _ rfl rfl 28 _ hk8 (by rw [tagSize, tag_size hlK]) (rfl) (tag_one _) ?_
    rw [← hX1]
    clear hX1
    refine hKK.out _ _ (⟨TGRow.range hkX1, Whole.range htX1⟩) (fun hHeld => ?_)
    clear hKK KK
    (try simp only [List.getElem_toArray, List.getElem_cons_succ, List.getElem_cons_zero, Act.put, List.setIfInBounds_toArray, List.set_cons_zero, List.set_cons_succ])
    refine wpAnyH_ready (rs := [3]) (by kernel_rfl) (by simp) ?_
    refine AllReadyH.cons rfl (fun KK hKK => ?_) AllReadyH.nil
    obtain ⟨X2, hX2⟩ : ∃ x, x = X1.setRow (w.heap.size + 1) #[.int .i64 lo, .int .i64 hi] := ⟨_, rfl⟩
    have hkX2 : Whole X2 w.heap.size 28 (K.map byt).toArray := by rw [hX2]; exact Whole.setRow_far hkX1 (by omega) _
    have htX2 : Whole X2 (w.heap.size + 1) 24 #[.int .i64 lo, .int .i64 hi] := by rw [hX2]; exact Whole.setRow htX1 _
    have heX2 : Whole X2 (w.heap.size + 1 + 1) 42 #[.int .i64 0] := by rw [hX2]; exact Whole.setRow_far heX1 (by omega) _
    have hbX2 : Below w.heap.size w X2 := by rw [hX2]; exact below_setRow hbX1 (by omega) _
    rw [if_pos (by kernel_rfl)]
    refine wp_store_row 24 _ _ rfl (w.heap.size + 1) _ rfl rfl 24 _ htX1 (by rw [tmsSize]; rfl) (rfl) (by simp [Value.oneCell']) ?_
    rw [← hX2]
    clear hX2
    refine hKK.out _ _ (⟨TGRow.range hkX2, Whole.range htX2⟩) (fun hHeld => ?_)
    clear hKK KK
    (try simp only [List.getElem_toArray, List.getElem_cons_succ, List.getElem_cons_zero, Act.put, List.setIfInBounds_toArray, List.set_cons_zero, List.set_cons_succ])
    refine wpAnyH_ready (rs := [4]) (by kernel_rfl) (by simp) ?_
    refine AllReadyH.cons rfl (fun KK hKK => ?_) AllReadyH.nil
    (try simp only [List.getElem_toArray, List.getElem_cons_succ, List.getElem_cons_zero])
    have hcX3 := heX2.cell 0
    have hfX3 := heX2.frozen 0
    go_simp
    obtain ⟨X3, hX3⟩ : ∃ x, x = X2.setCell ⟨w.heap.size + 1 + 1, 0, none⟩ (.int .i64 0) := ⟨_, rfl⟩
    have hkX3 : Whole X3 w.heap.size 28 (K.map byt).toArray := by rw [hX3]; exact (Below.heap_setCell X2 ⟨w.heap.size + 1 + 1, 0, none⟩ _ w.heap.size (by show w.heap.size ≠ w.heap.size + 1 + 1; omega)).trans hkX2
    have htX3 : Whole X3 (w.heap.size + 1) 24 #[.int .i64 lo, .int .i64 hi] := by rw [hX3]; exact (Below.heap_setCell X2 ⟨w.heap.size + 1 + 1, 0, none⟩ _ (w.heap.size + 1) (by show (w.heap.size + 1) ≠ w.heap.size + 1 + 1; omega)).trans htX2
    have heX3 : Whole X3 (w.heap.size + 1 + 1) 42 #[.int .i64 0] := by rw [hX3]; exact Whole.set heX2 0 _
    have hbX3 : Below w.heap.size w X3 := by rw [hX3]; exact Below.setCell hbX2 (p := ⟨w.heap.size + 1 + 1, 0, none⟩) (by show w.heap.size ≤ w.heap.size + 1 + 1; omega) _
    rw [← hX3]
    clear hX3 hcX3 hfX3
    refine hKK.out _ _ (⟨TGRow.range hkX3, Whole.range htX3⟩) (fun hHeld => ?_)
    clear hKK KK
    (try simp only [List.getElem_toArray, List.getElem_cons_succ, List.getElem_cons_zero, Act.put, List.setIfInBounds_toArray, List.set_cons_zero, List.set_cons_succ])
    refine wpAnyH_done (by kernel_rfl) ?_ _
    refine ⟨rfl, ?_⟩
    go_wp2_with fail
    refine leaves_cons (f := 55) (args := #[.pointer (some ⟨w.heap.size + 1 + 1, 0, none⟩)]) (by simp) (by simp [go_sem]) ?_
    refine (catch_idle ⟨w.heap.size + 1 + 1, 0, none⟩ _).mono ?_
    rintro e u' w9 ⟨rfl, rfl, rfl⟩
    refine ⟨_, results_key3 Tryd.results38 _ rfl rfl rfl (tag_size hlK) rfl hkX3 htX3 (heX3.cell 0), ?_⟩
    unfold SpR
    rw [HSP.out]
    exact ⟨rfl, hbX3⟩
end Go.Proofs.YteekdhcffiaaaaaDoor
namespace Go.Proofs.YteekdhcffiaaaaaDoor
open Go Go.RowKit Sh Leaf

def cnl (z : Int) (K : List B8) (vp : Value) : List Value := .int .i64 z :: ((p32 K).map byt ++ [vp])
theorem cnl_len (z : Int) (K : List B8) (vp : Value) : (cnl z K vp).length = 34 := by unfold cnl; simp only [List.length_cons, List.length_append, p32_cells, List.length_nil]
theorem cnl_size (z : Int) (K : List B8) (vp : Value) : (cnl z K vp).toArray.size = 34 := by rw [List.size_toArray, cnl_len]
theorem cnSize : (Tryd.prog.info? 36).map (·.size) = some 34 := by kernel_rfl
theorem cnl_one (z : Int) (K : List B8) (A : Option Addr) (n c : Nat) : (cnl z K (.slice A n c)).toArray.all (·.oneCell') = true := all_oneCell_toArray (by
  intro v hv
  unfold cnl at hv
  simp only [List.mem_cons, List.mem_append] at hv
  rcases hv with rfl | hv | rfl | hv
  · rfl
  · exact byt_one _ v hv
  · rfl
  · cases hv)
theorem cnl_num {w : World} {g : Nat} {z : Int} {K : List B8} {vp : Value} (h : Whole w g 36 (cnl z K vp).toArray) : w.cell? ⟨g, 0, none⟩ = some (.int .i64 z) := by
  rw [Whole.cell h]; rfl
theorem cnl_key {w : World} {g : Nat} {z : Int} {K : List B8} {vp : Value} (hK : K.length = 32) (h : Whole w g 36 (cnl z K vp).toArray) : w.rangeAt g 1 (K.map byt) := fun i v hv => by
  rw [Whole.cell h, List.getElem?_toArray]
  unfold cnl
  rw [p32_eq hK, show 1 + i = i + 1 by omega, List.getElem?_cons_succ, List.getElem?_append_left (by obtain ⟨h, _⟩ := List.getElem?_eq_some_iff.1 hv; exact h)]
  exact hv
theorem zeroTms : Tryd.prog.built 24 [] = some #[.int .i64 0, .int .i64 0] := by kernel_rfl
theorem wpList_build_tms0 {w : World} {ops : Array Oper} {rest : List Oper} {o : Oper} {a : Act} {Q : Exit → Act → World → Prop} (hgd : o.guard = none) (ho : o.op = .build 24 #[])
    (h : wpList Tryd.prog ops Q rest (a.put o.dst (.agg #[.int .i64 0, .int .i64 0])) w) : wpList Tryd.prog ops Q (o :: rest) a w :=
  wpList_build_as hgd 24 _ ho _ (by simp only [List.map_toArray, List.map_nil]; exact zeroTms) h
theorem results_open3 {w : World} {g g2 : Nat} {fn : Func} {p q r : Tmp} (h : fn.results = #[.cell p 28, .cell q 24, .tmp r]) (tmps : Array Value) {cs cs2 : Array Value} (hp : tmps.getD p undef = .pointer (some ⟨g, 0, none⟩)) (hq : tmps.getD q undef = .pointer (some ⟨g2, 0, none⟩)) (x : Value) (hr : tmps.getD r undef = x)
    (h8 : cs.size = 32) (h8' : cs2.size = 2) (hg : Whole w g 28 cs) (hg2 : Whole w g2 24 cs2) : (results fn tmps).run Tryd.prog w = .ok (.tuple #[.agg cs, .agg cs2, x]) w := by
  have hp' : tmps[p]?.getD undef = .pointer (some ⟨g, 0, none⟩) := by simpa using hp
  have hq' : tmps[q]?.getD undef = .pointer (some ⟨g2, 0, none⟩) := by simpa using hq
  have hr' : tmps[r]?.getD undef = x := by simpa using hr
  simp [results, h, hp', hq', hr', asAddr, run_loadVar_row w g 28 28 _ (0, 0) _ hg Tryd.underlying28 rfl (by rw [tagSize, h8]), run_loadVar_row w g2 24 24 _ (0, 0) _ hg2 Tryd.underlying24 rfl (by rw [tmsSize, h8'])]
def ToR (w : World) (R : List B8 × (Int × Int) × Int) (e : Ending) (w' : World) : Prop := e = .returned (.tuple #[tagv R.1, .agg #[.int .i64 R.2.1.1, .int .i64 R.2.1.2], .int .i64 R.2.2]) ∧ Below w.heap.size w w'
set_option linter.unusedSimpArgs false in
set_option linter.unusedVariables false in
set_option maxRecDepth 100000 in
set_option maxHeartbeats 4000000 in
theorem topen {w : World} {Q Q2 : Nat → Prop} {x vp : Value} {B : Option Addr} {d : Nat} {a : Alg} {K m : List B8} {z : Int} (hx : AlV w Q x a) (hK : K.length = 32) (hm : Bytes w Q2 (.slice B m.length d) m) (hT : Tables w) (hC : a.free = false → OpenC K m) :
    Calls Tryd.prog 19 #[x, .agg (cnl z K vp).toArray, .slice B m.length d] w (ToR w (pOpenT a K m)) := by
  have hx0 := hx
  obtain ⟨Am, cm, Ab, cb, rfl, hM, hBx, hA⟩ := hx
  obtain ⟨p, hp⟩ : ∃ p, p = (((w.alloc (.cells (alc a.free a.seed a.fresh (.slice Am a.macs.length cm) (.slice Ab a.boxes.length cb)) 32)).alloc (.cells (cnl z K vp).toArray 36)).alloc (.cells ztr 28)).alloc (.cells #[.int .i64 0, .int .i64 0] 24) := ⟨_, rfl⟩
  have hr : ALRow p w.heap.size a.free a.seed a.fresh (.slice Am a.macs.length cm) (.slice Ab a.boxes.length cb) := by rw [hp]; exact (((Whole.here _ _ _).alloc _).alloc _).alloc _
  have hn : Whole p (w.heap.size + 1) 36 (cnl z K vp).toArray := by rw [hp]; exact ((Whole.at_ _ _ _ _ (by simp)).alloc _).alloc _
  have hk : Whole p (w.heap.size + 1 + 1) 28 ztr := by rw [hp]; exact (Whole.at_ _ _ _ _ (by simp)).alloc _
  have ht : Whole p (w.heap.size + 1 + 1 + 1) 24 #[.int .i64 0, .int .i64 0] := by rw [hp]; exact Whole.at_ _ _ _ _ (by simp)
  have hb : Below w.heap.size w p := by rw [hp]; exact ((((Below.refl _ _).alloc (Nat.le_refl _) _).alloc (by simp) _).alloc (by simp; omega) _).alloc (by simp; omega) _
  have hps : w.heap.size + 1 + 1 + 1 < p.heap.size := ht.lt
  have hcl := popen (hx0.below hb (Nat.le_refl _)) hK (hm.below hb (Nat.le_refl _)) (Tables.below hT (Nat.le_refl _) hb) hC
  obtain ⟨R, hR⟩ : ∃ R, R = aOpen a K m := ⟨_, rfl⟩
  rw [← hR] at hcl
  have HR := Lib.hid hR
  have HAR := Lib.hid hr
  have HKY := Lib.hid (cnl_key hK hn)
  have HK := Lib.hid hk
  have HTM := Lib.hid ht
  have HP := Lib.hid hp
  have HB := Lib.hid hb
  obtain ⟨X, er⟩ := R
  unfold OpR at hcl
  dsimp only at hcl
  obtain ⟨N, hN⟩ : ∃ N, N = m.length := ⟨_, rfl⟩
  rw [← hN] at hcl ⊢
  clear hx0 hr hn hk ht hp hb hM hBx hA hm hT hC hR hN
  go_enter Tryd.func19, Tryd.ntmps19
  go_upto_region 1 with fail
  rw [ztr_lit, ← HP.out]
  clear HP
  go_wp2_with (first
    | (with_reducible refine wpList_load_alg rfl _ rfl rfl HAR.out (alc_size _ _ _ _ _) ?_)
    | (with_reducible refine wpList_load_mid rfl 28 _ rfl (w.heap.size + 1) 1 rfl _ _ HKY.out Tryd.underlying28 rfl (tag_sz hK) ?_))
  refine hcl.mono ?_
  rintro e w1 ⟨⟨v, rfl, hv⟩, hb1⟩
  clear hcl HAR HKY
  have hs1 : p.heap.size ≤ w1.heap.size := hb1.size
  have HK1 := Lib.hid (Whole.below HK.out hb1 (by omega))
  have HT1 := Lib.hid (Whole.below HTM.out hb1 (by omega))
  have HB1 := Lib.hid (HB.out.trans (hb1.mono (by omega)))
  obtain ⟨Av, cv, rfl, -⟩ := id hv
  have HV := Lib.hid hv
  clear hb1 HB HK HTM hv
  by_cases her : er = 0
  case neg =>
    have hb0 : (er != 0) = true := by simpa using her
    have HER := Lib.hid her
    clear her
    go_wp2_with (first
      | (with_reducible refine wpList_build_tag0 rfl rfl ?_)
      | (with_reducible refine wpList_build_tms0 rfl rfl ?_)
      | (with_reducible refine wpList_store_tag rfl _ _ rfl (g := w.heap.size + 1 + 1) rfl rfl HK1.out ztr_size (tag_size (by simp)) (tag_one _) ?_)
      | (with_reducible refine wpList_store_tms rfl _ _ rfl (g := w.heap.size + 1 + 1 + 1) rfl rfl (Whole.setRow_far HT1.out (by omega) _) rfl ?_))
    have h1 := Whole.setRow_far (Whole.setRow HK1.out (ztag.map byt).toArray) (g' := w.heap.size + 1 + 1 + 1) (by omega) #[.int .i64 0, .int .i64 0]
    have h2 := Whole.setRow (Whole.setRow_far HT1.out (g' := w.heap.size + 1 + 1) (by omega) (ztag.map byt).toArray) #[.int .i64 0, .int .i64 0]
    refine bodyPost_ret (results_open3 Tryd.results19 _ rfl rfl _ rfl (tag_size (by simp)) rfl h1 h2) rfl ?_
    unfold ToR pOpenT
    rw [← HR.out, if_pos HER.out]
    exact ⟨rfl, below_setRow (below_setRow HB1.out (by omega) _) (by omega) _⟩
  subst her
  have hcs := tsplit_ HV.out
  unfold SpR at hcs
  obtain ⟨T, hT⟩ : ∃ T, T = tsplit X := ⟨_, rfl⟩
  rw [← hT] at hcs
  have HT := Lib.hid hT
  clear hT
  obtain ⟨k, lo, hi, z5, hkl, hRR, hcs⟩ : ∃ (k : List B8) (lo hi z5 : Int), k.length = 32 ∧ pOpenT a K m = (k, (lo, hi), z5) ∧ Calls Tryd.prog 38 #[.slice Av X.length cv] w1 fun e w' => e = .returned (.tuple #[tagv k, .agg #[.int .i64 lo, .int .i64 hi], .int .i64 z5]) ∧ Below w1.heap.size w1 w' := by
    cases T with
    | none => exact ⟨ztag, 0, 0, 5, by simp, by unfold pOpenT; rw [← HR.out, if_neg (by simp)]; dsimp only; rw [← HT.out], hcs⟩
    | some T =>
      obtain ⟨k, lo, hi⟩ := T
      exact ⟨k, lo, hi, 0, tsplit_len HT.out.symm, by unfold pOpenT; rw [← HR.out, if_neg (by simp)]; dsimp only; rw [← HT.out], hcs⟩
  have HRR := Lib.hid hRR
  clear hRR
  go_wp2_with fail
  refine hcs.mono ?_
  rintro e w2 ⟨rfl, hb2⟩
  clear hcs
  have hs2 : w1.heap.size ≤ w2.heap.size := hb2.size
  have HK2 := Lib.hid (Whole.below HK1.out hb2 (by omega))
  have HT2 := Lib.hid (Whole.below HT1.out hb2 (by omega))
  have HB2 := Lib.hid (HB1.out.trans (hb2.mono (by omega)))
  clear hb2 HK1 HT1 HB1 HV
  go_wp2_with (first
    | (with_reducible refine wpList_store_tag rfl _ _ rfl (g := w.heap.size + 1 + 1) rfl rfl HK2.out ztr_size (tag_size hkl) (tag_one _) ?_)
    | (with_reducible refine wpList_store_tms rfl _ _ rfl (g := w.heap.size + 1 + 1 + 1) rfl rfl (Whole.setRow_far HT2.out (by omega) _) rfl ?_))
  have h1 := Whole.setRow_far (Whole.setRow HK2.out (k.map byt).toArray) (g' := w.heap.size + 1 + 1 + 1) (by omega) #[.int .i64 lo, .int .i64 hi]
  have h2 := Whole.setRow (Whole.setRow_far HT2.out (g' := w.heap.size + 1 + 1) (by omega) (k.map byt).toArray) #[.int .i64 lo, .int .i64 hi]
  refine bodyPost_ret (results_open3 Tryd.results19 _ rfl rfl _ rfl (tag_size hkl) rfl h1 h2) rfl ?_
  unfold ToR
  rw [HRR.out]
  exact ⟨rfl, below_setRow (below_setRow HB2.out (by omega) _) (by omega) _⟩
end Go.Proofs.YteekdhcffiaaaaaDoor
namespace Go.Proofs.YteekdhcffiaaaaaDoor
open Go Go.RowKit Sh Leaf

@[irreducible] def zbk : Array Value := #[.int .i64 0, .int .u8 0, .int .u8 0, .int .u8 0, .int .u8 0, .int .u8 0, .int .u8 0, .int .u8 0, .int .u8 0, .int .u8 0, .int .u8 0, .int .u8 0, .int .u8 0, .int .u8 0, .int .u8 0, .int .u8 0, .int .u8 0, .int .u8 0, .int .u8 0, .int .u8 0, .int .u8 0, .int .u8 0, .int .u8 0, .int .u8 0, .int .u8 0, .int .u8 0, .int .u8 0, .int .u8 0, .int .u8 0, .int .u8 0, .int .u8 0, .int .u8 0, .int .u8 0, .slice none 0 0]
theorem zbk_lit : (#[.int .i64 0, .int .u8 0, .int .u8 0, .int .u8 0, .int .u8 0, .int .u8 0, .int .u8 0, .int .u8 0, .int .u8 0, .int .u8 0, .int .u8 0, .int .u8 0, .int .u8 0, .int .u8 0, .int .u8 0, .int .u8 0, .int .u8 0, .int .u8 0, .int .u8 0, .int .u8 0, .int .u8 0, .int .u8 0, .int .u8 0, .int .u8 0, .int .u8 0, .int .u8 0, .int .u8 0, .int .u8 0, .int .u8 0, .int .u8 0, .int .u8 0, .int .u8 0, .int .u8 0, .slice none 0 0] : Array Value) = zbk := by unfold zbk; rfl
theorem zbk_size : zbk.size = 34 := by unfold zbk; rfl
theorem zbk_eq : zbk = (cnl 0 ztag (.slice none 0 0)).toArray := by
  unfold zbk cnl
  rw [p32_eq (by simp)]
  simp only [List.map_replicate, byt, bv_zero]
  rfl
theorem blankSize : (Tryd.prog.info? 41).map (·.size) = some 34 := by kernel_rfl
def BkV (w : World) (Q : Nat → Prop) (v : Value) (b : Blk) : Prop := ∃ A c, v = .agg (cnl b.party b.key (.slice A b.ticket.length c)).toArray ∧ Bytes w Q (.slice A b.ticket.length c) b.ticket ∧ b.key.length = 32
def TbR (w : World) (Q Q' : Nat → Prop) (e : Ending) (r : Alg × Blk × Int) : Prop := ∃ x y, e = .returned (.tuple #[x, y, .int .i64 r.2.2]) ∧ AlV w Q x r.1 ∧ BkV w Q' y r.2.1
theorem bkv_zero (w : World) (Q : Nat → Prop) : BkV w Q (.agg zbk) zblk := ⟨none, 0, by rw [zbk_eq]; rfl, bytes_nil w Q, by simp⟩
theorem wpList_store_blk {w : World} {g : Nat} {ops : Array Oper} {rest : List Oper} {o : Oper} {a : Act} {Q : Exit → Act → World → Prop} (hgd : o.guard = none) (x y : Operand) (ho : o.op = .store 41 x y)
    (hx : a.eval x = .pointer (some ⟨g, 0, none⟩)) {cs cs' : Array Value} (hy : a.eval y = .agg cs') (hg : Whole w g 41 cs) (h8 : cs.size = 34) (h8' : cs'.size = 34) (hone : cs'.all (·.oneCell') = true)
    (h : wpList Tryd.prog ops Q rest (a.put o.dst undef) (w.setRow g cs')) : wpList Tryd.prog ops Q (o :: rest) a w :=
  wpList_store_row hgd 41 x y ho g _ hx hy 41 _ hg (by rw [blankSize, h8']) (by rw [h8, h8']) hone h
theorem results_blk3 {w : World} {g g2 : Nat} {fn : Func} {p q r : Tmp} (h : fn.results = #[.cell p 32, .cell q 41, .tmp r]) (tmps : Array Value) {cs cs2 : Array Value} (hp : tmps.getD p undef = .pointer (some ⟨g, 0, none⟩)) (hq : tmps.getD q undef = .pointer (some ⟨g2, 0, none⟩)) (x : Value) (hr : tmps.getD r undef = x)
    (h8 : cs.size = 36) (h8' : cs2.size = 34) (hg : Whole w g 32 cs) (hg2 : Whole w g2 41 cs2) : (results fn tmps).run Tryd.prog w = .ok (.tuple #[.agg cs, .agg cs2, x]) w := by
  have hp' : tmps[p]?.getD undef = .pointer (some ⟨g, 0, none⟩) := by simpa using hp
  have hq' : tmps[q]?.getD undef = .pointer (some ⟨g2, 0, none⟩) := by simpa using hq
  have hr' : tmps[r]?.getD undef = x := by simpa using hr
  simp [results, h, hp', hq', hr', asAddr, run_loadVar_row w g 32 32 _ (0, 0) _ hg Tryd.underlying32 rfl (by rw [algSize, h8]), run_loadVar_row w g2 41 41 _ (0, 0) _ hg2 Tryd.underlying41 rfl (by rw [blankSize, h8'])]
set_option maxRecDepth 100000 in
theorem built_blk {T : List B8} (z : Int) (A : Option Addr) (n c : Nat) (hT : T.length = 32) : Tryd.prog.built 41 [(0, .int .i64 z), (1, .agg (T.map byt).toArray), (2, .slice A n c)] = some (cnl z T (.slice A n c)).toArray := by
  unfold cnl
  rw [p32_eq hT]
  obtain ⟨a0, a1, a2, a3, a4, a5, a6, a7, a8, a9, a10, a11, a12, a13, a14, a15, a16, a17, a18, a19, a20, a21, a22, a23, a24, a25, a26, a27, a28, a29, a30, a31, rfl⟩ := ex32 T hT
  simp only [List.map_cons, List.map_nil, List.cons_append, List.nil_append]
  kernel_rfl
theorem key_fresh {a : Alg} (h0 : 0 ≤ a.fresh) (h : (aKey a).2.2 = 0) : 0 ≤ (aKey a).1.fresh ∧ (aKey a).1.fresh ≤ 65536 := by
  unfold aKey at h ⊢
  split at h
  · cases h
  · rename_i hn
    rw [if_neg hn]
    dsimp only
    omega
theorem key_boxes {a : Alg} (h : (aKey a).2.2 = 0) : (aKey a).1.boxes = a.boxes := by
  unfold aKey at h ⊢
  split at h
  · cases h
  · rename_i hn
    rw [if_neg hn]
theorem yieldsIf_build_blk {ops : Array Oper} {S : World → Prop} {op : Oper} {a : Act} (hw : Region.wanted op (yielded ops a.tmps) = true) (x y z : Operand) (ho : op.op = .build 41 #[(0, x), (1, y), (2, z)])
    {n : Int} {T : List B8} {A : Option Addr} {l c : Nat} (hT : T.length = 32) (hx : a.eval x = .int .i64 n) (hy : a.eval y = .agg (T.map byt).toArray) (hz : a.eval z = .slice A l c) : YieldsIf Tryd.prog ops S op (.agg (cnl n T (.slice A l c)).toArray) a := by
  refine yieldsIf_build_as hw 41 _ ho _ ?_
  have e1 : (#[(0, x), (1, y), (2, z)].map fun (i, x) => (i, a.eval x)).toList = [(0, .int .i64 n), (1, .agg (T.map byt).toArray), (2, .slice A l c)] := by simp [hx, hy, hz]
  rw [e1, built_blk n A l c hT]
set_option linter.unusedSimpArgs false in
set_option linter.unusedVariables false in
set_option maxRecDepth 100000 in
set_option maxHeartbeats 8000000 in
theorem tblank {w : World} {Q : Nat → Prop} {x vp : Value} {a : Alg} {K : List B8} (z lo hi : Int) (hx : AlV w Q x a) (hlen : a.boxes.length < 1000) (hlK : K.length = 32) (hT : Tables w) (hN : ∀ m, m.length ≤ 256 → NewB (aKey a).1 K m (aKey a).1.fresh) :
    Calls Tryd.prog 9 #[x, .agg (cnl z K vp).toArray, .agg #[.int .i64 lo, .int .i64 hi]] w fun e w' => TbR w' (fun g => Q g ∨ w.heap.size ≤ g) (fun g => w.heap.size ≤ g) e (pBlank a z K lo hi) ∧ Below w.heap.size w w' := by
  obtain ⟨Ama, cma, Aba, cba, rfl, hM, hBx, hA⟩ := id hx
  obtain ⟨p, hp⟩ : ∃ p, p = ((((w.alloc (.cells (alc a.free a.seed a.fresh (.slice Ama a.macs.length cma) (.slice Aba a.boxes.length cba)) 32)).alloc (.cells (cnl z K vp).toArray 36)).alloc (.cells #[.int .i64 lo, .int .i64 hi] 24)).alloc (.cells zar 32)).alloc (.cells zbk 41) := ⟨_, rfl⟩
  have hr : ALRow p w.heap.size a.free a.seed a.fresh (.slice Ama a.macs.length cma) (.slice Aba a.boxes.length cba) := by rw [hp]; exact ((((Whole.here _ _ _).alloc _).alloc _).alloc _).alloc _
  have hk : Whole p (w.heap.size + 1) 36 (cnl z K vp).toArray := by rw [hp]; exact (((Whole.at_ _ _ _ _ (by simp)).alloc _).alloc _).alloc _
  have h5 : Whole p (w.heap.size + 1 + 1) 24 #[.int .i64 lo, .int .i64 hi] := by rw [hp]; exact ((Whole.at_ _ _ _ _ (by simp)).alloc _).alloc _
  have h6 : Whole p (w.heap.size + 1 + 1 + 1) 32 zar := by rw [hp]; exact (Whole.at_ _ _ _ _ (by simp)).alloc _
  have h7 : Whole p (w.heap.size + 1 + 1 + 1 + 1) 41 zbk := by rw [hp]; exact Whole.at_ _ _ _ _ (by simp)
  have hb : Below w.heap.size w p := by rw [hp]; exact (((((Below.refl _ _).alloc (Nat.le_refl _) _).alloc (by simp) _).alloc (by simp; omega) _).alloc (by simp; omega) _).alloc (by simp; omega) _
  have hps : (w.heap.size + 1 + 1 + 1 + 1) < p.heap.size := h7.lt
  have hcz := cnl_num hk
  have hxp := (hx.mono (Q' := fun g => Q g ∧ g < w.heap.size) fun g hg hq => ⟨hq, hg⟩).below hb (Nat.le_refl _)
  obtain ⟨R0, hR0⟩ : ∃ R, R = pBlank a z K lo hi := ⟨_, rfl⟩
  rw [← hR0]
  unfold pBlank at hR0
  have HR0 := Lib.hid hR0
  have HXP := Lib.hid hxp
  have HT := Lib.hid hT
  have HNN := Lib.hid hN
  have H1 : Hid (Below w.heap.size w p) := Lib.hid (hb)
  have H2 : Hid (ALRow p w.heap.size a.free a.seed a.fresh (.slice Ama a.macs.length cma) (.slice Aba a.boxes.length cba)) := Lib.hid (hr)
  have H3 : Hid (Whole p (w.heap.size + 1) 36 (cnl z K vp).toArray) := Lib.hid (hk)
  have H4 : Hid (Whole p (w.heap.size + 1 + 1) 24 #[.int .i64 lo, .int .i64 hi]) := Lib.hid (h5)
  have H5 : Hid (Whole p (w.heap.size + 1 + 1 + 1) 32 zar) := Lib.hid (h6)
  have H6 : Hid (Whole p (w.heap.size + 1 + 1 + 1 + 1) 41 zbk) := Lib.hid (h7)
  have hA1 := hA.lo
  have hA2 := hA.hi
  have hlT : (aKey a).2.1.length = 32 := key_len a
  have HLT := Lib.hid hlT
  clear hR0 hb hr hk h5 h6 h7 hx hxp hM hBx hT hN hlT
  have hcl := tvalid p lo hi
  obtain ⟨D, hD⟩ : ∃ D, D = decide (tmok lo hi) := ⟨_, rfl⟩
  rw [← hD] at hcl
  have HD := Lib.hid hD
  clear hD
  go_enter Tryd.func9, Tryd.ntmps9
  go_upto_region 1 with fail
  rw [zar_lit, zbk_lit, ← hp]
  clear hp
  go_wp2_with (with_reducible refine wpList_load_tms rfl _ rfl rfl H4.out ?_)
  refine hcl.mono ?_
  rintro e w1 ⟨rfl, hbu⟩
  clear hcl
  have hs1 : p.heap.size ≤ w1.heap.size := hbu.size
  have hcz := cnl_num (Whole.below H3.out hbu (by omega))
  have H7 : Hid (Below w.heap.size w w1) := Lib.hid ((Below.trans H1.out (Below.mono hbu (Below.size H1.out))))
  have H8 : Hid (ALRow w1 w.heap.size a.free a.seed a.fresh (.slice Ama a.macs.length cma) (.slice Aba a.boxes.length cba)) := Lib.hid ((Whole.below H2.out hbu (Whole.lt H2.out)))
  have H9 : Hid (Whole w1 (w.heap.size + 1) 36 (cnl z K vp).toArray) := Lib.hid ((Whole.below H3.out hbu (Whole.lt H3.out)))
  have H10 : Hid (Whole w1 (w.heap.size + 1 + 1) 24 #[.int .i64 lo, .int .i64 hi]) := Lib.hid ((Whole.below H4.out hbu (Whole.lt H4.out)))
  have H11 : Hid (Whole w1 (w.heap.size + 1 + 1 + 1) 32 zar) := Lib.hid ((Whole.below H5.out hbu (Whole.lt H5.out)))
  have H12 : Hid (Whole w1 (w.heap.size + 1 + 1 + 1 + 1) 41 zbk) := Lib.hid ((Whole.below H6.out hbu (Whole.lt H6.out)))
  clear H1 H2 H3 H4 H5 H6
  have HXQ := Lib.hid (HXP.out.below hbu (Nat.le_refl _))
  clear hbu HXP
  cases D
  case false =>
    have hno := of_decide_eq_false HD.out.symm
    have HRR : Hid (R0 = (zalg, zblk, 1)) := Lib.hid (by rw [HR0.out, if_neg fun h => hno h.1])
    clear hno
    go_wp2_with (first
      | (with_reducible refine wpList_store_alg rfl _ _ rfl (g := (w.heap.size + 1 + 1 + 1)) rfl rfl H11.out zar_size rfl (by with_unfolding_all rfl) ?_)
      | (with_reducible refine wpList_store_blk rfl _ _ rfl (g := (w.heap.size + 1 + 1 + 1 + 1)) rfl rfl (Whole.setRow_far H12.out (by omega) _) zbk_size rfl (by with_unfolding_all rfl) ?_))
    rw [zar_lit, zbk_lit]
    have e1 := Whole.setRow_far (Whole.setRow H11.out zar) (g' := (w.heap.size + 1 + 1 + 1 + 1)) (by omega) zbk
    have e2 := Whole.setRow (Whole.setRow_far H12.out (g' := (w.heap.size + 1 + 1 + 1)) (by omega) zar) zbk
    refine bodyPost_ret (results_blk3 Tryd.results9 _ rfl rfl _ rfl zar_size zbk_size e1 e2) rfl ?_
    rw [HRR.out]
    exact ⟨⟨_, _, rfl, alv_zero _ _, bkv_zero _ _⟩, below_setRow (below_setRow H7.out (by omega) _) (by omega) _⟩
  have htm := of_decide_eq_true HD.out.symm
  have HTM := Lib.hid htm
  clear htm
  by_cases hz0 : z < 0
  case pos =>
    have HRR : Hid (R0 = (zalg, zblk, 1)) := Lib.hid (by rw [HR0.out, if_neg fun h => absurd h.2.1 (by omega)])
    go_wp2_with (first
      | (with_reducible refine wpList_store_alg rfl _ _ rfl (g := (w.heap.size + 1 + 1 + 1)) rfl rfl H11.out zar_size rfl (by with_unfolding_all rfl) ?_)
      | (with_reducible refine wpList_store_blk rfl _ _ rfl (g := (w.heap.size + 1 + 1 + 1 + 1)) rfl rfl (Whole.setRow_far H12.out (by omega) _) zbk_size rfl (by with_unfolding_all rfl) ?_))
    rw [zar_lit, zbk_lit]
    have e1 := Whole.setRow_far (Whole.setRow H11.out zar) (g' := (w.heap.size + 1 + 1 + 1 + 1)) (by omega) zbk
    have e2 := Whole.setRow (Whole.setRow_far H12.out (g' := (w.heap.size + 1 + 1 + 1)) (by omega) zar) zbk
    refine bodyPost_ret (results_blk3 Tryd.results9 _ rfl rfl _ rfl zar_size zbk_size e1 e2) rfl ?_
    rw [HRR.out]
    exact ⟨⟨_, _, rfl, alv_zero _ _, bkv_zero _ _⟩, below_setRow (below_setRow H7.out (by omega) _) (by omega) _⟩
  by_cases hz7 : 7 < z
  case pos =>
    have HRR : Hid (R0 = (zalg, zblk, 1)) := Lib.hid (by rw [HR0.out, if_neg fun h => absurd h.2.2 (by omega)])
    go_wp2_with (first
      | (with_reducible refine wpList_store_alg rfl _ _ rfl (g := (w.heap.size + 1 + 1 + 1)) rfl rfl H11.out zar_size rfl (by with_unfolding_all rfl) ?_)
      | (with_reducible refine wpList_store_blk rfl _ _ rfl (g := (w.heap.size + 1 + 1 + 1 + 1)) rfl rfl (Whole.setRow_far H12.out (by omega) _) zbk_size rfl (by with_unfolding_all rfl) ?_))
    rw [zar_lit, zbk_lit]
    have e1 := Whole.setRow_far (Whole.setRow H11.out zar) (g' := (w.heap.size + 1 + 1 + 1 + 1)) (by omega) zbk
    have e2 := Whole.setRow (Whole.setRow_far H12.out (g' := (w.heap.size + 1 + 1 + 1)) (by omega) zar) zbk
    refine bodyPost_ret (results_blk3 Tryd.results9 _ rfl rfl _ rfl zar_size zbk_size e1 e2) rfl ?_
    rw [HRR.out]
    exact ⟨⟨_, _, rfl, alv_zero _ _, bkv_zero _ _⟩, below_setRow (below_setRow H7.out (by omega) _) (by omega) _⟩
  obtain ⟨R, hR⟩ : ∃ R, R = aKey a := ⟨_, rfl⟩
  have hcl := pkey HXQ.out (Tables.below HT.out (Nat.le_refl _) H7.out)
  have HR1 := Lib.hid (HR0.out.trans (if_pos ⟨HTM.out, by omega, by omega⟩))
  have HNF := HNN.out
  have hlT := HLT.out
  have hfr : R.2.2 = 0 → 0 ≤ R.1.fresh ∧ R.1.fresh ≤ 65536 := fun h => by rw [hR] at h ⊢; exact key_fresh hA1 h
  have hbx : R.2.2 = 0 → R.1.boxes.length < 1000 := fun h => by rw [hR] at h ⊢; rw [key_boxes h]; omega
  rw [← hR] at hcl HR1 HNF hlT
  have HNB := Lib.hid HNF
  have HKR := Lib.hid hfr
  have HKB := Lib.hid hbx
  clear hR HR0 HNN HNF HLT hfr hbx hA1 hA2 hlen
  obtain ⟨b, T, eb⟩ := R
  dsimp only [AlgR] at hcl HR1 HNB hlT HKR HKB
  go_wp2_with (with_reducible refine wpList_load_alg rfl _ rfl rfl H8.out (alc_size _ _ _ _ _) ?_)
  refine hcl.mono ?_
  rintro e u1 ⟨⟨v, rfl, hx1⟩, hbu⟩
  clear hcl hcz
  obtain ⟨Amb, cmb, Abb, cbb, rfl, hM, hBx, hA⟩ := hx1
  have hsu1 : w1.heap.size ≤ u1.heap.size := hbu.size
  have H13 : Hid (Below w.heap.size w u1) := Lib.hid ((Below.trans H7.out (Below.mono hbu (Below.size H7.out))))
  have H14 : Hid (ALRow u1 w.heap.size a.free a.seed a.fresh (.slice Ama a.macs.length cma) (.slice Aba a.boxes.length cba)) := Lib.hid ((Whole.below H8.out hbu (Whole.lt H8.out)))
  have H15 : Hid (Whole u1 (w.heap.size + 1) 36 (cnl z K vp).toArray) := Lib.hid ((Whole.below H9.out hbu (Whole.lt H9.out)))
  have H16 : Hid (Whole u1 (w.heap.size + 1 + 1) 24 #[.int .i64 lo, .int .i64 hi]) := Lib.hid ((Whole.below H10.out hbu (Whole.lt H10.out)))
  have H17 : Hid (Whole u1 (w.heap.size + 1 + 1 + 1) 32 zar) := Lib.hid ((Whole.below H11.out hbu (Whole.lt H11.out)))
  have H18 : Hid (Whole u1 (w.heap.size + 1 + 1 + 1 + 1) 41 zbk) := Lib.hid ((Whole.below H12.out hbu (Whole.lt H12.out)))
  clear H7 H8 H9 H10 H11 H12
  have H19 : Hid (AlV u1 (fun g => ((Q g ∧ g < w.heap.size)) ∧ g < u1.heap.size) (.agg (alc b.free b.seed b.fresh (.slice Amb b.macs.length cmb) (.slice Abb b.boxes.length cbb))) b) := Lib.hid (AlV.mono ⟨Amb, cmb, Abb, cbb, rfl, hM, hBx, hA⟩ fun g hg hq => ⟨hq, hg⟩)
  clear hM hBx hA hbu HXQ
  skip
  have ks0 : ∀ z0 : Array Value, Whole (u1.alloc (.cells z0 28)) w.heap.size 32 (alc a.free a.seed a.fresh (.slice Ama a.macs.length cma) (.slice Aba a.boxes.length cba)) := fun _ => (Whole.below H14.out (Below.alloc (Below.refl _ _) (Nat.le_refl _) _) (Whole.lt H14.out))
  have ks1 : ∀ z0 : Array Value, Whole ((u1.alloc (.cells z0 28)).setRow w.heap.size (alc b.free b.seed b.fresh (.slice Amb b.macs.length cmb) (.slice Abb b.boxes.length cbb))) u1.heap.size 28 z0 := fun _ => (Whole.setRow_far (Whole.here _ _ _) (by omega) _)
  go_upto_region 4 with (first
    | (with_reducible refine wpList_store_alg rfl _ _ rfl (g := w.heap.size) rfl rfl (ks0 _) (alc_size _ _ _ _ _) (alc_size _ _ _ _ _) (alc_one _ _ _ _ _ _ _ _ _) ?_)
    | (with_reducible refine wpList_store_tag rfl _ _ rfl (g := u1.heap.size) rfl rfl (ks1 _) rfl (tag_size hlT) (tag_one _) ?_))
  clear ks0 ks1
  rw [ztr_lit]
  obtain ⟨q1, hq⟩ : ∃ q, q = (((u1.alloc (.cells ztr 28)).setRow w.heap.size (alc b.free b.seed b.fresh (.slice Amb b.macs.length cmb) (.slice Abb b.boxes.length cbb))).setRow u1.heap.size (T.map byt).toArray) := ⟨_, rfl⟩
  rw [← hq]
  have hsq1 : u1.heap.size + 1 ≤ q1.heap.size := by rw [hq]; simp
  have H20 : Hid (Below w.heap.size w q1) := Lib.hid (by rw [hq]; exact (below_setRow (below_setRow (Below.trans H13.out (Below.mono (Below.alloc (Below.refl _ _) (Nat.le_refl _) _) (Below.size H13.out))) (by omega) _) (by omega) _))
  have H21 : Hid (ALRow q1 w.heap.size b.free b.seed b.fresh (.slice Amb b.macs.length cmb) (.slice Abb b.boxes.length cbb)) := Lib.hid (by rw [hq]; exact (Whole.setRow_far (Whole.setRow (Whole.below H14.out (Below.alloc (Below.refl _ _) (Nat.le_refl _) _) (Whole.lt H14.out)) _) (by omega) _))
  have H22 : Hid (Whole q1 (w.heap.size + 1) 36 (cnl z K vp).toArray) := Lib.hid (by rw [hq]; exact (Whole.setRow_far (Whole.setRow_far (Whole.below H15.out (Below.alloc (Below.refl _ _) (Nat.le_refl _) _) (Whole.lt H15.out)) (by omega) _) (by omega) _))
  have H23 : Hid (Whole q1 (w.heap.size + 1 + 1) 24 #[.int .i64 lo, .int .i64 hi]) := Lib.hid (by rw [hq]; exact (Whole.setRow_far (Whole.setRow_far (Whole.below H16.out (Below.alloc (Below.refl _ _) (Nat.le_refl _) _) (Whole.lt H16.out)) (by omega) _) (by omega) _))
  have H24 : Hid (Whole q1 (w.heap.size + 1 + 1 + 1) 32 zar) := Lib.hid (by rw [hq]; exact (Whole.setRow_far (Whole.setRow_far (Whole.below H17.out (Below.alloc (Below.refl _ _) (Nat.le_refl _) _) (Whole.lt H17.out)) (by omega) _) (by omega) _))
  have H25 : Hid (Whole q1 (w.heap.size + 1 + 1 + 1 + 1) 41 zbk) := Lib.hid (by rw [hq]; exact (Whole.setRow_far (Whole.setRow_far (Whole.below H18.out (Below.alloc (Below.refl _ _) (Nat.le_refl _) _) (Whole.lt H18.out)) (by omega) _) (by omega) _))
  have H26 : Hid (AlV q1 (fun g => ((Q g ∧ g < w.heap.size)) ∧ g < u1.heap.size) (.agg (alc b.free b.seed b.fresh (.slice Amb b.macs.length cmb) (.slice Abb b.boxes.length cbb))) b) := Lib.hid (by rw [hq]; exact (AlV.keep (AlV.keep (AlV.below H19.out (Below.alloc (Below.refl _ _) (Nat.le_refl _) _) (Nat.le_refl _)) (by simp) fun g _ hq => setRow_other _ _ _ _ (by omega)) (by simp) fun g _ hq => setRow_other _ _ _ _ (by omega)))
  clear H13 H14 H15 H16 H17 H18 H19
  have H27 : Hid (TGRow q1 u1.heap.size T) := Lib.hid (by rw [hq]; exact (Whole.setRow (Whole.setRow_far (Whole.here _ _ _) (by omega) _) _))
  clear hq
  by_cases he : eb = 0
  case neg =>
    have HRR : Hid (R0 = (zalg, zblk, eb)) := Lib.hid (by rw [HR1.out, if_pos he])
    have hne : (eb != 0) = true := by simpa using he
    clear he
    go_wp2_with (first
      | (with_reducible refine wpList_store_alg rfl _ _ rfl (g := (w.heap.size + 1 + 1 + 1)) rfl rfl H24.out zar_size rfl (by with_unfolding_all rfl) ?_)
      | (with_reducible refine wpList_store_blk rfl _ _ rfl (g := (w.heap.size + 1 + 1 + 1 + 1)) rfl rfl (Whole.setRow_far H25.out (by omega) _) zbk_size rfl (by with_unfolding_all rfl) ?_))
    rw [zar_lit, zbk_lit]
    have e1 := Whole.setRow_far (Whole.setRow H24.out zar) (g' := (w.heap.size + 1 + 1 + 1 + 1)) (by omega) zbk
    have e2 := Whole.setRow (Whole.setRow_far H25.out (g' := (w.heap.size + 1 + 1 + 1)) (by omega) zar) zbk
    refine bodyPost_ret (results_blk3 Tryd.results9 _ rfl rfl _ rfl zar_size zbk_size e1 e2) rfl ?_
    rw [HRR.out]
    exact ⟨⟨_, _, rfl, alv_zero _ _, bkv_zero _ _⟩, below_setRow (below_setRow H20.out (by omega) _) (by omega) _⟩
  subst he
  have hF := HKR.out rfl
  have hF0 := hF.1
  have hF1 := hF.2
  have hBL := HKB.out rfl
  obtain ⟨m, hm⟩ : ∃ m, m = tjoin T lo hi := ⟨_, rfl⟩
  obtain ⟨R, hR⟩ : ∃ R, R = aSeal b K b.fresh m := ⟨_, rfl⟩
  have HRE := Lib.hid hR
  have HR2 : Hid (R0 = if R.2.2 ≠ 0 then (zalg, zblk, R.2.2) else (R.1, ⟨z, T, R.2.1⟩, 0)) := Lib.hid (by rw [HR1.out, if_neg (by simp), ← hm, ← hR])
  have hml : m.length ≤ 256 := by
    have h := HTM.out
    have e1 := enc_len7 (n := lo.toNat) (by have := h.1; have := h.2.1; have := h.2.2; omega)
    have e2 := enc_len7 (n := hi.toNat) (by have := h.1; have := h.2.1; have := h.2.2; omega)
    rw [hm]
    unfold tjoin
    simp only [List.length_append]
    omega
  have HMM := Lib.hid hm
  have HJ : Hid (∀ W, Calls Tryd.prog 29 #[.agg (T.map byt).toArray, .agg #[.int .i64 lo, .int .i64 hi]] W fun e w' => ∃ v, e = .returned v ∧ Own w' W.heap.size v m ∧ Below W.heap.size W w') := Lib.hid fun W => by rw [hm]; exact tjoined hlT HTM.out
  have HN2 := Lib.hid (HNB.out m hml)
  have HTV := Lib.hid (Tables.below HT.out (Nat.le_refl _) H20.out)
  clear hm hR HR1 hF HKR HKB HNB HTM HT
  go_upto_region 6 with fail
  (try simp only [Act.put])
  have HCC : Hid (∀ W, Below q1.heap.size q1 W → (fun W : World => W.rangeAt w.heap.size 0 (alcl b.free b.seed b.fresh (.slice Amb b.macs.length cmb) (.slice Abb b.boxes.length cbb)) ∧ W.cell? ⟨w.heap.size, 33, none⟩ = some (.int .i64 b.fresh) ∧ W.rangeAt (w.heap.size + 1) 1 (K.map byt) ∧ W.rangeAt u1.heap.size 0 (T.map byt) ∧ W.rangeAt (w.heap.size + 1 + 1) 0 [.int .i64 lo, .int .i64 hi]) W) := Lib.hid fun W hb => ⟨Whole.range (Whole.below H21.out hb (Whole.lt H21.out)), (ALRow.cells (Whole.below H21.out hb (Whole.lt H21.out))).2.1, cnl_key hlK (Whole.below H22.out hb (Whole.lt H22.out)), TGRow.range (Whole.below H27.out hb (Whole.lt H27.out)), Whole.range (Whole.below H23.out hb (Whole.lt H23.out))⟩
  have hb0 : Below q1.heap.size q1 q1.drew := Below.drew (Below.refl _ _)
  have hs0 : q1.heap.size ≤ q1.drew.heap.size := hb0.size
  have r_x3_0 : Whole q1.drew (w.heap.size) 32 (alc b.free b.seed b.fresh (.slice Amb b.macs.length cmb) (.slice Abb b.boxes.length cbb)) := Whole.drew H21.out
  have xC_0 : Whole q1.drew ((w.heap.size + 1)) 36 (cnl z K vp).toArray := Whole.drew H22.out
  have x6_0 : Whole q1.drew ((w.heap.size + 1 + 1 + 1)) 32 zar := Whole.drew H24.out
  have x7_0 : Whole q1.drew ((w.heap.size + 1 + 1 + 1 + 1)) 41 zbk := Whole.drew H25.out
  have xT_0 : TGRow q1.drew u1.heap.size T := Whole.drew H27.out
  refine wp_region_G (fun W : World => W.rangeAt w.heap.size 0 (alcl b.free b.seed b.fresh (.slice Amb b.macs.length cmb) (.slice Abb b.boxes.length cbb)) ∧ W.cell? ⟨w.heap.size, 33, none⟩ = some (.int .i64 b.fresh) ∧ W.rangeAt (w.heap.size + 1) 1 (K.map byt) ∧ W.rangeAt u1.heap.size 0 (T.map byt) ∧ W.rangeAt (w.heap.size + 1 + 1) 0 [.int .i64 lo, .int .i64 hi]) (fun _ => True) [13] (by kernel_rfl) ?_
  have hHeld : (fun W : World => W.rangeAt w.heap.size 0 (alcl b.free b.seed b.fresh (.slice Amb b.macs.length cmb) (.slice Abb b.boxes.length cbb)) ∧ W.cell? ⟨w.heap.size, 33, none⟩ = some (.int .i64 b.fresh) ∧ W.rangeAt (w.heap.size + 1) 1 (K.map byt) ∧ W.rangeAt u1.heap.size 0 (T.map byt) ∧ W.rangeAt (w.heap.size + 1 + 1) 0 [.int .i64 lo, .int .i64 hi]) q1.drew := HCC.out _ hb0
  apply AnyG_take (i := 0) rfl (by kernel_rfl) (by kernel_rfl) (by kernel_rfl) (by kernel_rfl)
  case hQ => exact fun _ _ _ h => h
  case hB => exact trivial
  case hC => exact hHeld
  case hy => exact yieldsIf_load_mid (by rfl) 32 _ rfl w.heap.size (0) rfl ((alcl b.free b.seed b.fresh (.slice Amb b.macs.length cmb) (.slice Abb b.boxes.length cbb))) _ (fun w hS => hS.1) Tryd.underlying32 rfl (by rw [algSize, alcl_length])
  (try simp only [List.getElem_toArray, List.getElem_cons_zero, Act.put, List.setIfInBounds_toArray, List.set_cons_zero, List.set_cons_succ])
  apply AnyG_pure (i := 1) rfl (by kernel_rfl) (by kernel_rfl) (by kernel_rfl) (by kernel_rfl)
  case hQ => exact fun _ _ _ h => h
  case hB => exact trivial
  case hC => exact .inr hHeld
  case hy => (refine Or.inl ⟨by rfl, ?_⟩; intro w hSw; (try go_split_ands); go_simp; (try with_reducible rfl))
  (try simp only [List.getElem_toArray, List.getElem_cons_succ, List.getElem_cons_zero, Act.put, List.setIfInBounds_toArray, List.set_cons_zero, List.set_cons_succ])
  apply AnyG_take (i := 2) rfl (by kernel_rfl) (by kernel_rfl) (by kernel_rfl) (by kernel_rfl)
  case hQ => exact fun _ _ _ h => h
  case hB => exact trivial
  case hC => exact hHeld
  case hy => exact yieldsIf_load_mid (by rfl) 28 _ rfl (w.heap.size + 1) (1) rfl ((K.map byt)) _ (fun w hS => hS.2.2.1) Tryd.underlying28 rfl (by rw [tagSize, List.length_map, hlK])
  (try simp only [List.getElem_toArray, List.getElem_cons_succ, List.getElem_cons_zero, Act.put, List.setIfInBounds_toArray, List.set_cons_zero, List.set_cons_succ])
  apply AnyG_pure (i := 3) rfl (by kernel_rfl) (by kernel_rfl) (by kernel_rfl) (by kernel_rfl)
  case hQ => exact fun _ _ _ h => h
  case hB => exact trivial
  case hC => exact .inr hHeld
  case hy => (refine Or.inl ⟨by rfl, ?_⟩; intro w hSw; (try go_split_ands); go_simp; (try with_reducible rfl))
  (try simp only [List.getElem_toArray, List.getElem_cons_succ, List.getElem_cons_zero, Act.put, List.setIfInBounds_toArray, List.set_cons_zero, List.set_cons_succ])
  apply AnyG_take (i := 4) rfl (by kernel_rfl) (by kernel_rfl) (by kernel_rfl) (by kernel_rfl)
  case hQ => exact fun _ _ _ h => h
  case hB => exact trivial
  case hC => exact hHeld
  case hy => (refine Or.inl ⟨by rfl, ?_⟩; intro w hSw; (try go_split_ands); go_simp; (try with_reducible rfl))
  (try simp only [List.getElem_toArray, List.getElem_cons_succ, List.getElem_cons_zero, Act.put, List.setIfInBounds_toArray, List.set_cons_zero, List.set_cons_succ])
  apply AnyG_take (i := 5) rfl (by kernel_rfl) (by kernel_rfl) (by kernel_rfl) (by kernel_rfl)
  case hQ => exact fun _ _ _ h => h
  case hB => exact trivial
  case hC => exact hHeld
  case hy => exact yieldsIf_load_mid (by rfl) 28 _ rfl u1.heap.size (0) rfl ((T.map byt)) _ (fun w hS => hS.2.2.2.1) Tryd.underlying28 rfl (by rw [tagSize, List.length_map, hlT])
  (try simp only [List.getElem_toArray, List.getElem_cons_succ, List.getElem_cons_zero, Act.put, List.setIfInBounds_toArray, List.set_cons_zero, List.set_cons_succ])
  apply AnyG_take (i := 6) rfl (by kernel_rfl) (by kernel_rfl) (by kernel_rfl) (by kernel_rfl)
  case hQ => exact fun _ _ _ h => h
  case hB => exact trivial
  case hC => exact hHeld
  case hy => exact yieldsIf_load_mid (by rfl) 24 _ rfl (w.heap.size + 1 + 1) (0) rfl ([.int .i64 lo, .int .i64 hi]) _ (fun w hS => hS.2.2.2.2) Tryd.underlying24 rfl (by rw [tmsSize]; rfl)
  (try simp only [List.getElem_toArray, List.getElem_cons_succ, List.getElem_cons_zero, Act.put, List.setIfInBounds_toArray, List.set_cons_zero, List.set_cons_succ])
  refine AnyG_one (i := 7) (by kernel_rfl) rfl (fun KK hKK => ?_)
  (try simp only [List.getElem_toArray, List.getElem_cons_succ, List.getElem_cons_zero])
  go_simp
  go_at_call 29
  refine (HJ.out q1.drew).mono ?_
  rintro e V1 ⟨v1, rfl, ho1, hv1⟩
  have hs1 : q1.drew.heap.size ≤ V1.heap.size := hv1.size
  have hb1 := Below.trans hb0 (Below.mono hv1 (Below.size hb0))
  have r_x3_1 := Whole.below r_x3_0 hv1 (Whole.lt r_x3_0)
  have xC_1 := Whole.below xC_0 hv1 (Whole.lt xC_0)
  have x6_1 := Whole.below x6_0 hv1 (Whole.lt x6_0)
  have x7_1 := Whole.below x7_0 hv1 (Whole.lt x7_0)
  have xT_1 := Whole.below xT_0 hv1 (Whole.lt xT_0)
  have hy1 := Bytes.of_own ho1
  obtain ⟨B1, d1, rfl, -⟩ := id hy1
  have mb_1 : Bytes V1 (fun _ => True) (.slice B1 m.length d1) m := hy1.mono fun _ _ _ => trivial
  clear hHeld
  have hHeld : (fun W : World => W.rangeAt w.heap.size 0 (alcl b.free b.seed b.fresh (.slice Amb b.macs.length cmb) (.slice Abb b.boxes.length cbb)) ∧ W.cell? ⟨w.heap.size, 33, none⟩ = some (.int .i64 b.fresh) ∧ W.rangeAt (w.heap.size + 1) 1 (K.map byt) ∧ W.rangeAt u1.heap.size 0 (T.map byt) ∧ W.rangeAt (w.heap.size + 1 + 1) 0 [.int .i64 lo, .int .i64 hi]) V1 := HCC.out _ hb1
  refine hKK.out _ _ (.inr hHeld) trivial ?_
  clear hKK KK
  (try simp only [List.getElem_toArray, List.getElem_cons_succ, List.getElem_cons_zero, Act.put, List.setIfInBounds_toArray, List.set_cons_zero, List.set_cons_succ])
  refine AnyG_one (i := 8) (by kernel_rfl) rfl (fun KK hKK => ?_)
  (try simp only [List.getElem_toArray, List.getElem_cons_succ, List.getElem_cons_zero])
  go_simp
  go_at_call 28
  refine (pseal (z := b.fresh) (AlV.below H26.out hb1 (Nat.le_refl _)) (by omega) hlK (show i64q b.fresh from ⟨by omega, by omega⟩) mb_1 (by omega) (Tables.below HTV.out (Nat.le_refl _) hb1) (fun _ _ _ => HN2.out)).mono ?_
  rintro e V2 ⟨hx2, hv2⟩
  have hs2 : V1.heap.size ≤ V2.heap.size := hv2.size
  have hb2 := Below.trans hb1 (Below.mono hv2 (Below.size hb1))
  have r_x3_2 := Whole.below r_x3_1 hv2 (Whole.lt r_x3_1)
  have xC_2 := Whole.below xC_1 hv2 (Whole.lt xC_1)
  have x6_2 := Whole.below x6_1 hv2 (Whole.lt x6_1)
  have x7_2 := Whole.below x7_1 hv2 (Whole.lt x7_1)
  have xT_2 := Whole.below xT_1 hv2 (Whole.lt xT_1)
  have mb_2 := Bytes.below mb_1 hv2 (Nat.le_refl _)
  rw [← HRE.out] at hx2
  obtain ⟨v2, y2, rfl, hav2, hby2⟩ := hx2
  obtain ⟨Amc, cmc, Abc, cbc, rfl, hM, hBx, hA⟩ := id hav2
  clear hM hBx hA
  obtain ⟨AZ, cZ, rfl, -⟩ := id hby2
  have va_2 : AlV V2 (fun g => (Q g ∧ g < w.heap.size) ∨ (V1.heap.size ≤ g ∧ g < V2.heap.size)) (.agg (alc R.1.free R.1.seed R.1.fresh (.slice Amc R.1.macs.length cmc) (.slice Abc R.1.boxes.length cbc))) R.1 := AlV.mono hav2 fun g hg hq => hq.elim (fun h => .inl h.1) (fun h => .inr ⟨h, hg⟩)
  have vz_2 : Bytes V2 (fun g => V1.heap.size ≤ g ∧ g < V2.heap.size) (.slice AZ R.2.1.length cZ) R.2.1 := Bytes.mono hby2 fun g hg hq => ⟨hq, hg⟩
  clear hHeld
  have hHeld : (fun W : World => W.rangeAt w.heap.size 0 (alcl b.free b.seed b.fresh (.slice Amb b.macs.length cmb) (.slice Abb b.boxes.length cbb)) ∧ W.cell? ⟨w.heap.size, 33, none⟩ = some (.int .i64 b.fresh) ∧ W.rangeAt (w.heap.size + 1) 1 (K.map byt) ∧ W.rangeAt u1.heap.size 0 (T.map byt) ∧ W.rangeAt (w.heap.size + 1 + 1) 0 [.int .i64 lo, .int .i64 hi]) V2 := HCC.out _ hb2
  refine hKK.out _ _ (.inr hHeld) trivial ?_
  clear hKK KK
  (try simp only [List.getElem_toArray, List.getElem_cons_succ, List.getElem_cons_zero, Act.put, List.setIfInBounds_toArray, List.set_cons_zero, List.set_cons_succ])
  apply AnyG_pure (i := 9) rfl (by kernel_rfl) (by kernel_rfl) (by kernel_rfl) (by kernel_rfl)
  case hQ => exact fun _ _ _ h => h
  case hB => exact trivial
  case hC => exact .inr hHeld
  case hy => (refine Or.inl ⟨by rfl, ?_⟩; intro w hSw; (try go_split_ands); go_simp; (try with_reducible rfl))
  (try simp only [List.getElem_toArray, List.getElem_cons_succ, List.getElem_cons_zero, Act.put, List.setIfInBounds_toArray, List.set_cons_zero, List.set_cons_succ])
  apply AnyG_pure (i := 10) rfl (by kernel_rfl) (by kernel_rfl) (by kernel_rfl) (by kernel_rfl)
  case hQ => exact fun _ _ _ h => h
  case hB => exact trivial
  case hC => exact .inr hHeld
  case hy => (refine Or.inl ⟨by rfl, ?_⟩; intro w hSw; (try go_split_ands); go_simp; (try with_reducible rfl))
  (try simp only [List.getElem_toArray, List.getElem_cons_succ, List.getElem_cons_zero, Act.put, List.setIfInBounds_toArray, List.set_cons_zero, List.set_cons_succ])
  apply AnyG_pure (i := 11) rfl (by kernel_rfl) (by kernel_rfl) (by kernel_rfl) (by kernel_rfl)
  case hQ => exact fun _ _ _ h => h
  case hB => exact trivial
  case hC => exact .inr hHeld
  case hy => (refine Or.inl ⟨by rfl, ?_⟩; intro w hSw; (try go_split_ands); go_simp; (try with_reducible rfl))
  (try simp only [List.getElem_toArray, List.getElem_cons_succ, List.getElem_cons_zero, Act.put, List.setIfInBounds_toArray, List.set_cons_zero, List.set_cons_succ])
  apply AnyG_pure (i := 12) rfl (by kernel_rfl) (by kernel_rfl) (by kernel_rfl) (by kernel_rfl)
  case hQ => exact fun _ _ _ h => h
  case hB => exact trivial
  case hC => exact .inr hHeld
  case hy => (refine Or.inl ⟨by rfl, ?_⟩; intro w hSw; (try go_split_ands); go_simp; (try with_reducible rfl))
  (try simp only [List.getElem_toArray, List.getElem_cons_succ, List.getElem_cons_zero, Act.put, List.setIfInBounds_toArray, List.set_cons_zero, List.set_cons_succ])
  refine AnyG_one (i := 13) (by kernel_rfl) rfl (fun KK hKK => ?_)
  obtain ⟨V3, hV3⟩ : ∃ x, x = (V2).setRow (w.heap.size) (alc R.1.free R.1.seed R.1.fresh (.slice Amc R.1.macs.length cmc) (.slice Abc R.1.boxes.length cbc)) := ⟨_, rfl⟩
  have xC_3 : Whole V3 ((w.heap.size + 1)) 36 (cnl z K vp).toArray := by rw [hV3]; exact Whole.setRow_far xC_2 (by omega) _
  have x6_3 : Whole V3 ((w.heap.size + 1 + 1 + 1)) 32 zar := by rw [hV3]; exact Whole.setRow_far x6_2 (by omega) _
  have x7_3 : Whole V3 ((w.heap.size + 1 + 1 + 1 + 1)) 41 zbk := by rw [hV3]; exact Whole.setRow_far x7_2 (by omega) _
  have xT_3 : TGRow V3 u1.heap.size T := by rw [hV3]; exact Whole.setRow_far xT_2 (by omega) _
  have va_3 : AlV V3 (fun g => (Q g ∧ g < w.heap.size) ∨ (V1.heap.size ≤ g ∧ g < V2.heap.size)) (.agg (alc R.1.free R.1.seed R.1.fresh (.slice Amc R.1.macs.length cmc) (.slice Abc R.1.boxes.length cbc))) R.1 := by rw [hV3]; exact AlV.keep va_2 (by simp) fun g _ hq => setRow_other _ _ _ _ (by omega)
  have vz_3 : Bytes V3 (fun g => V1.heap.size ≤ g ∧ g < V2.heap.size) (.slice AZ R.2.1.length cZ) R.2.1 := by rw [hV3]; exact Bytes.keep vz_2 fun g _ hq => setRow_other _ _ _ _ (by omega)
  have r_x3_3 : Whole V3 (w.heap.size) 32 (alc R.1.free R.1.seed R.1.fresh (.slice Amc R.1.macs.length cmc) (.slice Abc R.1.boxes.length cbc)) := by rw [hV3]; exact Whole.setRow r_x3_2 _
  have hs3 : V2.heap.size ≤ V3.heap.size := by rw [hV3]; simp
  have hb3 : Below w.heap.size q1 V3 := by rw [hV3]; exact below_setRow (Below.mono hb2 (by omega)) (by omega) _
  rw [if_pos (by kernel_rfl)]
  refine wp_store_row 32 _ _ rfl (w.heap.size) _ rfl rfl 32 _ r_x3_2 (by rw [algSize, alc_size]) (by simp only [alc_size]) (alc_one _ _ _ _ _ _ _ _ _) ?_
  rw [← hV3]
  clear hV3
  refine hKK.out _ _ (.inl (by kernel_rfl)) trivial ?_
  clear hKK KK
  (try simp only [List.getElem_toArray, List.getElem_cons_succ, List.getElem_cons_zero, Act.put, List.setIfInBounds_toArray, List.set_cons_zero, List.set_cons_succ])
  apply AnyG_pure (i := 14) rfl (by kernel_rfl) (by kernel_rfl) (by kernel_rfl) (by kernel_rfl)
  case hQ => exact fun _ _ _ h => h
  case hB => exact trivial
  case hC => exact .inl (by kernel_rfl)
  case hy => (refine Or.inl ⟨by rfl, ?_⟩; intro w hSw; (try go_split_ands); go_simp; (try with_reducible rfl))
  (try simp only [List.getElem_toArray, List.getElem_cons_succ, List.getElem_cons_zero, Act.put, List.setIfInBounds_toArray, List.set_cons_zero, List.set_cons_succ])
  apply AnyG_pure (i := 15) rfl (by kernel_rfl) (by kernel_rfl) (by kernel_rfl) (by kernel_rfl)
  case hQ => exact fun _ _ _ h => h
  case hB => exact trivial
  case hC => exact .inl (by kernel_rfl)
  case hy => (refine Or.inl ⟨by rfl, ?_⟩; intro w hSw; (try go_split_ands); go_simp; (try with_reducible rfl))
  (try simp only [List.getElem_toArray, List.getElem_cons_succ, List.getElem_cons_zero, Act.put, List.setIfInBounds_toArray, List.set_cons_zero, List.set_cons_succ])
  refine AnyG_done (by kernel_rfl) ?_ _
  clear HCC hHeld
  have hbase := Below.trans H20.out hb3
  skip
  clear H20 H21 H22 H23 H24 H25 H26 H27
  have H28 : Hid (Below w.heap.size w V3) := Lib.hid (hbase)
  have H29 : Hid (Whole V3 (w.heap.size + 1) 36 (cnl z K vp).toArray) := Lib.hid (xC_3)
  have H30 : Hid (Whole V3 (w.heap.size + 1 + 1 + 1) 32 zar) := Lib.hid (x6_3)
  have H31 : Hid (Whole V3 (w.heap.size + 1 + 1 + 1 + 1) 41 zbk) := Lib.hid (x7_3)
  have HR9 := Lib.hid r_x3_3
  have HR10 := Lib.hid xT_3
  have HVA := Lib.hid (AlV.mono (Q' := fun g => (Q g ∧ g < w.heap.size) ∨ u1.heap.size < g) va_3 fun g hg hq => hq.elim .inl fun h => .inr (by omega))
  have HVZ := Lib.hid (Bytes.mono (Q' := fun g => u1.heap.size < g) vz_3 fun g hg hq => by omega)
  have hswc : u1.heap.size < V3.heap.size := HR10.out.lt
  obtain ⟨c, Z, eb⟩ := R
  dsimp only at HR2 HR9 HVA HVZ ⊢
  clear HJ HRE HN2 HTV HMM
  by_cases he : eb = 0
  case neg =>
    have HRR : Hid (R0 = (zalg, zblk, eb)) := Lib.hid (by rw [HR2.out, if_pos he])
    have hne : (eb != 0) = true := by simpa using he
    clear he
    go_wp2_with (first
      | (with_reducible refine wpList_store_alg rfl _ _ rfl (g := (w.heap.size + 1 + 1 + 1)) rfl rfl H30.out zar_size rfl (by with_unfolding_all rfl) ?_)
      | (with_reducible refine wpList_store_blk rfl _ _ rfl (g := (w.heap.size + 1 + 1 + 1 + 1)) rfl rfl (Whole.setRow_far H31.out (by omega) _) zbk_size rfl (by with_unfolding_all rfl) ?_))
    rw [zar_lit, zbk_lit]
    have e1 := Whole.setRow_far (Whole.setRow H30.out zar) (g' := (w.heap.size + 1 + 1 + 1 + 1)) (by omega) zbk
    have e2 := Whole.setRow (Whole.setRow_far H31.out (g' := (w.heap.size + 1 + 1 + 1)) (by omega) zar) zbk
    refine bodyPost_ret (results_blk3 Tryd.results9 _ rfl rfl _ rfl zar_size zbk_size e1 e2) rfl ?_
    rw [HRR.out]
    exact ⟨⟨_, _, rfl, alv_zero _ _, bkv_zero _ _⟩, below_setRow (below_setRow H28.out (by omega) _) (by omega) _⟩
  subst he
  have HRR : Hid (R0 = (c, ⟨z, T, Z⟩, 0)) := Lib.hid (by rw [HR2.out, if_neg (by simp)])
  have hsz : (Tryd.prog.info? 32).map (·.size) = some (alcl c.free c.seed c.fresh (.slice Amc c.macs.length cmc) (.slice Abc c.boxes.length cbc)).length := by rw [alcl_length]; exact algSize
  have hst : (Tryd.prog.info? 28).map (·.size) = some (T.map byt).length := by rw [List.length_map, hlT]; exact tagSize
  have h6d : Whole V3.drew (w.heap.size + 1 + 1 + 1) 32 zar := Whole.drew H30.out
  have h7d : Whole V3.drew (w.heap.size + 1 + 1 + 1 + 1) 41 zbk := Whole.drew H31.out
  have bbd : Below w.heap.size w V3.drew := Below.drew H28.out
  have i0d : V3.drew.rangeAt w.heap.size 0 (alcl c.free c.seed c.fresh (.slice Amc c.macs.length cmc) (.slice Abc c.boxes.length cbc)) := (Whole.range (Whole.drew HR9.out))
  have i1d : V3.drew.cell? ⟨(w.heap.size + 1), 0, none⟩ = some (.int .i64 z) := cnl_num (Whole.drew H29.out)
  have i2d : V3.drew.rangeAt u1.heap.size 0 (T.map byt) := (TGRow.range (Whole.drew HR10.out))
  have kvd : AlV V3.drew (fun g => (Q g ∧ g < w.heap.size) ∨ u1.heap.size < g) (.agg (alc c.free c.seed c.fresh (.slice Amc c.macs.length cmc) (.slice Abc c.boxes.length cbc))) c := AlV.below HVA.out (Below.drew (Below.refl _ _)) (Nat.le_refl _)
  have kzd : Bytes V3.drew (fun g => u1.heap.size < g) (.slice AZ Z.length cZ) Z := Bytes.below HVZ.out (Below.drew (Below.refl _ _)) (Nat.le_refl _)
  go_upto_region 9 with fail
  refine wp_region_held_drew (S := fun W => W.rangeAt w.heap.size 0 (alcl c.free c.seed c.fresh (.slice Amc c.macs.length cmc) (.slice Abc c.boxes.length cbc)) ∧ W.cell? ⟨(w.heap.size + 1), 0, none⟩ = some (.int .i64 z) ∧ W.rangeAt u1.heap.size 0 (T.map byt)) (by kernel_rfl) (⟨i0d, i1d, i2d⟩) (fun hHeld => ?_)
  apply wpAnyH_take (i := 0) rfl (by kernel_rfl) (by kernel_rfl) (by kernel_rfl)
  case hQ => exact fun _ _ _ h => h
  case hS => exact hHeld
  case hy => exact yieldsIf_load_mid (by rfl) 32 _ rfl w.heap.size 0 rfl (alcl c.free c.seed c.fresh (.slice Amc c.macs.length cmc) (.slice Abc c.boxes.length cbc)) _ (fun w hS => hS.1) Tryd.underlying32 rfl hsz
  (try simp only [List.getElem_toArray, List.getElem_cons_zero, Act.put, List.setIfInBounds_toArray, List.set_cons_zero, List.set_cons_succ])
  apply wpAnyH_take (i := 1) rfl (by kernel_rfl) (by kernel_rfl) (by kernel_rfl)
  case hQ => exact fun _ _ _ h => h
  case hS => exact hHeld
  case hy => (refine Or.inl ⟨by rfl, ?_⟩; intro w hSw; (try go_split_ands); go_simp; (try with_reducible rfl))
  (try simp only [List.getElem_toArray, List.getElem_cons_succ, List.getElem_cons_zero, Act.put, List.setIfInBounds_toArray, List.set_cons_zero, List.set_cons_succ])
  apply wpAnyH_take (i := 2) rfl (by kernel_rfl) (by kernel_rfl) (by kernel_rfl)
  case hQ => exact fun _ _ _ h => h
  case hS => exact hHeld
  case hy => (refine Or.inl ⟨by rfl, ?_⟩; intro w hSw; (try go_split_ands); go_simp; (try with_reducible rfl))
  (try simp only [List.getElem_toArray, List.getElem_cons_succ, List.getElem_cons_zero, Act.put, List.setIfInBounds_toArray, List.set_cons_zero, List.set_cons_succ])
  apply wpAnyH_take (i := 3) rfl (by kernel_rfl) (by kernel_rfl) (by kernel_rfl)
  case hQ => exact fun _ _ _ h => h
  case hS => exact hHeld
  case hy => exact yieldsIf_load_mid (by rfl) 28 _ rfl u1.heap.size 0 rfl (T.map byt) _ (fun w hS => hS.2.2) Tryd.underlying28 rfl hst
  (try simp only [List.getElem_toArray, List.getElem_cons_succ, List.getElem_cons_zero, Act.put, List.setIfInBounds_toArray, List.set_cons_zero, List.set_cons_succ])
  apply wpAnyH_take (i := 4) rfl (by kernel_rfl) (by kernel_rfl) (by kernel_rfl)
  case hQ => exact fun _ _ _ h => h
  case hS => exact hHeld
  case hy => (refine Or.inl ⟨by rfl, ?_⟩; intro w hSw; (try go_split_ands); go_simp; (try with_reducible rfl))
  (try simp only [List.getElem_toArray, List.getElem_cons_succ, List.getElem_cons_zero, Act.put, List.setIfInBounds_toArray, List.set_cons_zero, List.set_cons_succ])
  apply wpAnyH_take (i := 5) rfl (by kernel_rfl) (by kernel_rfl) (by kernel_rfl)
  case hQ => exact fun _ _ _ h => h
  case hS => exact hHeld
  case hy => exact yieldsIf_build_blk (by rfl) _ _ _ rfl hlT rfl rfl rfl
  (try simp only [List.getElem_toArray, List.getElem_cons_succ, List.getElem_cons_zero, Act.put, List.setIfInBounds_toArray, List.set_cons_zero, List.set_cons_succ])
  refine wpAnyH_ready (rs := [6]) (by kernel_rfl) (by simp) ?_
  refine AllReadyH.cons rfl (fun KK hKK => ?_) AllReadyH.nil
  obtain ⟨X1, hX1⟩ : ∃ x, x = V3.drew.setRow (w.heap.size + 1 + 1 + 1) (alcl c.free c.seed c.fresh (.slice Amc c.macs.length cmc) (.slice Abc c.boxes.length cbc)).toArray := ⟨_, rfl⟩
  have e1 : Whole X1 (w.heap.size + 1 + 1 + 1) 32 (alcl c.free c.seed c.fresh (.slice Amc c.macs.length cmc) (.slice Abc c.boxes.length cbc)).toArray := by rw [hX1]; exact Whole.setRow h6d _
  have h7X1 : Whole X1 (w.heap.size + 1 + 1 + 1 + 1) 41 zbk := by rw [hX1]; exact Whole.setRow_far h7d (by omega) _
  have bbX1 : Below w.heap.size w X1 := by rw [hX1]; exact below_setRow bbd (by omega) _
  have i0X1 : X1.rangeAt w.heap.size 0 (alcl c.free c.seed c.fresh (.slice Amc c.macs.length cmc) (.slice Abc c.boxes.length cbc)) := by rw [hX1]; exact (fun i v hv => (cell_setRow_other _ _ _ _ (by show w.heap.size ≠ (w.heap.size + 1 + 1 + 1); omega)).trans (i0d i v hv))
  have i1X1 : X1.cell? ⟨(w.heap.size + 1), 0, none⟩ = some (.int .i64 z) := by rw [hX1]; exact (cell_setRow_other _ _ _ _ (by show (w.heap.size + 1) ≠ (w.heap.size + 1 + 1 + 1); omega)).trans i1d
  have i2X1 : X1.rangeAt u1.heap.size 0 (T.map byt) := by rw [hX1]; exact (fun i v hv => (cell_setRow_other _ _ _ _ (by show u1.heap.size ≠ (w.heap.size + 1 + 1 + 1); omega)).trans (i2d i v hv))
  have kvX1 : AlV X1 (fun g => (Q g ∧ g < w.heap.size) ∨ u1.heap.size < g) (.agg (alc c.free c.seed c.fresh (.slice Amc c.macs.length cmc) (.slice Abc c.boxes.length cbc))) c := by rw [hX1]; exact AlV.keep kvd (by simp) fun g _ hq => setRow_other _ _ _ _ (by omega)
  have kzX1 : Bytes X1 (fun g => u1.heap.size < g) (.slice AZ Z.length cZ) Z := by rw [hX1]; exact Bytes.keep kzd fun g _ hq => setRow_other _ _ _ _ (by omega)
  rw [if_pos (by kernel_rfl)]
  refine wp_store_row 32 _ _ rfl (w.heap.size + 1 + 1 + 1) _ rfl rfl 32 _ h6d (by rw [algSize, List.size_toArray, alcl_length]) (by rw [zar_size, List.size_toArray, alcl_length]) (alc_one _ _ _ _ _ _ _ _ _) ?_
  rw [← hX1]
  clear hX1
  refine hKK.out _ _ (⟨i0X1, i1X1, i2X1⟩) (fun hHeld => ?_)
  clear hKK KK
  (try simp only [List.getElem_toArray, List.getElem_cons_succ, List.getElem_cons_zero, Act.put, List.setIfInBounds_toArray, List.set_cons_zero, List.set_cons_succ])
  refine wpAnyH_ready (rs := [7]) (by kernel_rfl) (by simp) ?_
  refine AllReadyH.cons rfl (fun KK hKK => ?_) AllReadyH.nil
  obtain ⟨X2, hX2⟩ : ∃ x, x = X1.setRow (w.heap.size + 1 + 1 + 1 + 1) (cnl z T (.slice AZ Z.length cZ)).toArray := ⟨_, rfl⟩
  have e1b : Whole X2 (w.heap.size + 1 + 1 + 1) 32 (alcl c.free c.seed c.fresh (.slice Amc c.macs.length cmc) (.slice Abc c.boxes.length cbc)).toArray := by rw [hX2]; exact Whole.setRow_far e1 (by omega) _
  have e2 : Whole X2 (w.heap.size + 1 + 1 + 1 + 1) 41 (cnl z T (.slice AZ Z.length cZ)).toArray := by rw [hX2]; exact Whole.setRow h7X1 _
  have bbX2 : Below w.heap.size w X2 := by rw [hX2]; exact below_setRow bbX1 (by omega) _
  have i0X2 : X2.rangeAt w.heap.size 0 (alcl c.free c.seed c.fresh (.slice Amc c.macs.length cmc) (.slice Abc c.boxes.length cbc)) := by rw [hX2]; exact (fun i v hv => (cell_setRow_other _ _ _ _ (by show w.heap.size ≠ (w.heap.size + 1 + 1 + 1 + 1); omega)).trans (i0X1 i v hv))
  have i1X2 : X2.cell? ⟨(w.heap.size + 1), 0, none⟩ = some (.int .i64 z) := by rw [hX2]; exact (cell_setRow_other _ _ _ _ (by show (w.heap.size + 1) ≠ (w.heap.size + 1 + 1 + 1 + 1); omega)).trans i1X1
  have i2X2 : X2.rangeAt u1.heap.size 0 (T.map byt) := by rw [hX2]; exact (fun i v hv => (cell_setRow_other _ _ _ _ (by show u1.heap.size ≠ (w.heap.size + 1 + 1 + 1 + 1); omega)).trans (i2X1 i v hv))
  have kvX2 : AlV X2 (fun g => (Q g ∧ g < w.heap.size) ∨ u1.heap.size < g) (.agg (alc c.free c.seed c.fresh (.slice Amc c.macs.length cmc) (.slice Abc c.boxes.length cbc))) c := by rw [hX2]; exact AlV.keep kvX1 (by simp) fun g _ hq => setRow_other _ _ _ _ (by omega)
  have kzX2 : Bytes X2 (fun g => u1.heap.size < g) (.slice AZ Z.length cZ) Z := by rw [hX2]; exact Bytes.keep kzX1 fun g _ hq => setRow_other _ _ _ _ (by omega)
  rw [if_pos (by kernel_rfl)]
  refine wp_store_row 41 _ _ rfl (w.heap.size + 1 + 1 + 1 + 1) _ rfl rfl 41 _ h7X1 (by rw [blankSize, cnl_size]) (by rw [zbk_size, cnl_size]) (cnl_one _ _ _ _ _) ?_
  rw [← hX2]
  clear hX2
  refine hKK.out _ _ (⟨i0X2, i1X2, i2X2⟩) (fun hHeld => ?_)
  clear hKK KK
  (try simp only [List.getElem_toArray, List.getElem_cons_succ, List.getElem_cons_zero, Act.put, List.setIfInBounds_toArray, List.set_cons_zero, List.set_cons_succ])
  apply wpAnyH_take (i := 8) rfl (by kernel_rfl) (by kernel_rfl) (by kernel_rfl)
  case hQ => exact fun _ _ _ h => h
  case hS => exact hHeld
  case hy => (refine Or.inl ⟨by rfl, ?_⟩; intro w hSw; (try go_split_ands); go_simp; (try with_reducible rfl))
  (try simp only [List.getElem_toArray, List.getElem_cons_succ, List.getElem_cons_zero, Act.put, List.setIfInBounds_toArray, List.set_cons_zero, List.set_cons_succ])
  refine wpAnyH_done (by kernel_rfl) ?_ _
  go_wp2_with fail
  refine bodyPost_ret (results_blk3 Tryd.results9 _ rfl rfl _ rfl (by rw [List.size_toArray, alcl_length]) (by rw [cnl_size]) e1b e2) rfl ?_
  rw [HRR.out]
  exact ⟨⟨_, _, rfl, AlV.mono kvX2 fun g _ hq => by rcases hq with hq | hq; exact .inl hq.1; exact .inr (by omega), AZ, cZ, rfl, Bytes.mono kzX2 fun g _ hq => by omega, hlT⟩, bbX2⟩
end Go.Proofs.YteekdhcffiaaaaaDoor
namespace Go.Proofs.YteekdhcffiaaaaaDoor
open Go Go.RowKit Sh Leaf

theorem own_emp {W : World} {base : Nat} (hb : base ≤ W.heap.size) : Own (W.alloc (.cells #[] 5)) base (.slice (some ⟨W.heap.size, 0, none⟩) 0 0) [] :=
  ⟨by simp, .inr ⟨W.heap.size, 0, #[], rfl, hb, heap_alloc_new W _, Nat.le_refl _, by unfold maxLen; omega, by simp, by simp⟩⟩
theorem rvalid_ (w : World) (lo hi : Int) : Calls Tryd.prog 14 #[.agg #[.int .i64 lo, .int .i64 hi]] w fun e w' => e = .returned (.bool (decide (tmok lo hi))) ∧ Below w.heap.size w w' := by
  obtain ⟨p, hp⟩ : ∃ p, p = w.alloc (.cells #[.int .i64 lo, .int .i64 hi] 24) := ⟨_, rfl⟩
  have hr : Whole p w.heap.size 24 #[.int .i64 lo, .int .i64 hi] := by rw [hp]; exact Whole.here _ _ _
  have hb : Below w.heap.size w p := by rw [hp]; exact (Below.refl _ _).alloc (Nat.le_refl _) _
  obtain ⟨D, hD⟩ : ∃ D, D = decide (tmok lo hi) := ⟨_, rfl⟩
  rw [← hD]
  have h0 := hr.cell 0
  have h1 := hr.cell 1
  have HB := Lib.hid hb
  have HD := Lib.hid hD
  clear hb hD hr
  go_enter Tryd.func14, Tryd.ntmps14
  go_upto_region 1 with fail
  rw [← hp]
  clear hp
  by_cases a1 : 0 ≤ lo
  · by_cases a2 : lo ≤ hi
    · by_cases a3 : hi ≤ 150
      · have hD' : D = true := by rw [HD.out]; exact decide_eq_true ⟨a1, a2, a3⟩
        go_wp2_with fail
        go_ret
        exact ⟨by rw [hD']; rfl, HB.out⟩
      · have hD' : D = false := by rw [HD.out]; exact decide_eq_false fun h => a3 h.2.2
        go_wp2_with fail
        go_ret
        exact ⟨rfl, HB.out⟩
    · have hD' : D = false := by rw [HD.out]; exact decide_eq_false fun h => a2 h.2.1
      go_wp2_with fail
      go_ret
      exact ⟨rfl, HB.out⟩
  · have hD' : D = false := by rw [HD.out]; exact decide_eq_false fun h => a1 h.1
    go_wp2_with fail
    go_ret
    exact ⟨rfl, HB.out⟩
set_option linter.unusedSimpArgs false in
set_option linter.unusedVariables false in
set_option maxRecDepth 100000 in
set_option maxHeartbeats 8000000 in
theorem rblank {w : World} {Q : Nat → Prop} {x vp : Value} {a : Alg} {K : List B8} (z lo hi : Int) (hx : AlV w Q x a) (hlen : a.boxes.length < 1000) (hlK : K.length = 32) :
    Calls Tryd.prog 10 #[x, .agg (cnl z K vp).toArray, .agg #[.int .i64 lo, .int .i64 hi]] w fun e w' => TbR w' (fun g => Q g ∨ w.heap.size ≤ g) (fun g => w.heap.size ≤ g) e (pBlank a z K lo hi) ∧ Below w.heap.size w w' := by
  obtain ⟨Ama, cma, Aba, cba, rfl, hM, hBx, hA⟩ := id hx
  obtain ⟨p, hp⟩ : ∃ p, p = ((((w.alloc (.cells (alc a.free a.seed a.fresh (.slice Ama a.macs.length cma) (.slice Aba a.boxes.length cba)) 32)).alloc (.cells (cnl z K vp).toArray 36)).alloc (.cells #[.int .i64 lo, .int .i64 hi] 24)).alloc (.cells zar 32)).alloc (.cells zbk 41) := ⟨_, rfl⟩
  have hr : ALRow p w.heap.size a.free a.seed a.fresh (.slice Ama a.macs.length cma) (.slice Aba a.boxes.length cba) := by rw [hp]; exact ((((Whole.here _ _ _).alloc _).alloc _).alloc _).alloc _
  have hk : Whole p (w.heap.size + 1) 36 (cnl z K vp).toArray := by rw [hp]; exact (((Whole.at_ _ _ _ _ (by simp)).alloc _).alloc _).alloc _
  have h5 : Whole p (w.heap.size + 1 + 1) 24 #[.int .i64 lo, .int .i64 hi] := by rw [hp]; exact ((Whole.at_ _ _ _ _ (by simp)).alloc _).alloc _
  have h6 : Whole p (w.heap.size + 1 + 1 + 1) 32 zar := by rw [hp]; exact (Whole.at_ _ _ _ _ (by simp)).alloc _
  have h7 : Whole p (w.heap.size + 1 + 1 + 1 + 1) 41 zbk := by rw [hp]; exact Whole.at_ _ _ _ _ (by simp)
  have hb : Below w.heap.size w p := by rw [hp]; exact (((((Below.refl _ _).alloc (Nat.le_refl _) _).alloc (by simp) _).alloc (by simp; omega) _).alloc (by simp; omega) _).alloc (by simp; omega) _
  have hps : (w.heap.size + 1 + 1 + 1 + 1) < p.heap.size := h7.lt
  have hcz := cnl_num hk
  have hxp := (hx.mono (Q' := fun g => Q g ∧ g < w.heap.size) fun g hg hq => ⟨hq, hg⟩).below hb (Nat.le_refl _)
  obtain ⟨R0, hR0⟩ : ∃ R, R = pBlank a z K lo hi := ⟨_, rfl⟩
  rw [← hR0]
  unfold pBlank at hR0
  have HR0 := Lib.hid hR0
  have HXP := Lib.hid hxp
  have H1 : Hid (Below w.heap.size w p) := Lib.hid (hb)
  have H2 : Hid (ALRow p w.heap.size a.free a.seed a.fresh (.slice Ama a.macs.length cma) (.slice Aba a.boxes.length cba)) := Lib.hid (hr)
  have H3 : Hid (Whole p (w.heap.size + 1) 36 (cnl z K vp).toArray) := Lib.hid (hk)
  have H4 : Hid (Whole p (w.heap.size + 1 + 1) 24 #[.int .i64 lo, .int .i64 hi]) := Lib.hid (h5)
  have H5 : Hid (Whole p (w.heap.size + 1 + 1 + 1) 32 zar) := Lib.hid (h6)
  have H6 : Hid (Whole p (w.heap.size + 1 + 1 + 1 + 1) 41 zbk) := Lib.hid (h7)
  have hA1 := hA.lo
  have hA2 := hA.hi
  have hlT : (aKey a).2.1.length = 32 := key_len a
  have HLT := Lib.hid hlT
  clear hR0 hb hr hk h5 h6 h7 hx hxp hM hBx hlT
  have hcl := rvalid_ p lo hi
  obtain ⟨D, hD⟩ : ∃ D, D = decide (tmok lo hi) := ⟨_, rfl⟩
  rw [← hD] at hcl
  have HD := Lib.hid hD
  clear hD
  go_enter Tryd.func10, Tryd.ntmps10
  go_upto_region 1 with fail
  rw [zar_lit, zbk_lit, ← hp]
  clear hp
  go_wp2_with (with_reducible refine wpList_load_tms rfl _ rfl rfl H4.out ?_)
  refine hcl.mono ?_
  rintro e w1 ⟨rfl, hbu⟩
  clear hcl
  have hs1 : p.heap.size ≤ w1.heap.size := hbu.size
  have hcz := cnl_num (Whole.below H3.out hbu (by omega))
  have H7 : Hid (Below w.heap.size w w1) := Lib.hid ((Below.trans H1.out (Below.mono hbu (Below.size H1.out))))
  have H8 : Hid (ALRow w1 w.heap.size a.free a.seed a.fresh (.slice Ama a.macs.length cma) (.slice Aba a.boxes.length cba)) := Lib.hid ((Whole.below H2.out hbu (Whole.lt H2.out)))
  have H9 : Hid (Whole w1 (w.heap.size + 1) 36 (cnl z K vp).toArray) := Lib.hid ((Whole.below H3.out hbu (Whole.lt H3.out)))
  have H10 : Hid (Whole w1 (w.heap.size + 1 + 1) 24 #[.int .i64 lo, .int .i64 hi]) := Lib.hid ((Whole.below H4.out hbu (Whole.lt H4.out)))
  have H11 : Hid (Whole w1 (w.heap.size + 1 + 1 + 1) 32 zar) := Lib.hid ((Whole.below H5.out hbu (Whole.lt H5.out)))
  have H12 : Hid (Whole w1 (w.heap.size + 1 + 1 + 1 + 1) 41 zbk) := Lib.hid ((Whole.below H6.out hbu (Whole.lt H6.out)))
  clear H1 H2 H3 H4 H5 H6
  have HXQ := Lib.hid (HXP.out.below hbu (Nat.le_refl _))
  clear hbu HXP
  cases D
  case false =>
    have hno := of_decide_eq_false HD.out.symm
    have HRR : Hid (R0 = (zalg, zblk, 1)) := Lib.hid (by rw [HR0.out, if_neg fun h => hno h.1])
    clear hno
    go_wp2_with (first
      | (with_reducible refine wpList_store_alg rfl _ _ rfl (g := (w.heap.size + 1 + 1 + 1)) rfl rfl H11.out zar_size rfl (by with_unfolding_all rfl) ?_)
      | (with_reducible refine wpList_store_blk rfl _ _ rfl (g := (w.heap.size + 1 + 1 + 1 + 1)) rfl rfl (Whole.setRow_far H12.out (by omega) _) zbk_size rfl (by with_unfolding_all rfl) ?_))
    rw [zar_lit, zbk_lit]
    have e1 := Whole.setRow_far (Whole.setRow H11.out zar) (g' := (w.heap.size + 1 + 1 + 1 + 1)) (by omega) zbk
    have e2 := Whole.setRow (Whole.setRow_far H12.out (g' := (w.heap.size + 1 + 1 + 1)) (by omega) zar) zbk
    refine bodyPost_ret (results_blk3 Tryd.results10 _ rfl rfl _ rfl zar_size zbk_size e1 e2) rfl ?_
    rw [HRR.out]
    exact ⟨⟨_, _, rfl, alv_zero _ _, bkv_zero _ _⟩, below_setRow (below_setRow H7.out (by omega) _) (by omega) _⟩
  have htm := of_decide_eq_true HD.out.symm
  have HTM := Lib.hid htm
  clear htm
  by_cases hz0 : z < 0
  case pos =>
    have HRR : Hid (R0 = (zalg, zblk, 1)) := Lib.hid (by rw [HR0.out, if_neg fun h => absurd h.2.1 (by omega)])
    go_wp2_with (first
      | (with_reducible refine wpList_store_alg rfl _ _ rfl (g := (w.heap.size + 1 + 1 + 1)) rfl rfl H11.out zar_size rfl (by with_unfolding_all rfl) ?_)
      | (with_reducible refine wpList_store_blk rfl _ _ rfl (g := (w.heap.size + 1 + 1 + 1 + 1)) rfl rfl (Whole.setRow_far H12.out (by omega) _) zbk_size rfl (by with_unfolding_all rfl) ?_))
    rw [zar_lit, zbk_lit]
    have e1 := Whole.setRow_far (Whole.setRow H11.out zar) (g' := (w.heap.size + 1 + 1 + 1 + 1)) (by omega) zbk
    have e2 := Whole.setRow (Whole.setRow_far H12.out (g' := (w.heap.size + 1 + 1 + 1)) (by omega) zar) zbk
    refine bodyPost_ret (results_blk3 Tryd.results10 _ rfl rfl _ rfl zar_size zbk_size e1 e2) rfl ?_
    rw [HRR.out]
    exact ⟨⟨_, _, rfl, alv_zero _ _, bkv_zero _ _⟩, below_setRow (below_setRow H7.out (by omega) _) (by omega) _⟩
  by_cases hz7 : 7 < z
  case pos =>
    have HRR : Hid (R0 = (zalg, zblk, 1)) := Lib.hid (by rw [HR0.out, if_neg fun h => absurd h.2.2 (by omega)])
    go_wp2_with (first
      | (with_reducible refine wpList_store_alg rfl _ _ rfl (g := (w.heap.size + 1 + 1 + 1)) rfl rfl H11.out zar_size rfl (by with_unfolding_all rfl) ?_)
      | (with_reducible refine wpList_store_blk rfl _ _ rfl (g := (w.heap.size + 1 + 1 + 1 + 1)) rfl rfl (Whole.setRow_far H12.out (by omega) _) zbk_size rfl (by with_unfolding_all rfl) ?_))
    rw [zar_lit, zbk_lit]
    have e1 := Whole.setRow_far (Whole.setRow H11.out zar) (g' := (w.heap.size + 1 + 1 + 1 + 1)) (by omega) zbk
    have e2 := Whole.setRow (Whole.setRow_far H12.out (g' := (w.heap.size + 1 + 1 + 1)) (by omega) zar) zbk
    refine bodyPost_ret (results_blk3 Tryd.results10 _ rfl rfl _ rfl zar_size zbk_size e1 e2) rfl ?_
    rw [HRR.out]
    exact ⟨⟨_, _, rfl, alv_zero _ _, bkv_zero _ _⟩, below_setRow (below_setRow H7.out (by omega) _) (by omega) _⟩
  obtain ⟨R, hR⟩ : ∃ R, R = aKey a := ⟨_, rfl⟩
  have hcl := rkey HXQ.out
  have HR1 := Lib.hid (HR0.out.trans (if_pos ⟨HTM.out, by omega, by omega⟩))
  have hlT := HLT.out
  have hfr : R.2.2 = 0 → 0 ≤ R.1.fresh ∧ R.1.fresh ≤ 65536 := fun h => by rw [hR] at h ⊢; exact key_fresh hA1 h
  have hbx : R.2.2 = 0 → R.1.boxes.length < 1000 := fun h => by rw [hR] at h ⊢; rw [key_boxes h]; omega
  rw [← hR] at hcl HR1 hlT
  have HKR := Lib.hid hfr
  have HKB := Lib.hid hbx
  clear hR HR0 HLT hfr hbx hA1 hA2 hlen
  obtain ⟨b, T, eb⟩ := R
  dsimp only [AlgR] at hcl HR1 hlT HKR HKB
  go_wp2_with (with_reducible refine wpList_load_alg rfl _ rfl rfl H8.out (alc_size _ _ _ _ _) ?_)
  refine hcl.mono ?_
  rintro e u1 ⟨⟨v, rfl, hx1⟩, hbu⟩
  clear hcl hcz
  obtain ⟨Amb, cmb, Abb, cbb, rfl, hM, hBx, hA⟩ := hx1
  have hsu1 : w1.heap.size ≤ u1.heap.size := hbu.size
  have H13 : Hid (Below w.heap.size w u1) := Lib.hid ((Below.trans H7.out (Below.mono hbu (Below.size H7.out))))
  have H14 : Hid (ALRow u1 w.heap.size a.free a.seed a.fresh (.slice Ama a.macs.length cma) (.slice Aba a.boxes.length cba)) := Lib.hid ((Whole.below H8.out hbu (Whole.lt H8.out)))
  have H15 : Hid (Whole u1 (w.heap.size + 1) 36 (cnl z K vp).toArray) := Lib.hid ((Whole.below H9.out hbu (Whole.lt H9.out)))
  have H16 : Hid (Whole u1 (w.heap.size + 1 + 1) 24 #[.int .i64 lo, .int .i64 hi]) := Lib.hid ((Whole.below H10.out hbu (Whole.lt H10.out)))
  have H17 : Hid (Whole u1 (w.heap.size + 1 + 1 + 1) 32 zar) := Lib.hid ((Whole.below H11.out hbu (Whole.lt H11.out)))
  have H18 : Hid (Whole u1 (w.heap.size + 1 + 1 + 1 + 1) 41 zbk) := Lib.hid ((Whole.below H12.out hbu (Whole.lt H12.out)))
  clear H7 H8 H9 H10 H11 H12
  have H19 : Hid (AlV u1 (fun g => ((Q g ∧ g < w.heap.size)) ∧ g < u1.heap.size) (.agg (alc b.free b.seed b.fresh (.slice Amb b.macs.length cmb) (.slice Abb b.boxes.length cbb))) b) := Lib.hid (AlV.mono ⟨Amb, cmb, Abb, cbb, rfl, hM, hBx, hA⟩ fun g hg hq => ⟨hq, hg⟩)
  clear hM hBx hA hbu HXQ
  skip
  have ks0 : ∀ z0 : Array Value, Whole (u1.alloc (.cells z0 28)) w.heap.size 32 (alc a.free a.seed a.fresh (.slice Ama a.macs.length cma) (.slice Aba a.boxes.length cba)) := fun _ => (Whole.below H14.out (Below.alloc (Below.refl _ _) (Nat.le_refl _) _) (Whole.lt H14.out))
  have ks1 : ∀ z0 : Array Value, Whole ((u1.alloc (.cells z0 28)).setRow w.heap.size (alc b.free b.seed b.fresh (.slice Amb b.macs.length cmb) (.slice Abb b.boxes.length cbb))) u1.heap.size 28 z0 := fun _ => (Whole.setRow_far (Whole.here _ _ _) (by omega) _)
  go_upto_region 4 with (first
    | (with_reducible refine wpList_store_alg rfl _ _ rfl (g := w.heap.size) rfl rfl (ks0 _) (alc_size _ _ _ _ _) (alc_size _ _ _ _ _) (alc_one _ _ _ _ _ _ _ _ _) ?_)
    | (with_reducible refine wpList_store_tag rfl _ _ rfl (g := u1.heap.size) rfl rfl (ks1 _) rfl (tag_size hlT) (tag_one _) ?_))
  clear ks0 ks1
  rw [ztr_lit]
  obtain ⟨q1, hq⟩ : ∃ q, q = (((u1.alloc (.cells ztr 28)).setRow w.heap.size (alc b.free b.seed b.fresh (.slice Amb b.macs.length cmb) (.slice Abb b.boxes.length cbb))).setRow u1.heap.size (T.map byt).toArray) := ⟨_, rfl⟩
  rw [← hq]
  have hsq1 : u1.heap.size + 1 ≤ q1.heap.size := by rw [hq]; simp
  have H20 : Hid (Below w.heap.size w q1) := Lib.hid (by rw [hq]; exact (below_setRow (below_setRow (Below.trans H13.out (Below.mono (Below.alloc (Below.refl _ _) (Nat.le_refl _) _) (Below.size H13.out))) (by omega) _) (by omega) _))
  have H21 : Hid (ALRow q1 w.heap.size b.free b.seed b.fresh (.slice Amb b.macs.length cmb) (.slice Abb b.boxes.length cbb)) := Lib.hid (by rw [hq]; exact (Whole.setRow_far (Whole.setRow (Whole.below H14.out (Below.alloc (Below.refl _ _) (Nat.le_refl _) _) (Whole.lt H14.out)) _) (by omega) _))
  have H22 : Hid (Whole q1 (w.heap.size + 1) 36 (cnl z K vp).toArray) := Lib.hid (by rw [hq]; exact (Whole.setRow_far (Whole.setRow_far (Whole.below H15.out (Below.alloc (Below.refl _ _) (Nat.le_refl _) _) (Whole.lt H15.out)) (by omega) _) (by omega) _))
  have H23 : Hid (Whole q1 (w.heap.size + 1 + 1) 24 #[.int .i64 lo, .int .i64 hi]) := Lib.hid (by rw [hq]; exact (Whole.setRow_far (Whole.setRow_far (Whole.below H16.out (Below.alloc (Below.refl _ _) (Nat.le_refl _) _) (Whole.lt H16.out)) (by omega) _) (by omega) _))
  have H24 : Hid (Whole q1 (w.heap.size + 1 + 1 + 1) 32 zar) := Lib.hid (by rw [hq]; exact (Whole.setRow_far (Whole.setRow_far (Whole.below H17.out (Below.alloc (Below.refl _ _) (Nat.le_refl _) _) (Whole.lt H17.out)) (by omega) _) (by omega) _))
  have H25 : Hid (Whole q1 (w.heap.size + 1 + 1 + 1 + 1) 41 zbk) := Lib.hid (by rw [hq]; exact (Whole.setRow_far (Whole.setRow_far (Whole.below H18.out (Below.alloc (Below.refl _ _) (Nat.le_refl _) _) (Whole.lt H18.out)) (by omega) _) (by omega) _))
  have H26 : Hid (AlV q1 (fun g => ((Q g ∧ g < w.heap.size)) ∧ g < u1.heap.size) (.agg (alc b.free b.seed b.fresh (.slice Amb b.macs.length cmb) (.slice Abb b.boxes.length cbb))) b) := Lib.hid (by rw [hq]; exact (AlV.keep (AlV.keep (AlV.below H19.out (Below.alloc (Below.refl _ _) (Nat.le_refl _) _) (Nat.le_refl _)) (by simp) fun g _ hq => setRow_other _ _ _ _ (by omega)) (by simp) fun g _ hq => setRow_other _ _ _ _ (by omega)))
  clear H13 H14 H15 H16 H17 H18 H19
  have H27 : Hid (TGRow q1 u1.heap.size T) := Lib.hid (by rw [hq]; exact (Whole.setRow (Whole.setRow_far (Whole.here _ _ _) (by omega) _) _))
  clear hq
  by_cases he : eb = 0
  case neg =>
    have HRR : Hid (R0 = (zalg, zblk, eb)) := Lib.hid (by rw [HR1.out, if_pos he])
    have hne : (eb != 0) = true := by simpa using he
    clear he
    go_wp2_with (first
      | (with_reducible refine wpList_store_alg rfl _ _ rfl (g := (w.heap.size + 1 + 1 + 1)) rfl rfl H24.out zar_size rfl (by with_unfolding_all rfl) ?_)
      | (with_reducible refine wpList_store_blk rfl _ _ rfl (g := (w.heap.size + 1 + 1 + 1 + 1)) rfl rfl (Whole.setRow_far H25.out (by omega) _) zbk_size rfl (by with_unfolding_all rfl) ?_))
    rw [zar_lit, zbk_lit]
    have e1 := Whole.setRow_far (Whole.setRow H24.out zar) (g' := (w.heap.size + 1 + 1 + 1 + 1)) (by omega) zbk
    have e2 := Whole.setRow (Whole.setRow_far H25.out (g' := (w.heap.size + 1 + 1 + 1)) (by omega) zar) zbk
    refine bodyPost_ret (results_blk3 Tryd.results10 _ rfl rfl _ rfl zar_size zbk_size e1 e2) rfl ?_
    rw [HRR.out]
    exact ⟨⟨_, _, rfl, alv_zero _ _, bkv_zero _ _⟩, below_setRow (below_setRow H20.out (by omega) _) (by omega) _⟩
  subst he
  have hF := HKR.out rfl
  have hF0 := hF.1
  have hF1 := hF.2
  have hBL := HKB.out rfl
  obtain ⟨m, hm⟩ : ∃ m, m = tjoin T lo hi := ⟨_, rfl⟩
  obtain ⟨R, hR⟩ : ∃ R, R = aSeal b K b.fresh m := ⟨_, rfl⟩
  have HRE := Lib.hid hR
  have HR2 : Hid (R0 = if R.2.2 ≠ 0 then (zalg, zblk, R.2.2) else (R.1, ⟨z, T, R.2.1⟩, 0)) := Lib.hid (by rw [HR1.out, if_neg (by simp), ← hm, ← hR])
  have hml : m.length ≤ 256 := by
    have h := HTM.out
    have e1 := enc_len7 (n := lo.toNat) (by have := h.1; have := h.2.1; have := h.2.2; omega)
    have e2 := enc_len7 (n := hi.toNat) (by have := h.1; have := h.2.1; have := h.2.2; omega)
    rw [hm]
    unfold tjoin
    simp only [List.length_append]
    omega
  have HMM := Lib.hid hm
  obtain ⟨a1, rfl⟩ : ∃ n : Nat, lo = n := ⟨lo.toNat, by have := HTM.out.1; omega⟩
  obtain ⟨b1, rfl⟩ : ∃ n : Nat, hi = n := ⟨hi.toNat, by have := HTM.out.1; have := HTM.out.2.1; omega⟩
  have ha1 : a1 ≤ 150 := by have := HTM.out.2.1; have := HTM.out.2.2; omega
  have hb1 : b1 ≤ 150 := by have := HTM.out.2.2; omega
  have e7a := enc_len7 (n := a1) (by omega)
  have e7b := enc_len7 (n := b1) (by omega)
  have hst0 := fun g W => run_sliceAt_whole (P := Tryd.prog) (t := 28) (e := 5) (n := 32) Tryd.underlying28 (by kernel_rfl) g W
  have HM2 : Hid (m = T ++ enc a1 ++ enc b1) := Lib.hid (by rw [hm]; unfold tjoin; rw [Int.toNat_natCast, Int.toNat_natCast])
  clear hm hR HR1 hF HKR HKB HTM
  go_upto_region 6 with fail
  (try simp only [Act.put])
  have HCC : Hid (∀ W, Below q1.heap.size q1 W → (fun W : World => W.rangeAt w.heap.size 0 (alcl b.free b.seed b.fresh (.slice Amb b.macs.length cmb) (.slice Abb b.boxes.length cbb)) ∧ W.cell? ⟨w.heap.size, 33, none⟩ = some (.int .i64 b.fresh) ∧ W.rangeAt (w.heap.size + 1) 1 (K.map byt) ∧ W.rangeAt u1.heap.size 0 (T.map byt) ∧ W.cell? ⟨(w.heap.size + 1 + 1), 0, none⟩ = some (.int .i64 (a1 : Int)) ∧ W.cell? ⟨(w.heap.size + 1 + 1), 1, none⟩ = some (.int .i64 (b1 : Int))) W) := Lib.hid fun W hb => ⟨Whole.range (Whole.below H21.out hb (Whole.lt H21.out)), (ALRow.cells (Whole.below H21.out hb (Whole.lt H21.out))).2.1, cnl_key hlK (Whole.below H22.out hb (Whole.lt H22.out)), TGRow.range (Whole.below H27.out hb (Whole.lt H27.out)), ⟨(Whole.below H23.out hb (Whole.lt H23.out)).cell 0, (Whole.below H23.out hb (Whole.lt H23.out)).cell 1⟩⟩
  have hb0 : Below q1.heap.size q1 q1.drew := Below.drew (Below.refl _ _)
  have hs0 : q1.heap.size ≤ q1.drew.heap.size := hb0.size
  have r_x3_0 : Whole q1.drew (w.heap.size) 32 (alc b.free b.seed b.fresh (.slice Amb b.macs.length cmb) (.slice Abb b.boxes.length cbb)) := Whole.drew H21.out
  have xC_0 : Whole q1.drew ((w.heap.size + 1)) 36 (cnl z K vp).toArray := Whole.drew H22.out
  have x6_0 : Whole q1.drew ((w.heap.size + 1 + 1 + 1)) 32 zar := Whole.drew H24.out
  have x7_0 : Whole q1.drew ((w.heap.size + 1 + 1 + 1 + 1)) 41 zbk := Whole.drew H25.out
  have xT_0 : TGRow q1.drew u1.heap.size T := Whole.drew H27.out
  refine wp_region_G (fun W : World => W.rangeAt w.heap.size 0 (alcl b.free b.seed b.fresh (.slice Amb b.macs.length cmb) (.slice Abb b.boxes.length cbb)) ∧ W.cell? ⟨w.heap.size, 33, none⟩ = some (.int .i64 b.fresh) ∧ W.rangeAt (w.heap.size + 1) 1 (K.map byt) ∧ W.rangeAt u1.heap.size 0 (T.map byt) ∧ W.cell? ⟨(w.heap.size + 1 + 1), 0, none⟩ = some (.int .i64 (a1 : Int)) ∧ W.cell? ⟨(w.heap.size + 1 + 1), 1, none⟩ = some (.int .i64 (b1 : Int))) (fun _ => True) [21] (by kernel_rfl) ?_
  have hHeld : (fun W : World => W.rangeAt w.heap.size 0 (alcl b.free b.seed b.fresh (.slice Amb b.macs.length cmb) (.slice Abb b.boxes.length cbb)) ∧ W.cell? ⟨w.heap.size, 33, none⟩ = some (.int .i64 b.fresh) ∧ W.rangeAt (w.heap.size + 1) 1 (K.map byt) ∧ W.rangeAt u1.heap.size 0 (T.map byt) ∧ W.cell? ⟨(w.heap.size + 1 + 1), 0, none⟩ = some (.int .i64 (a1 : Int)) ∧ W.cell? ⟨(w.heap.size + 1 + 1), 1, none⟩ = some (.int .i64 (b1 : Int))) q1.drew := HCC.out _ hb0
  apply AnyG_take (i := 0) rfl (by kernel_rfl) (by kernel_rfl) (by kernel_rfl) (by kernel_rfl)
  case hQ => exact fun _ _ _ h => h
  case hB => exact trivial
  case hC => exact hHeld
  case hy => exact yieldsIf_load_mid (by rfl) 32 _ rfl w.heap.size (0) rfl ((alcl b.free b.seed b.fresh (.slice Amb b.macs.length cmb) (.slice Abb b.boxes.length cbb))) _ (fun w hS => hS.1) Tryd.underlying32 rfl (by rw [algSize, alcl_length])
  (try simp only [List.getElem_toArray, List.getElem_cons_zero, Act.put, List.setIfInBounds_toArray, List.set_cons_zero, List.set_cons_succ])
  apply AnyG_pure (i := 1) rfl (by kernel_rfl) (by kernel_rfl) (by kernel_rfl) (by kernel_rfl)
  case hQ => exact fun _ _ _ h => h
  case hB => exact trivial
  case hC => exact .inr hHeld
  case hy => (refine Or.inl ⟨by rfl, ?_⟩; intro w hSw; (try go_split_ands); go_simp; (try with_reducible rfl))
  (try simp only [List.getElem_toArray, List.getElem_cons_succ, List.getElem_cons_zero, Act.put, List.setIfInBounds_toArray, List.set_cons_zero, List.set_cons_succ])
  apply AnyG_take (i := 2) rfl (by kernel_rfl) (by kernel_rfl) (by kernel_rfl) (by kernel_rfl)
  case hQ => exact fun _ _ _ h => h
  case hB => exact trivial
  case hC => exact hHeld
  case hy => exact yieldsIf_load_mid (by rfl) 28 _ rfl (w.heap.size + 1) (1) rfl ((K.map byt)) _ (fun w hS => hS.2.2.1) Tryd.underlying28 rfl (by rw [tagSize, List.length_map, hlK])
  (try simp only [List.getElem_toArray, List.getElem_cons_succ, List.getElem_cons_zero, Act.put, List.setIfInBounds_toArray, List.set_cons_zero, List.set_cons_succ])
  apply AnyG_pure (i := 3) rfl (by kernel_rfl) (by kernel_rfl) (by kernel_rfl) (by kernel_rfl)
  case hQ => exact fun _ _ _ h => h
  case hB => exact trivial
  case hC => exact .inr hHeld
  case hy => (refine Or.inl ⟨by rfl, ?_⟩; intro w hSw; (try go_split_ands); go_simp; (try with_reducible rfl))
  (try simp only [List.getElem_toArray, List.getElem_cons_succ, List.getElem_cons_zero, Act.put, List.setIfInBounds_toArray, List.set_cons_zero, List.set_cons_succ])
  apply AnyG_take (i := 4) rfl (by kernel_rfl) (by kernel_rfl) (by kernel_rfl) (by kernel_rfl)
  case hQ => exact fun _ _ _ h => h
  case hB => exact trivial
  case hC => exact hHeld
  case hy => (refine Or.inl ⟨by rfl, ?_⟩; intro w hSw; (try go_split_ands); go_simp; (try with_reducible rfl))
  (try simp only [List.getElem_toArray, List.getElem_cons_succ, List.getElem_cons_zero, Act.put, List.setIfInBounds_toArray, List.set_cons_zero, List.set_cons_succ])
  apply AnyG_pure (i := 6) rfl (by kernel_rfl) (by kernel_rfl) (by kernel_rfl) (by kernel_rfl)
  case hQ => exact fun _ _ _ h => h
  case hB => exact trivial
  case hC => exact .inr hHeld
  case hy => (refine Or.inl ⟨by rfl, ?_⟩; intro w hSw; (try go_split_ands); go_simp; (try with_reducible rfl))
  (try simp only [List.getElem_toArray, List.getElem_cons_succ, List.getElem_cons_zero, Act.put, List.setIfInBounds_toArray, List.set_cons_zero, List.set_cons_succ])
  apply AnyG_pure (i := 8) rfl (by kernel_rfl) (by kernel_rfl) (by kernel_rfl) (by kernel_rfl)
  case hQ => exact fun _ _ _ h => h
  case hB => exact trivial
  case hC => exact .inr hHeld
  case hy => (refine Or.inl ⟨by rfl, ?_⟩; intro w hSw; (try go_split_ands); go_simp; (try with_reducible rfl))
  (try simp only [List.getElem_toArray, List.getElem_cons_succ, List.getElem_cons_zero, Act.put, List.setIfInBounds_toArray, List.set_cons_zero, List.set_cons_succ])
  apply AnyG_take (i := 9) rfl (by kernel_rfl) (by kernel_rfl) (by kernel_rfl) (by kernel_rfl)
  case hQ => exact fun _ _ _ h => h
  case hB => exact trivial
  case hC => exact hHeld
  case hy => (refine Or.inl ⟨by rfl, ?_⟩; intro w hSw; (try go_split_ands); go_simp; (try with_reducible rfl))
  (try simp only [List.getElem_toArray, List.getElem_cons_succ, List.getElem_cons_zero, Act.put, List.setIfInBounds_toArray, List.set_cons_zero, List.set_cons_succ])
  apply AnyG_pure (i := 12) rfl (by kernel_rfl) (by kernel_rfl) (by kernel_rfl) (by kernel_rfl)
  case hQ => exact fun _ _ _ h => h
  case hB => exact trivial
  case hC => exact .inr hHeld
  case hy => (refine Or.inl ⟨by rfl, ?_⟩; intro w hSw; (try go_split_ands); go_simp; (try with_reducible rfl))
  (try simp only [List.getElem_toArray, List.getElem_cons_succ, List.getElem_cons_zero, Act.put, List.setIfInBounds_toArray, List.set_cons_zero, List.set_cons_succ])
  apply AnyG_take (i := 13) rfl (by kernel_rfl) (by kernel_rfl) (by kernel_rfl) (by kernel_rfl)
  case hQ => exact fun _ _ _ h => h
  case hB => exact trivial
  case hC => exact hHeld
  case hy => (refine Or.inl ⟨by rfl, ?_⟩; intro w hSw; (try go_split_ands); go_simp; (try with_reducible rfl))
  (try simp only [List.getElem_toArray, List.getElem_cons_succ, List.getElem_cons_zero, Act.put, List.setIfInBounds_toArray, List.set_cons_zero, List.set_cons_succ])
  refine AnyG_one (i := 5) (by kernel_rfl) rfl (fun KK hKK => ?_)
  (try simp only [List.getElem_toArray, List.getElem_cons_succ, List.getElem_cons_zero])
  go_simp
  obtain ⟨V1, hV1⟩ : ∃ x, x = (q1.alloc (.cells #[] 5)).drew := ⟨_, rfl⟩
  have hv1 : Below q1.heap.size q1.drew V1 := by rw [hV1]; exact Below.alloc (Below.refl q1.heap.size q1.drew) (Nat.le_refl _) (.cells #[] 5)
  have ho1 : Own V1 q1.heap.size (.slice (some ⟨q1.heap.size, 0, none⟩) 0 0) [] := by rw [hV1]; exact own_emp (Nat.le_refl _)
  rw [← hV1]
  clear hV1
  have hs1 : q1.drew.heap.size ≤ V1.heap.size := hv1.size
  have hb1 := Below.trans hb0 hv1
  have r_x3_1 := Whole.below H21.out hb1 (Whole.lt H21.out)
  have xC_1 := Whole.below H22.out hb1 (Whole.lt H22.out)
  have x6_1 := Whole.below H24.out hb1 (Whole.lt H24.out)
  have x7_1 := Whole.below H25.out hb1 (Whole.lt H25.out)
  have xT_1 := Whole.below H27.out hb1 (Whole.lt H27.out)
  clear hHeld
  have hHeld : (fun W : World => W.rangeAt w.heap.size 0 (alcl b.free b.seed b.fresh (.slice Amb b.macs.length cmb) (.slice Abb b.boxes.length cbb)) ∧ W.cell? ⟨w.heap.size, 33, none⟩ = some (.int .i64 b.fresh) ∧ W.rangeAt (w.heap.size + 1) 1 (K.map byt) ∧ W.rangeAt u1.heap.size 0 (T.map byt) ∧ W.cell? ⟨(w.heap.size + 1 + 1), 0, none⟩ = some (.int .i64 (a1 : Int)) ∧ W.cell? ⟨(w.heap.size + 1 + 1), 1, none⟩ = some (.int .i64 (b1 : Int))) V1 := HCC.out _ hb1
  refine hKK.out _ _ (.inr hHeld) trivial ?_
  clear hKK KK
  (try simp only [List.getElem_toArray, List.getElem_cons_succ, List.getElem_cons_zero, Act.put, List.setIfInBounds_toArray, List.set_cons_zero, List.set_cons_succ])
  refine AnyG_one (i := 7) (by kernel_rfl) rfl (fun KK hKK => ?_)
  have hsr2 := by have h := Whole.bytes (Whole.below H27.out hb1 (Whole.lt H27.out)) (by omega); rw [hlT] at h; exact h
  refine step_append_bytes (by rfl) _ _ (by rfl) q1.heap.size _ [] (by rfl) ho1 _ _ T (by rfl) hsr2 (by (try simp only [List.length_append, List.length_nil]); omega) (Below.size hb1) ?_
  intro v2 V2 ho2 hv2
  rw [List.nil_append] at ho2
  have hs2 : V1.heap.size ≤ V2.heap.size := hv2.size
  have hb2 := Below.trans hb1 hv2
  have r_x3_2 := Whole.below H21.out hb2 (Whole.lt H21.out)
  have xC_2 := Whole.below H22.out hb2 (Whole.lt H22.out)
  have x6_2 := Whole.below H24.out hb2 (Whole.lt H24.out)
  have x7_2 := Whole.below H25.out hb2 (Whole.lt H25.out)
  have xT_2 := Whole.below H27.out hb2 (Whole.lt H27.out)
  clear hHeld
  have hHeld : (fun W : World => W.rangeAt w.heap.size 0 (alcl b.free b.seed b.fresh (.slice Amb b.macs.length cmb) (.slice Abb b.boxes.length cbb)) ∧ W.cell? ⟨w.heap.size, 33, none⟩ = some (.int .i64 b.fresh) ∧ W.rangeAt (w.heap.size + 1) 1 (K.map byt) ∧ W.rangeAt u1.heap.size 0 (T.map byt) ∧ W.cell? ⟨(w.heap.size + 1 + 1), 0, none⟩ = some (.int .i64 (a1 : Int)) ∧ W.cell? ⟨(w.heap.size + 1 + 1), 1, none⟩ = some (.int .i64 (b1 : Int))) V2 := HCC.out _ hb2
  refine hKK.out _ _ (.inr hHeld) trivial ?_
  clear hKK KK
  (try simp only [List.getElem_toArray, List.getElem_cons_succ, List.getElem_cons_zero, Act.put, List.setIfInBounds_toArray, List.set_cons_zero, List.set_cons_succ])
  refine AnyG_one (i := 10) (by kernel_rfl) rfl (fun KK hKK => ?_)
  (try simp only [List.getElem_toArray, List.getElem_cons_succ, List.getElem_cons_zero])
  go_simp
  go_at_call 30
  refine (number a1 V2 (by omega)).mono ?_
  rintro e V3 ⟨n3, rfl, hn3, hv3⟩
  have ho3 := own_below ho2 hv3 (Nat.le_refl _)
  have hv3 := Below.mono hv3 (Below.size hb2)
  have hs3 : V2.heap.size ≤ V3.heap.size := hv3.size
  have hb3 := Below.trans hb2 hv3
  have r_x3_3 := Whole.below H21.out hb3 (Whole.lt H21.out)
  have xC_3 := Whole.below H22.out hb3 (Whole.lt H22.out)
  have x6_3 := Whole.below H24.out hb3 (Whole.lt H24.out)
  have x7_3 := Whole.below H25.out hb3 (Whole.lt H25.out)
  have xT_3 := Whole.below H27.out hb3 (Whole.lt H27.out)
  clear hHeld
  have hHeld : (fun W : World => W.rangeAt w.heap.size 0 (alcl b.free b.seed b.fresh (.slice Amb b.macs.length cmb) (.slice Abb b.boxes.length cbb)) ∧ W.cell? ⟨w.heap.size, 33, none⟩ = some (.int .i64 b.fresh) ∧ W.rangeAt (w.heap.size + 1) 1 (K.map byt) ∧ W.rangeAt u1.heap.size 0 (T.map byt) ∧ W.cell? ⟨(w.heap.size + 1 + 1), 0, none⟩ = some (.int .i64 (a1 : Int)) ∧ W.cell? ⟨(w.heap.size + 1 + 1), 1, none⟩ = some (.int .i64 (b1 : Int))) V3 := HCC.out _ hb3
  refine hKK.out _ _ (.inr hHeld) trivial ?_
  clear hKK KK
  (try simp only [List.getElem_toArray, List.getElem_cons_succ, List.getElem_cons_zero, Act.put, List.setIfInBounds_toArray, List.set_cons_zero, List.set_cons_succ])
  refine AnyG_one (i := 11) (by kernel_rfl) rfl (fun KK hKK => ?_)
  have hsr4 := Bytes.of_own hn3
  refine step_append_bytes (by rfl) _ _ (by rfl) q1.heap.size _ T (by rfl) ho3 _ _ (enc a1) (by rfl) hsr4 (by (try simp only [List.length_append, List.length_nil]); omega) (Below.size hb3) ?_
  intro v4 V4 ho4 hv4
  have hs4 : V3.heap.size ≤ V4.heap.size := hv4.size
  have hb4 := Below.trans hb3 hv4
  have r_x3_4 := Whole.below H21.out hb4 (Whole.lt H21.out)
  have xC_4 := Whole.below H22.out hb4 (Whole.lt H22.out)
  have x6_4 := Whole.below H24.out hb4 (Whole.lt H24.out)
  have x7_4 := Whole.below H25.out hb4 (Whole.lt H25.out)
  have xT_4 := Whole.below H27.out hb4 (Whole.lt H27.out)
  clear hHeld
  have hHeld : (fun W : World => W.rangeAt w.heap.size 0 (alcl b.free b.seed b.fresh (.slice Amb b.macs.length cmb) (.slice Abb b.boxes.length cbb)) ∧ W.cell? ⟨w.heap.size, 33, none⟩ = some (.int .i64 b.fresh) ∧ W.rangeAt (w.heap.size + 1) 1 (K.map byt) ∧ W.rangeAt u1.heap.size 0 (T.map byt) ∧ W.cell? ⟨(w.heap.size + 1 + 1), 0, none⟩ = some (.int .i64 (a1 : Int)) ∧ W.cell? ⟨(w.heap.size + 1 + 1), 1, none⟩ = some (.int .i64 (b1 : Int))) V4 := HCC.out _ hb4
  refine hKK.out _ _ (.inr hHeld) trivial ?_
  clear hKK KK
  (try simp only [List.getElem_toArray, List.getElem_cons_succ, List.getElem_cons_zero, Act.put, List.setIfInBounds_toArray, List.set_cons_zero, List.set_cons_succ])
  refine AnyG_one (i := 14) (by kernel_rfl) rfl (fun KK hKK => ?_)
  (try simp only [List.getElem_toArray, List.getElem_cons_succ, List.getElem_cons_zero])
  go_simp
  go_at_call 30
  refine (number b1 V4 (by omega)).mono ?_
  rintro e V5 ⟨n5, rfl, hn5, hv5⟩
  have ho5 := own_below ho4 hv5 (Nat.le_refl _)
  have hv5 := Below.mono hv5 (Below.size hb4)
  have hs5 : V4.heap.size ≤ V5.heap.size := hv5.size
  have hb5 := Below.trans hb4 hv5
  have r_x3_5 := Whole.below H21.out hb5 (Whole.lt H21.out)
  have xC_5 := Whole.below H22.out hb5 (Whole.lt H22.out)
  have x6_5 := Whole.below H24.out hb5 (Whole.lt H24.out)
  have x7_5 := Whole.below H25.out hb5 (Whole.lt H25.out)
  have xT_5 := Whole.below H27.out hb5 (Whole.lt H27.out)
  clear hHeld
  have hHeld : (fun W : World => W.rangeAt w.heap.size 0 (alcl b.free b.seed b.fresh (.slice Amb b.macs.length cmb) (.slice Abb b.boxes.length cbb)) ∧ W.cell? ⟨w.heap.size, 33, none⟩ = some (.int .i64 b.fresh) ∧ W.rangeAt (w.heap.size + 1) 1 (K.map byt) ∧ W.rangeAt u1.heap.size 0 (T.map byt) ∧ W.cell? ⟨(w.heap.size + 1 + 1), 0, none⟩ = some (.int .i64 (a1 : Int)) ∧ W.cell? ⟨(w.heap.size + 1 + 1), 1, none⟩ = some (.int .i64 (b1 : Int))) V5 := HCC.out _ hb5
  refine hKK.out _ _ (.inr hHeld) trivial ?_
  clear hKK KK
  (try simp only [List.getElem_toArray, List.getElem_cons_succ, List.getElem_cons_zero, Act.put, List.setIfInBounds_toArray, List.set_cons_zero, List.set_cons_succ])
  refine AnyG_one (i := 15) (by kernel_rfl) rfl (fun KK hKK => ?_)
  have hsr6 := Bytes.of_own hn5
  refine step_append_bytes (by rfl) _ _ (by rfl) q1.heap.size _ (T ++ enc a1) (by rfl) ho5 _ _ (enc b1) (by rfl) hsr6 (by (try simp only [List.length_append, List.length_nil]); omega) (Below.size hb5) ?_
  intro v6 V6 ho6 hv6
  have hs6 : V5.heap.size ≤ V6.heap.size := hv6.size
  have hb6 := Below.trans hb5 hv6
  have r_x3_6 := Whole.below H21.out hb6 (Whole.lt H21.out)
  have xC_6 := Whole.below H22.out hb6 (Whole.lt H22.out)
  have x6_6 := Whole.below H24.out hb6 (Whole.lt H24.out)
  have x7_6 := Whole.below H25.out hb6 (Whole.lt H25.out)
  have xT_6 := Whole.below H27.out hb6 (Whole.lt H27.out)
  clear hHeld
  have hHeld : (fun W : World => W.rangeAt w.heap.size 0 (alcl b.free b.seed b.fresh (.slice Amb b.macs.length cmb) (.slice Abb b.boxes.length cbb)) ∧ W.cell? ⟨w.heap.size, 33, none⟩ = some (.int .i64 b.fresh) ∧ W.rangeAt (w.heap.size + 1) 1 (K.map byt) ∧ W.rangeAt u1.heap.size 0 (T.map byt) ∧ W.cell? ⟨(w.heap.size + 1 + 1), 0, none⟩ = some (.int .i64 (a1 : Int)) ∧ W.cell? ⟨(w.heap.size + 1 + 1), 1, none⟩ = some (.int .i64 (b1 : Int))) V6 := HCC.out _ hb6
  refine hKK.out _ _ (.inr hHeld) trivial ?_
  clear hKK KK
  (try simp only [List.getElem_toArray, List.getElem_cons_succ, List.getElem_cons_zero, Act.put, List.setIfInBounds_toArray, List.set_cons_zero, List.set_cons_succ])
  refine AnyG_one (i := 16) (by kernel_rfl) rfl (fun KK hKK => ?_)
  (try simp only [List.getElem_toArray, List.getElem_cons_succ, List.getElem_cons_zero])
  have hmb := Bytes.of_own ho6
  rw [← HM2.out] at hmb
  obtain ⟨Bm, dm, rfl, -⟩ := id hmb
  go_simp
  go_at_call 17
  refine (rseal (z := b.fresh) (m := m) (AlV.below H26.out hb6 (Nat.le_refl _)) (by omega) hlK (show i64q b.fresh from ⟨by omega, by omega⟩) hmb (by omega)).mono ?_
  rintro e V7 ⟨hx7, hv7⟩
  have hs7 : V6.heap.size ≤ V7.heap.size := hv7.size
  have hb7 := Below.trans hb6 (Below.mono hv7 (Below.size hb6))
  have r_x3_7 := Whole.below H21.out hb7 (Whole.lt H21.out)
  have xC_7 := Whole.below H22.out hb7 (Whole.lt H22.out)
  have x6_7 := Whole.below H24.out hb7 (Whole.lt H24.out)
  have x7_7 := Whole.below H25.out hb7 (Whole.lt H25.out)
  have xT_7 := Whole.below H27.out hb7 (Whole.lt H27.out)
  rw [← HRE.out] at hx7
  obtain ⟨v7, y7, rfl, hav7, hby7⟩ := hx7
  obtain ⟨Amc, cmc, Abc, cbc, rfl, hM, hBx, hA⟩ := id hav7
  clear hM hBx hA
  obtain ⟨AZ, cZ, rfl, -⟩ := id hby7
  have va_7 : AlV V7 (fun g => (Q g ∧ g < w.heap.size) ∨ (V6.heap.size ≤ g ∧ g < V7.heap.size)) (.agg (alc R.1.free R.1.seed R.1.fresh (.slice Amc R.1.macs.length cmc) (.slice Abc R.1.boxes.length cbc))) R.1 := AlV.mono hav7 fun g hg hq => hq.elim (fun h => .inl h.1) (fun h => .inr ⟨h, hg⟩)
  have vz_7 : Bytes V7 (fun g => V6.heap.size ≤ g ∧ g < V7.heap.size) (.slice AZ R.2.1.length cZ) R.2.1 := Bytes.mono hby7 fun g hg hq => ⟨hq, hg⟩
  clear hHeld
  have hHeld : (fun W : World => W.rangeAt w.heap.size 0 (alcl b.free b.seed b.fresh (.slice Amb b.macs.length cmb) (.slice Abb b.boxes.length cbb)) ∧ W.cell? ⟨w.heap.size, 33, none⟩ = some (.int .i64 b.fresh) ∧ W.rangeAt (w.heap.size + 1) 1 (K.map byt) ∧ W.rangeAt u1.heap.size 0 (T.map byt) ∧ W.cell? ⟨(w.heap.size + 1 + 1), 0, none⟩ = some (.int .i64 (a1 : Int)) ∧ W.cell? ⟨(w.heap.size + 1 + 1), 1, none⟩ = some (.int .i64 (b1 : Int))) V7 := HCC.out _ hb7
  refine hKK.out _ _ (.inr hHeld) trivial ?_
  clear hKK KK
  (try simp only [List.getElem_toArray, List.getElem_cons_succ, List.getElem_cons_zero, Act.put, List.setIfInBounds_toArray, List.set_cons_zero, List.set_cons_succ])
  apply AnyG_pure (i := 17) rfl (by kernel_rfl) (by kernel_rfl) (by kernel_rfl) (by kernel_rfl)
  case hQ => exact fun _ _ _ h => h
  case hB => exact trivial
  case hC => exact .inr hHeld
  case hy => (refine Or.inl ⟨by rfl, ?_⟩; intro w hSw; (try go_split_ands); go_simp; (try with_reducible rfl))
  (try simp only [List.getElem_toArray, List.getElem_cons_succ, List.getElem_cons_zero, Act.put, List.setIfInBounds_toArray, List.set_cons_zero, List.set_cons_succ])
  apply AnyG_pure (i := 18) rfl (by kernel_rfl) (by kernel_rfl) (by kernel_rfl) (by kernel_rfl)
  case hQ => exact fun _ _ _ h => h
  case hB => exact trivial
  case hC => exact .inr hHeld
  case hy => (refine Or.inl ⟨by rfl, ?_⟩; intro w hSw; (try go_split_ands); go_simp; (try with_reducible rfl))
  (try simp only [List.getElem_toArray, List.getElem_cons_succ, List.getElem_cons_zero, Act.put, List.setIfInBounds_toArray, List.set_cons_zero, List.set_cons_succ])
  apply AnyG_pure (i := 19) rfl (by kernel_rfl) (by kernel_rfl) (by kernel_rfl) (by kernel_rfl)
  case hQ => exact fun _ _ _ h => h
  case hB => exact trivial
  case hC => exact .inr hHeld
  case hy => (refine Or.inl ⟨by rfl, ?_⟩; intro w hSw; (try go_split_ands); go_simp; (try with_reducible rfl))
  (try simp only [List.getElem_toArray, List.getElem_cons_succ, List.getElem_cons_zero, Act.put, List.setIfInBounds_toArray, List.set_cons_zero, List.set_cons_succ])
  apply AnyG_pure (i := 20) rfl (by kernel_rfl) (by kernel_rfl) (by kernel_rfl) (by kernel_rfl)
  case hQ => exact fun _ _ _ h => h
  case hB => exact trivial
  case hC => exact .inr hHeld
  case hy => (refine Or.inl ⟨by rfl, ?_⟩; intro w hSw; (try go_split_ands); go_simp; (try with_reducible rfl))
  (try simp only [List.getElem_toArray, List.getElem_cons_succ, List.getElem_cons_zero, Act.put, List.setIfInBounds_toArray, List.set_cons_zero, List.set_cons_succ])
  refine AnyG_one (i := 21) (by kernel_rfl) rfl (fun KK hKK => ?_)
  obtain ⟨V8, hV8⟩ : ∃ x, x = (V7).setRow (w.heap.size) (alc R.1.free R.1.seed R.1.fresh (.slice Amc R.1.macs.length cmc) (.slice Abc R.1.boxes.length cbc)) := ⟨_, rfl⟩
  have xC_8 : Whole V8 ((w.heap.size + 1)) 36 (cnl z K vp).toArray := by rw [hV8]; exact Whole.setRow_far xC_7 (by omega) _
  have x6_8 : Whole V8 ((w.heap.size + 1 + 1 + 1)) 32 zar := by rw [hV8]; exact Whole.setRow_far x6_7 (by omega) _
  have x7_8 : Whole V8 ((w.heap.size + 1 + 1 + 1 + 1)) 41 zbk := by rw [hV8]; exact Whole.setRow_far x7_7 (by omega) _
  have xT_8 : TGRow V8 u1.heap.size T := by rw [hV8]; exact Whole.setRow_far xT_7 (by omega) _
  have va_8 : AlV V8 (fun g => (Q g ∧ g < w.heap.size) ∨ (V6.heap.size ≤ g ∧ g < V7.heap.size)) (.agg (alc R.1.free R.1.seed R.1.fresh (.slice Amc R.1.macs.length cmc) (.slice Abc R.1.boxes.length cbc))) R.1 := by rw [hV8]; exact AlV.keep va_7 (by simp) fun g _ hq => setRow_other _ _ _ _ (by omega)
  have vz_8 : Bytes V8 (fun g => V6.heap.size ≤ g ∧ g < V7.heap.size) (.slice AZ R.2.1.length cZ) R.2.1 := by rw [hV8]; exact Bytes.keep vz_7 fun g _ hq => setRow_other _ _ _ _ (by omega)
  have r_x3_8 : Whole V8 (w.heap.size) 32 (alc R.1.free R.1.seed R.1.fresh (.slice Amc R.1.macs.length cmc) (.slice Abc R.1.boxes.length cbc)) := by rw [hV8]; exact Whole.setRow r_x3_7 _
  have hs8 : V7.heap.size ≤ V8.heap.size := by rw [hV8]; simp
  have hb8 : Below w.heap.size q1 V8 := by rw [hV8]; exact below_setRow (Below.mono hb7 (by omega)) (by omega) _
  rw [if_pos (by kernel_rfl)]
  refine wp_store_row 32 _ _ rfl (w.heap.size) _ rfl rfl 32 _ r_x3_7 (by rw [algSize, alc_size]) (by simp only [alc_size]) (alc_one _ _ _ _ _ _ _ _ _) ?_
  rw [← hV8]
  clear hV8
  refine hKK.out _ _ (.inl (by kernel_rfl)) trivial ?_
  clear hKK KK
  (try simp only [List.getElem_toArray, List.getElem_cons_succ, List.getElem_cons_zero, Act.put, List.setIfInBounds_toArray, List.set_cons_zero, List.set_cons_succ])
  apply AnyG_pure (i := 22) rfl (by kernel_rfl) (by kernel_rfl) (by kernel_rfl) (by kernel_rfl)
  case hQ => exact fun _ _ _ h => h
  case hB => exact trivial
  case hC => exact .inl (by kernel_rfl)
  case hy => (refine Or.inl ⟨by rfl, ?_⟩; intro w hSw; (try go_split_ands); go_simp; (try with_reducible rfl))
  (try simp only [List.getElem_toArray, List.getElem_cons_succ, List.getElem_cons_zero, Act.put, List.setIfInBounds_toArray, List.set_cons_zero, List.set_cons_succ])
  apply AnyG_pure (i := 23) rfl (by kernel_rfl) (by kernel_rfl) (by kernel_rfl) (by kernel_rfl)
  case hQ => exact fun _ _ _ h => h
  case hB => exact trivial
  case hC => exact .inl (by kernel_rfl)
  case hy => (refine Or.inl ⟨by rfl, ?_⟩; intro w hSw; (try go_split_ands); go_simp; (try with_reducible rfl))
  (try simp only [List.getElem_toArray, List.getElem_cons_succ, List.getElem_cons_zero, Act.put, List.setIfInBounds_toArray, List.set_cons_zero, List.set_cons_succ])
  refine AnyG_done (by kernel_rfl) ?_ _
  clear HCC hHeld
  have hbase := Below.trans H20.out hb8
  skip
  clear H20 H21 H22 H23 H24 H25 H26 H27
  have H28 : Hid (Below w.heap.size w V8) := Lib.hid (hbase)
  have H29 : Hid (Whole V8 (w.heap.size + 1) 36 (cnl z K vp).toArray) := Lib.hid (xC_8)
  have H30 : Hid (Whole V8 (w.heap.size + 1 + 1 + 1) 32 zar) := Lib.hid (x6_8)
  have H31 : Hid (Whole V8 (w.heap.size + 1 + 1 + 1 + 1) 41 zbk) := Lib.hid (x7_8)
  have HR9 := Lib.hid r_x3_8
  have HR10 := Lib.hid xT_8
  have HVA := Lib.hid (AlV.mono (Q' := fun g => (Q g ∧ g < w.heap.size) ∨ u1.heap.size < g) va_8 fun g hg hq => hq.elim .inl fun h => .inr (by omega))
  have HVZ := Lib.hid (Bytes.mono (Q' := fun g => u1.heap.size < g) vz_8 fun g hg hq => by omega)
  have hswc : u1.heap.size < V8.heap.size := HR10.out.lt
  obtain ⟨c, Z, eb⟩ := R
  dsimp only at HR2 HR9 HVA HVZ ⊢
  clear HRE HMM HM2
  by_cases he : eb = 0
  case neg =>
    have HRR : Hid (R0 = (zalg, zblk, eb)) := Lib.hid (by rw [HR2.out, if_pos he])
    have hne : (eb != 0) = true := by simpa using he
    clear he
    go_wp2_with (first
      | (with_reducible refine wpList_store_alg rfl _ _ rfl (g := (w.heap.size + 1 + 1 + 1)) rfl rfl H30.out zar_size rfl (by with_unfolding_all rfl) ?_)
      | (with_reducible refine wpList_store_blk rfl _ _ rfl (g := (w.heap.size + 1 + 1 + 1 + 1)) rfl rfl (Whole.setRow_far H31.out (by omega) _) zbk_size rfl (by with_unfolding_all rfl) ?_))
    rw [zar_lit, zbk_lit]
    have e1 := Whole.setRow_far (Whole.setRow H30.out zar) (g' := (w.heap.size + 1 + 1 + 1 + 1)) (by omega) zbk
    have e2 := Whole.setRow (Whole.setRow_far H31.out (g' := (w.heap.size + 1 + 1 + 1)) (by omega) zar) zbk
    refine bodyPost_ret (results_blk3 Tryd.results10 _ rfl rfl _ rfl zar_size zbk_size e1 e2) rfl ?_
    rw [HRR.out]
    exact ⟨⟨_, _, rfl, alv_zero _ _, bkv_zero _ _⟩, below_setRow (below_setRow H28.out (by omega) _) (by omega) _⟩
  subst he
  have HRR : Hid (R0 = (c, ⟨z, T, Z⟩, 0)) := Lib.hid (by rw [HR2.out, if_neg (by simp)])
  have hsz : (Tryd.prog.info? 32).map (·.size) = some (alcl c.free c.seed c.fresh (.slice Amc c.macs.length cmc) (.slice Abc c.boxes.length cbc)).length := by rw [alcl_length]; exact algSize
  have hst : (Tryd.prog.info? 28).map (·.size) = some (T.map byt).length := by rw [List.length_map, hlT]; exact tagSize
  have h6d : Whole V8.drew (w.heap.size + 1 + 1 + 1) 32 zar := Whole.drew H30.out
  have h7d : Whole V8.drew (w.heap.size + 1 + 1 + 1 + 1) 41 zbk := Whole.drew H31.out
  have bbd : Below w.heap.size w V8.drew := Below.drew H28.out
  have i0d : V8.drew.rangeAt w.heap.size 0 (alcl c.free c.seed c.fresh (.slice Amc c.macs.length cmc) (.slice Abc c.boxes.length cbc)) := (Whole.range (Whole.drew HR9.out))
  have i1d : V8.drew.cell? ⟨(w.heap.size + 1), 0, none⟩ = some (.int .i64 z) := cnl_num (Whole.drew H29.out)
  have i2d : V8.drew.rangeAt u1.heap.size 0 (T.map byt) := (TGRow.range (Whole.drew HR10.out))
  have kvd : AlV V8.drew (fun g => (Q g ∧ g < w.heap.size) ∨ u1.heap.size < g) (.agg (alc c.free c.seed c.fresh (.slice Amc c.macs.length cmc) (.slice Abc c.boxes.length cbc))) c := AlV.below HVA.out (Below.drew (Below.refl _ _)) (Nat.le_refl _)
  have kzd : Bytes V8.drew (fun g => u1.heap.size < g) (.slice AZ Z.length cZ) Z := Bytes.below HVZ.out (Below.drew (Below.refl _ _)) (Nat.le_refl _)
  go_upto_region 9 with fail
  refine wp_region_held_drew (S := fun W => W.rangeAt w.heap.size 0 (alcl c.free c.seed c.fresh (.slice Amc c.macs.length cmc) (.slice Abc c.boxes.length cbc)) ∧ W.cell? ⟨(w.heap.size + 1), 0, none⟩ = some (.int .i64 z) ∧ W.rangeAt u1.heap.size 0 (T.map byt)) (by kernel_rfl) (⟨i0d, i1d, i2d⟩) (fun hHeld => ?_)
  apply wpAnyH_take (i := 0) rfl (by kernel_rfl) (by kernel_rfl) (by kernel_rfl)
  case hQ => exact fun _ _ _ h => h
  case hS => exact hHeld
  case hy => exact yieldsIf_load_mid (by rfl) 32 _ rfl w.heap.size 0 rfl (alcl c.free c.seed c.fresh (.slice Amc c.macs.length cmc) (.slice Abc c.boxes.length cbc)) _ (fun w hS => hS.1) Tryd.underlying32 rfl hsz
  (try simp only [List.getElem_toArray, List.getElem_cons_zero, Act.put, List.setIfInBounds_toArray, List.set_cons_zero, List.set_cons_succ])
  apply wpAnyH_take (i := 1) rfl (by kernel_rfl) (by kernel_rfl) (by kernel_rfl)
  case hQ => exact fun _ _ _ h => h
  case hS => exact hHeld
  case hy => (refine Or.inl ⟨by rfl, ?_⟩; intro w hSw; (try go_split_ands); go_simp; (try with_reducible rfl))
  (try simp only [List.getElem_toArray, List.getElem_cons_succ, List.getElem_cons_zero, Act.put, List.setIfInBounds_toArray, List.set_cons_zero, List.set_cons_succ])
  apply wpAnyH_take (i := 2) rfl (by kernel_rfl) (by kernel_rfl) (by kernel_rfl)
  case hQ => exact fun _ _ _ h => h
  case hS => exact hHeld
  case hy => (refine Or.inl ⟨by rfl, ?_⟩; intro w hSw; (try go_split_ands); go_simp; (try with_reducible rfl))
  (try simp only [List.getElem_toArray, List.getElem_cons_succ, List.getElem_cons_zero, Act.put, List.setIfInBounds_toArray, List.set_cons_zero, List.set_cons_succ])
  apply wpAnyH_take (i := 3) rfl (by kernel_rfl) (by kernel_rfl) (by kernel_rfl)
  case hQ => exact fun _ _ _ h => h
  case hS => exact hHeld
  case hy => exact yieldsIf_load_mid (by rfl) 28 _ rfl u1.heap.size 0 rfl (T.map byt) _ (fun w hS => hS.2.2) Tryd.underlying28 rfl hst
  (try simp only [List.getElem_toArray, List.getElem_cons_succ, List.getElem_cons_zero, Act.put, List.setIfInBounds_toArray, List.set_cons_zero, List.set_cons_succ])
  apply wpAnyH_take (i := 4) rfl (by kernel_rfl) (by kernel_rfl) (by kernel_rfl)
  case hQ => exact fun _ _ _ h => h
  case hS => exact hHeld
  case hy => (refine Or.inl ⟨by rfl, ?_⟩; intro w hSw; (try go_split_ands); go_simp; (try with_reducible rfl))
  (try simp only [List.getElem_toArray, List.getElem_cons_succ, List.getElem_cons_zero, Act.put, List.setIfInBounds_toArray, List.set_cons_zero, List.set_cons_succ])
  apply wpAnyH_take (i := 5) rfl (by kernel_rfl) (by kernel_rfl) (by kernel_rfl)
  case hQ => exact fun _ _ _ h => h
  case hS => exact hHeld
  case hy => exact yieldsIf_build_blk (by rfl) _ _ _ rfl hlT rfl rfl rfl
  (try simp only [List.getElem_toArray, List.getElem_cons_succ, List.getElem_cons_zero, Act.put, List.setIfInBounds_toArray, List.set_cons_zero, List.set_cons_succ])
  refine wpAnyH_ready (rs := [6]) (by kernel_rfl) (by simp) ?_
  refine AllReadyH.cons rfl (fun KK hKK => ?_) AllReadyH.nil
  obtain ⟨X1, hX1⟩ : ∃ x, x = V8.drew.setRow (w.heap.size + 1 + 1 + 1) (alcl c.free c.seed c.fresh (.slice Amc c.macs.length cmc) (.slice Abc c.boxes.length cbc)).toArray := ⟨_, rfl⟩
  have e1 : Whole X1 (w.heap.size + 1 + 1 + 1) 32 (alcl c.free c.seed c.fresh (.slice Amc c.macs.length cmc) (.slice Abc c.boxes.length cbc)).toArray := by rw [hX1]; exact Whole.setRow h6d _
  have h7X1 : Whole X1 (w.heap.size + 1 + 1 + 1 + 1) 41 zbk := by rw [hX1]; exact Whole.setRow_far h7d (by omega) _
  have bbX1 : Below w.heap.size w X1 := by rw [hX1]; exact below_setRow bbd (by omega) _
  have i0X1 : X1.rangeAt w.heap.size 0 (alcl c.free c.seed c.fresh (.slice Amc c.macs.length cmc) (.slice Abc c.boxes.length cbc)) := by rw [hX1]; exact (fun i v hv => (cell_setRow_other _ _ _ _ (by show w.heap.size ≠ (w.heap.size + 1 + 1 + 1); omega)).trans (i0d i v hv))
  have i1X1 : X1.cell? ⟨(w.heap.size + 1), 0, none⟩ = some (.int .i64 z) := by rw [hX1]; exact (cell_setRow_other _ _ _ _ (by show (w.heap.size + 1) ≠ (w.heap.size + 1 + 1 + 1); omega)).trans i1d
  have i2X1 : X1.rangeAt u1.heap.size 0 (T.map byt) := by rw [hX1]; exact (fun i v hv => (cell_setRow_other _ _ _ _ (by show u1.heap.size ≠ (w.heap.size + 1 + 1 + 1); omega)).trans (i2d i v hv))
  have kvX1 : AlV X1 (fun g => (Q g ∧ g < w.heap.size) ∨ u1.heap.size < g) (.agg (alc c.free c.seed c.fresh (.slice Amc c.macs.length cmc) (.slice Abc c.boxes.length cbc))) c := by rw [hX1]; exact AlV.keep kvd (by simp) fun g _ hq => setRow_other _ _ _ _ (by omega)
  have kzX1 : Bytes X1 (fun g => u1.heap.size < g) (.slice AZ Z.length cZ) Z := by rw [hX1]; exact Bytes.keep kzd fun g _ hq => setRow_other _ _ _ _ (by omega)
  rw [if_pos (by kernel_rfl)]
  refine wp_store_row 32 _ _ rfl (w.heap.size + 1 + 1 + 1) _ rfl rfl 32 _ h6d (by rw [algSize, List.size_toArray, alcl_length]) (by rw [zar_size, List.size_toArray, alcl_length]) (alc_one _ _ _ _ _ _ _ _ _) ?_
  rw [← hX1]
  clear hX1
  refine hKK.out _ _ (⟨i0X1, i1X1, i2X1⟩) (fun hHeld => ?_)
  clear hKK KK
  (try simp only [List.getElem_toArray, List.getElem_cons_succ, List.getElem_cons_zero, Act.put, List.setIfInBounds_toArray, List.set_cons_zero, List.set_cons_succ])
  refine wpAnyH_ready (rs := [7]) (by kernel_rfl) (by simp) ?_
  refine AllReadyH.cons rfl (fun KK hKK => ?_) AllReadyH.nil
  obtain ⟨X2, hX2⟩ : ∃ x, x = X1.setRow (w.heap.size + 1 + 1 + 1 + 1) (cnl z T (.slice AZ Z.length cZ)).toArray := ⟨_, rfl⟩
  have e1b : Whole X2 (w.heap.size + 1 + 1 + 1) 32 (alcl c.free c.seed c.fresh (.slice Amc c.macs.length cmc) (.slice Abc c.boxes.length cbc)).toArray := by rw [hX2]; exact Whole.setRow_far e1 (by omega) _
  have e2 : Whole X2 (w.heap.size + 1 + 1 + 1 + 1) 41 (cnl z T (.slice AZ Z.length cZ)).toArray := by rw [hX2]; exact Whole.setRow h7X1 _
  have bbX2 : Below w.heap.size w X2 := by rw [hX2]; exact below_setRow bbX1 (by omega) _
  have i0X2 : X2.rangeAt w.heap.size 0 (alcl c.free c.seed c.fresh (.slice Amc c.macs.length cmc) (.slice Abc c.boxes.length cbc)) := by rw [hX2]; exact (fun i v hv => (cell_setRow_other _ _ _ _ (by show w.heap.size ≠ (w.heap.size + 1 + 1 + 1 + 1); omega)).trans (i0X1 i v hv))
  have i1X2 : X2.cell? ⟨(w.heap.size + 1), 0, none⟩ = some (.int .i64 z) := by rw [hX2]; exact (cell_setRow_other _ _ _ _ (by show (w.heap.size + 1) ≠ (w.heap.size + 1 + 1 + 1 + 1); omega)).trans i1X1
  have i2X2 : X2.rangeAt u1.heap.size 0 (T.map byt) := by rw [hX2]; exact (fun i v hv => (cell_setRow_other _ _ _ _ (by show u1.heap.size ≠ (w.heap.size + 1 + 1 + 1 + 1); omega)).trans (i2X1 i v hv))
  have kvX2 : AlV X2 (fun g => (Q g ∧ g < w.heap.size) ∨ u1.heap.size < g) (.agg (alc c.free c.seed c.fresh (.slice Amc c.macs.length cmc) (.slice Abc c.boxes.length cbc))) c := by rw [hX2]; exact AlV.keep kvX1 (by simp) fun g _ hq => setRow_other _ _ _ _ (by omega)
  have kzX2 : Bytes X2 (fun g => u1.heap.size < g) (.slice AZ Z.length cZ) Z := by rw [hX2]; exact Bytes.keep kzX1 fun g _ hq => setRow_other _ _ _ _ (by omega)
  rw [if_pos (by kernel_rfl)]
  refine wp_store_row 41 _ _ rfl (w.heap.size + 1 + 1 + 1 + 1) _ rfl rfl 41 _ h7X1 (by rw [blankSize, cnl_size]) (by rw [zbk_size, cnl_size]) (cnl_one _ _ _ _ _) ?_
  rw [← hX2]
  clear hX2
  refine hKK.out _ _ (⟨i0X2, i1X2, i2X2⟩) (fun hHeld => ?_)
  clear hKK KK
  (try simp only [List.getElem_toArray, List.getElem_cons_succ, List.getElem_cons_zero, Act.put, List.setIfInBounds_toArray, List.set_cons_zero, List.set_cons_succ])
  apply wpAnyH_take (i := 8) rfl (by kernel_rfl) (by kernel_rfl) (by kernel_rfl)
  case hQ => exact fun _ _ _ h => h
  case hS => exact hHeld
  case hy => (refine Or.inl ⟨by rfl, ?_⟩; intro w hSw; (try go_split_ands); go_simp; (try with_reducible rfl))
  (try simp only [List.getElem_toArray, List.getElem_cons_succ, List.getElem_cons_zero, Act.put, List.setIfInBounds_toArray, List.set_cons_zero, List.set_cons_succ])
  refine wpAnyH_done (by kernel_rfl) ?_ _
  go_wp2_with fail
  refine bodyPost_ret (results_blk3 Tryd.results10 _ rfl rfl _ rfl (by rw [List.size_toArray, alcl_length]) (by rw [cnl_size]) e1b e2) rfl ?_
  rw [HRR.out]
  exact ⟨⟨_, _, rfl, AlV.mono kvX2 fun g _ hq => by rcases hq with hq | hq; exact .inl hq.1; exact .inr (by omega), AZ, cZ, rfl, Bytes.mono kzX2 fun g _ hq => by omega, hlT⟩, bbX2⟩
end Go.Proofs.YteekdhcffiaaaaaDoor
namespace Go.Proofs.YteekdhcffiaaaaaDoor
open Go Go.RowKit Sh Leaf

theorem Whole.cell_at {w : World} {g : Nat} {e : TypeId} {cs : Array Value} {j : Nat} {v : Value} (h : Whole w g e cs) (hv : cs[j]? = some v) : w.cell? ⟨g, j, none⟩ = some v := by rw [Whole.cell h]; exact hv
theorem own_below2p {e : TypeId} {n base : Nat} {w w' : World} {v : Value} {l : List Psn} (h : OwnS pnl n e w base v l) (hb : Below w.heap.size w w') : OwnS pnl n e w' base v l := by
  refine ⟨h.1, ?_⟩
  rcases h.2 with h2 | ⟨b, cap, cur, hv, hbb, hh, r⟩
  · exact .inl h2
  · exact .inr ⟨b, cap, cur, hv, hbb, (hb.block b (Whole.lt hh)).trans hh, r⟩
abbrev nms : Array Value := #[.string { data := #[97, 110, 110] }, .string { data := #[98, 111, 98] }, .string { data := #[99, 105, 100] }, .string { data := #[122, 111, 101] }, .string { data := #[97] }]
theorem nms_at (j : Nat) (h : j < 5) : ∃ s : List B8, nms[j]? = some (.string (sof s)) ∧ nmok s := by
  rcases (by omega : j = 0 ∨ j = 1 ∨ j = 2 ∨ j = 3 ∨ j = 4) with rfl | rfl | rfl | rfl | rfl
  · exact ⟨[97, 110, 110], by unfold sof; rfl, by decide⟩
  · exact ⟨[98, 111, 98], by unfold sof; rfl, by decide⟩
  · exact ⟨[99, 105, 100], by unfold sof; rfl, by decide⟩
  · exact ⟨[122, 111, 101], by unfold sof; rfl, by decide⟩
  · exact ⟨[97], by unfold sof; rfl, by decide⟩
set_option linter.unusedSimpArgs false in
set_option linter.unusedVariables false in
set_option maxRecDepth 100000 in
set_option maxHeartbeats 2000000 in
theorem dpersl (g : Nat) (w : World) (h : Deck g w) :
    Calls Tryd.prog 26 #[.pointer (some ⟨g, 0, none⟩)] w fun e w' => (∃ (A : Option Addr) (c : Nat) (l : List Psn), e = .returned (.slice A l.length c) ∧ l.length ≤ 5 ∧ Psns w' (fun b => w.heap.size ≤ b) A c l) ∧ Turn g w w' := by
  have hgw := h.lt
  obtain ⟨p, hp⟩ : ∃ p, p = w.alloc (.cells nms 9) := ⟨_, rfl⟩
  have hnm : Whole p w.heap.size 9 nms := by rw [hp]; exact Whole.here _ _ _
  have hbp : Below w.heap.size w p := by rw [hp]; exact (Below.refl _ _).alloc (Nat.le_refl _) _
  have htp : Turn g w p := h.here hbp
  have hps := hnm.lt
  go_enter Tryd.func26, Tryd.ntmps26
  go_upto_region 3 with fail
  rw [← hp]
  clear hp
  go_wp2_with fail
  go_loopw [3, 5] (fun vl vi wr => ∃ (j : Nat) (l : List Psn), vi = .int .i64 j ∧ j ≤ 5 ∧ l.length = j ∧ (∀ x ∈ l, pnok x) ∧ OwnS pnl 2 92 wr (w.heap.size + 1) vl l ∧ Turn g w wr ∧ Whole wr w.heap.size 9 nms) (fun _ v _ => 5 - (intOf v).toNat)
  case atStart => exact ⟨0, [], rfl, by omega, rfl, (fun x hx => by cases hx), owns_nil _ _, htp, hnm⟩
  case round =>
    obtain ⟨j, l, rfl, hj, hl, hlp, hown, ht, hn⟩ := hrel
    have HLP := Lib.hid hlp
    clear hlp
    have hsz := ht.2.1.size
    clear hbp htp hnm hps
    by_cases hj5 : j < 5
    · have hj5' : (j : Int) < 5 := by omega
      have hjw : IntKind.i64.wrap ((j : Int) + 1) = ((j + 1 : Nat) : Int) := by rw [IntKind.wrap_i64]; omega
      have HO := Lib.hid hown
      have HN := Lib.hid hn
      have HT := Lib.hid ht
      clear hown hn
      go_wp2_with fail
      refine (dnext 5 (by omega) (by omega) g _ HT.out.1).mono ?_
      rintro e w2 ⟨i, hi, rfl, ht2⟩
      have ho2 := own_oth HO.out ht2.2.2 (by omega)
      have hn2 := ht2.2.2.oth _ _ _ (by omega) HN.out
      have h2 := HT.out.trans ht2
      have hs2 := ht2.2.1.size
      by_cases hji : j < 1 + i
      · have hji' : (j : Int) < 1 + (i : Int) := by omega
        have hwi : IntKind.i64.wrap (1 + (i : Int)) = 1 + (i : Int) := by rw [IntKind.wrap_i64]; omega
        go_upto_region 6 with fail
        obtain ⟨s, hjs, hsn⟩ := nms_at j hj5
        have hdd : Below w2.heap.size w2 w2.drew := (Below.refl _ _).drew
        have hl2 := Whole.lt hn2
        have hnd := Whole.below hn2 hdd hl2
        have hcd := Whole.cell_at hnd hjs
        have htd : Turn g w w2.drew := Turn.below h2 hdd (by omega) (by omega)
        have hod := own_below2p ho2 hdd
        have hsd := hdd.size
        clear hn2 ho2 ht2 h2 HO HN HT hdd
        refine wp_region_held_drew (S := fun W : World => W.cell? ⟨w.heap.size, j, none⟩ = some (.string (sof s))) (by kernel_rfl) (hcd) (fun hHeld => ?_)
        generalize w2.drew = W0 at *
        apply wpT (i := 0) rfl (by kernel_rfl)
        case hQ => exact fun _ _ _ h => h
        case hS => exact hHeld
        case hy => (refine Or.inl ⟨by rfl, ?_⟩; intro w hSw; (try go_split_ands); go_simp; (try with_reducible rfl))
        (try simp only [sq])
        apply wpT (i := 1) rfl (by kernel_rfl)
        case hQ => exact fun _ _ _ h => h
        case hS => exact hHeld
        case hy => (refine Or.inl ⟨by rfl, ?_⟩; intro w hSw; (try go_split_ands); go_simp; (try with_reducible rfl))
        (try simp only [sq])
        apply wpT (i := 2) rfl (by kernel_rfl)
        case hQ => exact fun _ _ _ h => h
        case hS => exact hHeld
        case hy => (refine Or.inl ⟨by rfl, ?_⟩; intro w hSw; (try go_split_ands); go_simp; (try with_reducible rfl))
        (try simp only [sq])
        apply wpT (i := 3) rfl (by kernel_rfl)
        case hQ => exact fun _ _ _ h => h
        case hS => exact hHeld
        case hy => (refine Or.inl ⟨by rfl, ?_⟩; intro w hSw; (try go_split_ands); go_simp; (try with_reducible rfl))
        (try simp only [sq])
        apply wpT (i := 4) rfl (by kernel_rfl)
        case hQ => exact fun _ _ _ h => h
        case hS => exact hHeld
        case hy => (refine Or.inl ⟨by rfl, ?_⟩; intro w hSw; (try go_split_ands); go_simp; (try with_reducible rfl))
        (try simp only [sq])
        apply wpT (i := 5) rfl (by kernel_rfl)
        case hQ => exact fun _ _ _ h => h
        case hS => exact hHeld
        case hy => (refine Or.inl ⟨by rfl, ?_⟩; intro w hSw; (try go_split_ands); go_simp; (try with_reducible rfl))
        (try simp only [sq])
        refine wpAnyH_ready (rs := [6]) (by kernel_rfl) (by simp) ?_
        refine AllReadyH.cons rfl (fun KK hKK => ?_) AllReadyH.nil
        (try simp only [sq])
        go_simp
        go_at_call 15
        refine (dnext 100 (by omega) (by omega) g _ htd.1).mono ?_
        rintro e w3 ⟨q, hq, rfl, ht3⟩
        have h3 := htd.trans ht3
        have ho3 := own_oth hod ht3.2.2 (by omega)
        have hn3 := ht3.2.2.oth _ _ _ (by omega) hnd
        have hl3 := Whole.lt hn3
        have hw7 : IntKind.i64.wrap (-(q : Int)) = -(q : Int) := by rw [IntKind.wrap_i64]; omega
        have hw8 : IntKind.i64.wrap (-(q : Int) * 365) = -(q : Int) * 365 := by rw [IntKind.wrap_i64]; omega
        have hw9 : IntKind.i64.wrap (-(q : Int) * 365 * 1440) = -(q : Int) * 365 * 1440 := by rw [IntKind.wrap_i64]; omega
        have hs3 := h3.2.1.size
        have hpk : pnok ⟨s, -(q : Int) * 365 * 1440⟩ := ⟨hsn, by show -67108864 ≤ -(q : Int) * 365 * 1440; omega, by show -(q : Int) * 365 * 1440 ≤ 0; omega⟩
        have hc3 := (Whole.cell_at hn3 hjs)
        refine hKK.out _ _ (hc3) (fun hHeld => ?_)
        clear hKK KK
        (try simp only [sq])
        apply wpT (i := 7) rfl (by kernel_rfl)
        case hQ => exact fun _ _ _ h => h
        case hS => exact hHeld
        case hy => (refine Or.inl ⟨by rfl, ?_⟩; intro w hSw; (try go_split_ands); go_simp; (try with_reducible rfl))
        (try simp only [sq])
        apply wpT (i := 8) rfl (by kernel_rfl)
        case hQ => exact fun _ _ _ h => h
        case hS => exact hHeld
        case hy => (refine Or.inl ⟨by rfl, ?_⟩; intro w hSw; (try go_split_ands); go_simp; (try with_reducible rfl))
        (try simp only [sq])
        apply wpT (i := 9) rfl (by kernel_rfl)
        case hQ => exact fun _ _ _ h => h
        case hS => exact hHeld
        case hy => (refine Or.inl ⟨by rfl, ?_⟩; intro w hSw; (try go_split_ands); go_simp; (try with_reducible rfl))
        (try simp only [sq])
        apply wpT (i := 10) rfl (by kernel_rfl)
        case hQ => exact fun _ _ _ h => h
        case hS => exact hHeld
        case hy => exact yieldsIf_build_psn (by rfl) _ _ rfl rfl rfl
        (try simp only [sq])
        refine wpAnyH_ready (rs := [11]) (by kernel_rfl) (by simp) ?_
        refine AllReadyH.cons rfl (fun KK hKK => ?_) AllReadyH.nil
        refine step_buildSlice_psn (by rfl) _ (by rfl) (X := ⟨s, -(q : Int) * 365 * 1440⟩) (by rfl) ?_
        obtain ⟨w4, hw4⟩ : ∃ x, x = w3.alloc (.cells (pnl ⟨s, -(q : Int) * 365 * 1440⟩).toArray 92) := ⟨_, rfl⟩
        have hb4 : Below w3.heap.size w3 w4 := by rw [hw4]; exact (Below.refl _ _).alloc (Nat.le_refl _) _
        have hone : Whole w4 w3.heap.size 92 (pnl ⟨s, -(q : Int) * 365 * 1440⟩).toArray := by rw [hw4]; exact Whole.here _ _ _
        have ho4 := own_below2p ho3 hb4
        have hn4 := Whole.below hn3 hb4 (Whole.lt hn3)
        rw [← hw4]
        clear hw4
        have hs4 := hb4.size
        refine hKK.out _ _ ((Whole.cell_at hn4 hjs)) (fun hHeld => ?_)
        clear hKK KK
        (try simp only [sq])
        refine wpAnyH_ready (rs := [12]) (by kernel_rfl) (by simp) ?_
        refine AllReadyH.cons rfl (fun KK hKK => ?_) AllReadyH.nil
        refine step_append_seq (ok := pnok) (by rfl) _ _ 34 92 zpsn 24 (by rfl) Tryd.underlying34 psnInfo zpsn_size (by omega) (by omega) pnl_len pnl_one (w.heap.size + 1) _ l (by rfl) ho4 _ (some ⟨w3.heap.size, 0, none⟩) 1 1 [⟨s, -(q : Int) * 365 * 1440⟩] rfl (by rfl) (seq_one hone rfl hpk) (by simp; omega) (by omega) ?_
        intro v5 w5 ho5 hb5 _
        have hn5 := Whole.below hn4 hb5 (by omega)
        have ht5 := Turn.below h3 (Below.trans (Below.mono hb4 (by omega)) hb5) (by omega) (by omega)
        refine hKK.out _ _ ((Whole.cell_at hn5 hjs)) (fun hHeld => ?_)
        clear hKK KK
        (try simp only [sq])
        refine wpAnyH_ready (rs := [13]) (by kernel_rfl) (by simp) ?_
        refine AllReadyH.cons rfl (fun KK hKK => ?_) AllReadyH.nil
        (try simp only [sq])
        go_simp
        refine hKK.out _ _ ((Whole.cell_at hn5 hjs)) (fun hHeld => ?_)
        clear hKK KK
        (try simp only [sq])
        refine wpAnyH_done (by kernel_rfl) ?_ _
        go_wp2_with fail
        go_roundw
        case rel => exact ⟨j + 1, l ++ [⟨s, -(q : Int) * 365 * 1440⟩], by go_num, by omega, by simp; omega, (fun x hx => by rcases List.mem_append.1 hx with h | h; exact HLP.out x h; rw [List.mem_singleton.1 h]; exact hpk), ho5, ht5, hn5⟩
        case measure => simp [intOf]; omega
      · have hji' : ¬ (j : Int) < 1 + (i : Int) := by omega
        have hwi : IntKind.i64.wrap (1 + (i : Int)) = 1 + (i : Int) := by rw [IntKind.wrap_i64]; omega
        obtain ⟨A, c, rfl, hsq⟩ := OwnS.seq (ok := pnok) ho2 HLP.out
        have hll : l.length ≤ 5 := by omega
        have HFS := Lib.hid hsq
        clear hsq
        have HT2 := Lib.hid h2
        clear ho2 hn2 ht2 h2 HO HN HT
        go_wp2_with fail
        go_ret
        exact ⟨⟨_, _, _, (by rw [hl]; rfl), hll, Seq.mono HFS.out fun b _ h => Nat.le_of_succ_le h⟩, HT2.out⟩
    · have hj5' : ¬ (j : Int) < 5 := by omega
      obtain ⟨A, c, rfl, hsq⟩ := OwnS.seq (ok := pnok) hown HLP.out
      have hll : l.length ≤ 5 := by omega
      have HFS := Lib.hid hsq
      clear hsq
      have HT := Lib.hid ht
      clear hown hn ht
      go_wp2_with fail
      go_ret
      exact ⟨⟨_, _, _, (by rw [hl]; rfl), hll, Seq.mono HFS.out fun b _ h => Nat.le_of_succ_le h⟩, HT.out⟩
end Go.Proofs.YteekdhcffiaaaaaDoor
namespace Go.Proofs.YteekdhcffiaaaaaDoor
open Go Go.RowKit Sh Leaf

set_option maxRecDepth 100000 in
theorem built_con {T : List B8} (z : Int) (A : Option Addr) (n c : Nat) (hT : T.length = 32) : Tryd.prog.built 36 [(0, .int .i64 z), (1, .agg (T.map byt).toArray), (2, .slice A n c)] = some (cnl z T (.slice A n c)).toArray := by
  unfold cnl
  rw [p32_eq hT]
  obtain ⟨a0, a1, a2, a3, a4, a5, a6, a7, a8, a9, a10, a11, a12, a13, a14, a15, a16, a17, a18, a19, a20, a21, a22, a23, a24, a25, a26, a27, a28, a29, a30, a31, rfl⟩ := ex32 T hT
  simp only [List.map_cons, List.map_nil, List.cons_append, List.nil_append]
  kernel_rfl
theorem yieldsIf_build_con {ops : Array Oper} {S : World → Prop} {op : Oper} {a : Act} (hw : Region.wanted op (yielded ops a.tmps) = true) (x y z : Operand) (ho : op.op = .build 36 #[(0, x), (1, y), (2, z)])
    {n : Int} {T : List B8} {A : Option Addr} {l c : Nat} (hT : T.length = 32) (hx : a.eval x = .int .i64 n) (hy : a.eval y = .agg (T.map byt).toArray) (hz : a.eval z = .slice A l c) : YieldsIf Tryd.prog ops S op (.agg (cnl n T (.slice A l c)).toArray) a := by
  refine yieldsIf_build_as hw 36 _ ho _ ?_
  have e1 : (#[(0, x), (1, y), (2, z)].map fun (i, x) => (i, a.eval x)).toList = [(0, .int .i64 n), (1, .agg (T.map byt).toArray), (2, .slice A l c)] := by simp [hx, hy, hz]
  rw [e1, built_con n A l c hT]
set_option linter.unusedSimpArgs false in
set_option linter.unusedVariables false in
set_option maxRecDepth 100000 in
set_option maxHeartbeats 4000000 in
theorem dconl {K : List B8} (hK : K.length = 32) (g : Nat) (w : World) (h : Deck g w) :
    Calls Tryd.prog 7 #[.pointer (some ⟨g, 0, none⟩), .agg (K.map byt).toArray] w fun e w' => (∃ (z : Int) (A : Option Addr) (c : Nat) (l : List Psn), 0 ≤ z ∧ z ≤ 7 ∧ e = .returned (.agg (cnl z K (.slice A l.length c)).toArray) ∧ l.length ≤ 5 ∧ Psns w' (fun b => w.heap.size ≤ b) A c l) ∧ Turn g w w' := by
  have hgw := h.lt
  obtain ⟨p, hp⟩ : ∃ p, p = (w.alloc (.cells (K.map byt).toArray 28)).alloc (.cells zbk 36) := ⟨_, rfl⟩
  have hk : TGRow p w.heap.size K := by rw [hp]; exact (Whole.here _ _ _).alloc _
  have hz : Whole p (w.heap.size + 1) 36 zbk := by rw [hp]; exact Whole.at_ _ _ _ _ (by simp)
  have hbp : Below w.heap.size w p := by rw [hp]; exact ((Below.refl _ _).alloc (Nat.le_refl _) _).alloc (by simp) _
  have htp : Turn g w p := h.here hbp
  have hps := hz.lt
  have hdd : Below p.heap.size p p.drew := (Below.refl _ _).drew
  have hkd : TGRow p.drew w.heap.size K := Whole.below hk hdd hk.lt
  have hzd := Whole.below hz hdd hps
  have htd : Turn g w p.drew := Turn.below htp hdd (by omega) (by omega)
  have hst : (Tryd.prog.info? 28).map (·.size) = some (K.map byt).length := by rw [List.length_map, hK]; exact tagSize
  go_enter Tryd.func7, Tryd.ntmps7
  go_upto_region 1 with fail
  rw [zbk_lit, ← hp]
  clear hp hk hz hbp htp hdd
  refine wp_region_held_drew (S := fun W : World => W.rangeAt w.heap.size 0 (K.map byt)) (by kernel_rfl) (TGRow.range hkd) (fun hHeld => ?_)
  generalize p.drew = W0 at *
  apply wpT (i := 0) rfl (by kernel_rfl)
  case hQ => exact fun _ _ _ h => h
  case hS => exact hHeld
  case hy => (refine Or.inl ⟨by rfl, ?_⟩; intro w hSw; (try go_split_ands); go_simp; (try with_reducible rfl))
  (try simp only [sq])
  apply wpT (i := 2) rfl (by kernel_rfl)
  case hQ => exact fun _ _ _ h => h
  case hS => exact hHeld
  case hy => exact yieldsIf_load_mid (by rfl) 28 _ rfl w.heap.size 0 rfl (K.map byt) _ (fun w hS => hS) Tryd.underlying28 rfl hst
  (try simp only [sq])
  apply wpT (i := 3) rfl (by kernel_rfl)
  case hQ => exact fun _ _ _ h => h
  case hS => exact hHeld
  case hy => (refine Or.inl ⟨by rfl, ?_⟩; intro w hSw; (try go_split_ands); go_simp; (try with_reducible rfl))
  (try simp only [sq])
  refine wpAnyH_ready (rs := [1]) (by kernel_rfl) (by simp) ?_
  refine AllReadyH.cons rfl (fun KK hKK => ?_) AllReadyH.nil
  (try simp only [sq])
  go_simp
  go_at_call 15
  refine (dnext 8 (by omega) (by omega) g _ htd.1).mono ?_
  rintro e w3 ⟨q, hq, rfl, ht3⟩
  have h3 := htd.trans ht3
  have hk3 : TGRow w3 w.heap.size K := ht3.2.2.oth _ _ _ (by omega) hkd
  have hz3 : Whole w3 (w.heap.size + 1) 36 zbk := ht3.2.2.oth _ _ _ (by omega) hzd
  refine hKK.out _ _ (TGRow.range hk3) (fun hHeld => ?_)
  clear hKK KK
  (try simp only [sq])
  refine wpAnyH_ready (rs := [4]) (by kernel_rfl) (by simp) ?_
  refine AllReadyH.cons rfl (fun KK hKK => ?_) AllReadyH.nil
  (try simp only [sq])
  go_simp
  go_at_call 26
  refine (dpersl g _ h3.1).mono ?_
  rintro e w4 ⟨⟨A, c, l, rfl, hll, hpl⟩, ht4⟩
  have h4 := h3.trans ht4
  have hk4 : TGRow w4 w.heap.size K := ht4.2.2.oth _ _ _ (by omega) hk3
  have hz4 : Whole w4 (w.heap.size + 1) 36 zbk := ht4.2.2.oth _ _ _ (by omega) hz3
  refine hKK.out _ _ (TGRow.range hk4) (fun hHeld => ?_)
  clear hKK KK
  (try simp only [sq])
  apply wpT (i := 5) rfl (by kernel_rfl)
  case hQ => exact fun _ _ _ h => h
  case hS => exact hHeld
  case hy => exact yieldsIf_build_con (by rfl) _ _ _ rfl hK rfl rfl rfl
  (try simp only [sq])
  refine wpAnyH_ready (rs := [6]) (by kernel_rfl) (by simp) ?_
  refine AllReadyH.cons rfl (fun KK hKK => ?_) AllReadyH.nil
  obtain ⟨w5, hw5⟩ : ∃ x, x = w4.setRow (w.heap.size + 1) (cnl q K (.slice A l.length c)).toArray := ⟨_, rfl⟩
  have hz5 : Whole w5 (w.heap.size + 1) 36 (cnl q K (.slice A l.length c)).toArray := by rw [hw5]; exact Whole.setRow hz4 _
  have hk5 : TGRow w5 w.heap.size K := by rw [hw5]; exact Whole.setRow_far hk4 (by omega) _
  have hs3 := hz3.lt
  have HPL : Hid (Psns w5 (fun b => w.heap.size ≤ b) A c l) := Lib.hid (by rw [hw5]; exact Seq.mono (Seq.keep hpl (by simp) (fun b _ hq => setRow_other _ _ _ _ (by have h : w3.heap.size ≤ b := hq; omega))) (fun b _ h => by have h : w3.heap.size ≤ b := h; omega))
  clear hpl
  have h5 : Turn g w w5 := by rw [hw5]; exact Turn.below h4 (below_setRow (Below.refl _ _) (Nat.le_refl _) _) (by omega) (by omega)
  rw [if_pos (by kernel_rfl)]
  refine wp_store_row 36 _ _ rfl (w.heap.size + 1) _ rfl rfl 36 _ hz4 (by rw [cnSize, cnl_size]) (by rw [zbk_size, cnl_size]) (cnl_one _ _ _ _ _) ?_
  rw [← hw5]
  clear hw5
  refine hKK.out _ _ (TGRow.range hk5) (fun hHeld => ?_)
  clear hKK KK
  (try simp only [sq])
  refine wpAnyH_done (by kernel_rfl) ?_ _
  go_wp2_with fail
  refine bodyPost_ret (results_cell_row Tryd.results7 _ _ (w.heap.size + 1) _ _ _ _ rfl hz5 Tryd.underlying36 rfl (by rw [cnSize, cnl_size])) rfl ?_
  exact ⟨⟨q, A, c, l, by omega, by omega, rfl, hll, HPL.out⟩, h5⟩
end Go.Proofs.YteekdhcffiaaaaaDoor
namespace Go.Proofs.YteekdhcffiaaaaaDoor
open Go Go.RowKit Sh Leaf

theorem dcon {K : List B8} (hK : K.length = 32) (g : Nat) (w : World) (h : Deck g w) :
    Calls Tryd.prog 7 #[.pointer (some ⟨g, 0, none⟩), .agg (K.map byt).toArray] w fun e w' => (∃ (z : Int) (A : Option Addr) (n c : Nat), 0 ≤ z ∧ z ≤ 7 ∧ e = .returned (.agg (cnl z K (.slice A n c)).toArray)) ∧ Turn g w w' :=
  (dconl hK g w h).mono fun _ _ ⟨⟨z, A, c, l, h0, h7, e, _⟩, ht⟩ => ⟨⟨z, A, l.length, c, h0, h7, e⟩, ht⟩
end Go.Proofs.YteekdhcffiaaaaaDoor
namespace Go.Proofs.YteekdhcffiaaaaaDoor
open Go Go.RowKit Sh Leaf

theorem free_same {b : Alg} {x y : Bx} (hG : GoodA b) (hf : b.free = true) (hl : b.boxes.length ≤ 5) (hx : x ∈ b.boxes) (hy : y ∈ b.boxes) (k2 : y.box = x.box) : y = x := by
  obtain ⟨i, hi, hie⟩ := List.getElem_of_mem hx
  obtain ⟨j, hj, hje⟩ := List.getElem_of_mem hy
  have t1 := hG.tb hf i x (by rw [List.getElem?_eq_getElem hi, hie])
  have t2 := hG.tb hf j y (by rw [List.getElem?_eq_getElem hj, hje])
  have hij : i = j := by
    by_cases q : i = j
    · exact q
    · have e1 := congrArg (List.take 32) k2
      rw [t1, t2, List.take_left' (sym_length _ _), List.take_left' (sym_length _ _)] at e1
      exact absurd e1.symm (sym_ne2 (by omega) (by omega) (by omega) (by omega) (by omega))
  subst hij
  exact hje.symm.trans hie
theorem seal_keeps {a : Alg} {K m : List B8} {z : Int} (h : (aSeal a K z m).2.2 = 0) : (aSeal a K z m).1.free = a.free := by
  unfold aSeal at h ⊢
  split at h
  · cases h
  · rename_i h1
    rw [if_neg h1]
    split at h
    · cases h
    · rename_i h2
      rw [if_neg h2]
      cases hf : fndb a.boxes K z m with
      | some t => rfl
      | none =>
        rw [hf] at h
        dsimp only at h ⊢
        split at h
        · cases h
        · rename_i h3
          rw [if_neg h3]
theorem fndo_other {b : Alg} {K K2 Z m : List B8} (hG : GoodA b) (hf : b.free = true) (hl : b.boxes.length ≤ 5) (h : fndo b.boxes K Z = some m) (hK : K2 ≠ K) : fndo b.boxes K2 Z = none := by
  have mem : ∀ {k t}, fndo b.boxes k Z = some t → ∃ x ∈ b.boxes, x.key = k ∧ x.box = Z := fun {k t} h => by
    unfold fndo at h
    cases hx : b.boxes.find? (fun e => decide (e.key = k ∧ e.box = Z)) with
    | none => rw [hx] at h; cases h
    | some x =>
      have := List.find?_some hx
      simp at this
      exact ⟨x, List.mem_of_find?_eq_some hx, this.1, this.2⟩
  cases h2 : fndo b.boxes K2 Z with
  | none => rfl
  | some t =>
    obtain ⟨x, hx, x1, x2⟩ := mem h
    obtain ⟨y, hy, y1, y2⟩ := mem h2
    have := free_same hG hf hl hx hy (y2.trans x2.symm)
    subst this
    exact absurd (y1.symm.trans x1) hK
theorem tk_back {a b : Alg} {X : Blk} {e : Int} {K : List B8} {z lo hi : Int} (hG : GoodA a) (h0 : 0 ≤ a.fresh) (hf : a.fresh ≤ 4) (hl : a.boxes.length ≤ 4) (ht : tmok lo hi) (hz : 0 ≤ z ∧ z ≤ 7) (h : (b, X, e) = pBlank a z K lo hi) :
    e = 0 ∧ X.party = z ∧ X.key.length = 32 ∧ pOpenT b K X.ticket = (X.key, (lo, hi), 0) ∧ (a.free = true → ∀ K2, K2 ≠ K → pOpenT b K2 X.ticket = (ztag, (0, 0), 14)) ∧ b.free = a.free := by
  have hk := key_ok (a := a) (by omega)
  have hcb := key_boxes hk
  have hcf := key_fresh h0 hk
  have hcr : (aKey a).1.free = a.free := by unfold aKey; rw [if_neg (by omega)]
  have hcG := good_key hG
  have hT := key_len a
  unfold pBlank at h
  rw [if_pos ⟨ht, hz⟩, if_neg (by rw [hk]; simp)] at h
  obtain ⟨c, hc⟩ : ∃ c, c = (aKey a).1 := ⟨_, rfl⟩
  obtain ⟨T, hTT⟩ : ∃ T, T = (aKey a).2.1 := ⟨_, rfl⟩
  rw [← hc] at hcb hcf hcr hcG h
  rw [← hTT] at h hT
  clear hc hTT hk
  obtain ⟨n, hn⟩ := Int.eq_ofNat_of_zero_le hcf.1
  have hml : (tjoin T lo hi).length ≤ 256 := by
    have e1 := enc_len7 (n := lo.toNat) (by have := ht.1; have := ht.2.1; have := ht.2.2; omega)
    have e2 := enc_len7 (n := hi.toNat) (by have := ht.1; have := ht.2.1; have := ht.2.2; omega)
    unfold tjoin
    simp only [List.length_append]
    omega
  have hj := tsplit_join hT ht
  obtain ⟨m, hm⟩ : ∃ m, m = tjoin T lo hi := ⟨_, rfl⟩
  rw [← hm] at h hml hj
  have hgd : GoodA (aSeal c K c.fresh m).1 := good_seal hcG
  have hsl := seal_le c K c.fresh m
  have hkp := seal_keeps (a := c) (K := K) (m := m) (z := c.fresh)
  obtain ⟨R, hR⟩ : ∃ R, R = aSeal c K c.fresh m := ⟨_, rfl⟩
  rw [← hR] at h hgd hsl hkp
  obtain ⟨d, Z, f⟩ := R
  obtain ⟨S, hS⟩ : ∃ S, S = aOpen d K Z := ⟨_, rfl⟩
  obtain ⟨U, u⟩ := S
  rw [hn] at hR
  obtain ⟨rfl, rfl, rfl, -⟩ := box_back hcG (by omega) hml (by rw [hcb]; exact hl) hR hS
  dsimp only at h hgd hsl hkp
  rw [if_neg (by simp)] at h
  injection h with h1 h2
  injection h2 with h2 h3
  subst h1 h2 h3
  refine ⟨rfl, rfl, hT, ?_, fun hfr K2 hK2 => ?_, by rw [hkp rfl, hcr]⟩
  · unfold pOpenT
    rw [← hS, if_neg (by simp)]
    dsimp only
    rw [hj]
  · have hbf : b.free = true := by rw [hkp rfl, hcr, hfr]
    have hfo : fndo b.boxes K Z = some U := by
      rw [aOpen_free hbf] at hS
      cases hfn : fndo b.boxes K Z with
      | none => rw [hfn] at hS; injection hS with _ hS; cases hS
      | some p => rw [hfn] at hS; injection hS with hS _; rw [hS]; rfl
    have hno := fndo_other hgd hbf (by rw [hcb] at hsl; omega) hfo hK2
    have ho : aOpen b K2 Z = ([], 14) := by rw [aOpen_free hbf, hno]; rfl
    unfold pOpenT
    rw [ho, if_pos (by simp)]
end Go.Proofs.YteekdhcffiaaaaaDoor
namespace Go.Proofs.YteekdhcffiaaaaaDoor
open Go Go.RowKit Sh Leaf

@[irreducible] def ztm : Array Value := #[.int .i64 0, .int .i64 0]
theorem ztm_lit : (#[.int .i64 0, .int .i64 0] : Array Value) = ztm := by unfold ztm; rfl
theorem wpList_store_con {w : World} {g : Nat} {ops : Array Oper} {rest : List Oper} {o : Oper} {a : Act} {Q : Exit → Act → World → Prop} (hgd : o.guard = none) (x y : Operand) (ho : o.op = .store 36 x y)
    (hx : a.eval x = .pointer (some ⟨g, 0, none⟩)) {cs cs' : Array Value} (hy : a.eval y = .agg cs') (hg : Whole w g 36 cs) (h8 : cs.size = 34) (h8' : cs'.size = 34) (hone : cs'.all (·.oneCell') = true)
    (h : wpList Tryd.prog ops Q rest (a.put o.dst undef) (w.setRow g cs')) : wpList Tryd.prog ops Q (o :: rest) a w :=
  wpList_store_row hgd 36 x y ho g _ hx hy 36 _ hg (by rw [cnSize, h8']) (by rw [h8, h8']) hone h
theorem wpList_load_con {w : World} {g : Nat} {ops : Array Oper} {rest : List Oper} {o : Oper} {a : Act} {Q : Exit → Act → World → Prop} (hgd : o.guard = none) (x : Operand) (ho : o.op = .load 36 x)
    (hx : a.eval x = .pointer (some ⟨g, 0, none⟩)) {cs : Array Value} (hg : Whole w g 36 cs) (h8 : cs.size = 34) (h : wpList Tryd.prog ops Q rest (a.put o.dst (.agg cs)) w) : wpList Tryd.prog ops Q (o :: rest) a w :=
  wpList_load_row hgd 36 x ho g hx 36 _ (0, 0) _ hg Tryd.underlying36 rfl (by rw [cnSize, h8]) h
theorem cnl_at {w : World} {g : Nat} {e : TypeId} {z : Int} {K : List B8} {vp : Value} (h : Whole w g e (cnl z K vp).toArray) : w.cell? ⟨g, 0, none⟩ = some (.int .i64 z) ∧ w.rangeAt g 1 ((p32 K).map byt) ∧ w.cell? ⟨g, 33, none⟩ = some vp := by
  refine ⟨by rw [Whole.cell h]; rfl, fun i v hv => ?_, ?_⟩
  · rw [Whole.cell h, List.getElem?_toArray]
    unfold cnl
    rw [show 1 + i = i + 1 by omega, List.getElem?_cons_succ, List.getElem?_append_left (by obtain ⟨h, _⟩ := List.getElem?_eq_some_iff.1 hv; exact h)]
    exact hv
  · rw [Whole.cell h, List.getElem?_toArray]
    unfold cnl
    rw [List.getElem?_cons_succ, List.getElem?_append_right (by rw [p32_cells]; omega), p32_cells]
    rfl
theorem pOpenT_len (a : Alg) (K t : List B8) : (pOpenT a K t).1.length = 32 := by
  unfold pOpenT
  split
  · simp
  · cases h : tsplit (aOpen a K t).1 with
    | none => simp
    | some R =>
      obtain ⟨k, lo, hi⟩ := R
      exact tsplit_len h
end Go.Proofs.YteekdhcffiaaaaaDoor
namespace Go.Proofs.YteekdhcffiaaaaaDoor
open Go Go.RowKit Sh Leaf

set_option linter.unusedSimpArgs false in
set_option linter.unusedVariables false in
set_option maxRecDepth 100000 in
set_option maxHeartbeats 4000000 in
theorem rsameblk {w : World} {Q Q2 : Nat → Prop} {x y : Value} {b : Blk} (hx : BkV w Q x b) (hy : BkV w Q2 y b) (hl : b.ticket.length ≤ 1000000) :
    Calls Tryd.prog 12 #[x, y] w fun e w' => e = .returned (.bool true) ∧ Below w.heap.size w w' := by
  obtain ⟨A, c, rfl, hA, hT⟩ := hx
  obtain ⟨B, d, rfl, hB, -⟩ := hy
  obtain ⟨q, hq⟩ : ∃ q, q = (w.alloc (.cells (cnl b.party b.key (.slice A b.ticket.length c)).toArray 41)).alloc (.cells (cnl b.party b.key (.slice B b.ticket.length d)).toArray 41) := ⟨_, rfl⟩
  have r1 : Whole q w.heap.size 41 (cnl b.party b.key (.slice A b.ticket.length c)).toArray := by rw [hq]; exact (Whole.here _ _ _).alloc _
  have r2 : Whole q (w.heap.size + 1) 41 (cnl b.party b.key (.slice B b.ticket.length d)).toArray := by rw [hq]; exact Whole.at_ _ _ _ _ (by simp)
  have hb : Below w.heap.size w q := by rw [hq]; exact ((Below.refl _ _).alloc (Nat.le_refl _) _).alloc (by simp) _
  have c1 := cnl_at r1
  have c2 := cnl_at r2
  rw [p32_eq hT] at c1 c2
  have kq := fun W => eql_tag hT hT (decide_eq_true rfl) W
  have hsk : (Tryd.prog.info? 28).map (·.size) = some (b.key.map byt).length := by rw [List.length_map, hT]; exact tagSize
  have hcl := same_ _ _ b.ticket b.ticket _ _ q (hA.below hb (Nat.le_refl _)) (hB.below hb (Nat.le_refl _)) hl hl
  rw [decide_eq_true rfl] at hcl
  have HB := Lib.hid hb
  clear hA hB hb hT r1 r2
  go_enter Tryd.func12, Tryd.ntmps12
  go_upto_region 1 with fail
  rw [← hq]
  clear hq
  go_wp2_with (first
    | (with_reducible refine wpList_load_wanted_at (by with_unfolding_all rfl) 28 _ rfl w.heap.size 1 rfl (b.key.map byt) _ c1.2.1 Tryd.underlying28 rfl hsk ?_)
    | (with_reducible refine wpList_load_wanted_at (by with_unfolding_all rfl) 28 _ rfl (w.heap.size + 1) 1 rfl (b.key.map byt) _ c2.2.1 Tryd.underlying28 rfl hsk ?_))
  refine hcl.mono ?_
  rintro e w1 ⟨rfl, hb1⟩
  have HB1 := Lib.hid (HB.out.trans (hb1.mono HB.out.size))
  clear hcl hb1 HB c1 c2 kq
  go_wp2_with fail
  go_ret
  exact ⟨rfl, HB1.out⟩
end Go.Proofs.YteekdhcffiaaaaaDoor
