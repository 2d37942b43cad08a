/-
  RefRd0
  RefBy0
-/
import Derived.Test.YteekdhcffiaaaaaDoorPk47
import Derived.Test.YteekdhcffiaaaaaDoorPk11
import Derived.Test.YteekdhcffiaaaaaDoorPk9
import Derived.Test.YteekdhcffiaaaaaDoorPk21
namespace Go.Proofs.YteekdhcffiaaaaaDoor
open Go Go.RowKit Sh Leaf

def fste (e e' : Nat) : Nat := if e = 0 then e' else e
theorem Oth.set (g i : Nat) (w : World) (v : Value) (hi : i ≠ 0 := by first | omega | decide) : Oth g w (w.setCell ⟨g, i, none⟩ v) :=
  ⟨fun b _ _ hb _ h => (heap_setCell_other w ⟨g, i, none⟩ b v hb).trans h, fun u hu => by
    have hne : (⟨g, i, none⟩ : Addr) ≠ ⟨g, 0, none⟩ := fun e => by injection e with _ e; exact hi e
    rw [World.cell?_setCell_other w _ _ v hne]; exact hu⟩
theorem rd_le (l : List B8) : (rd l).2.1 ≤ l.length := by
  obtain ⟨⟨n, k, e⟩, h⟩ : ∃ x, x = rd l := ⟨_, rfl⟩
  have h := h.symm
  rw [h]
  by_cases he : e = 0
  · subst he; exact (rd_unique h).1
  · rw [(rd_err h he).2]; exact Nat.zero_le _

def Qrd (g : Nat) (w : World) (b : List B8) (u e : Nat) : Prop := ∃ A c, Bytes w (fun x => x < g) (.slice A b.length c) b ∧ Whole w g 84 #[.slice A b.length c, .int .i64 u, .int .i64 e] ∧ u ≤ b.length
theorem Qrd.below {g B : Nat} {w w' : World} {b : List B8} {u e : Nat} (h : Qrd g w b u e) (hb : Below B w w') (hg : g < B) : Qrd g w' b u e := by
  obtain ⟨A, c, h1, h2, h3⟩ := h
  exact ⟨A, c, h1.keep fun x _ hx => hb.block x (by omega), h2.below hb hg, h3⟩
theorem Qrd.lt {g : Nat} {w : World} {b : List B8} {u e : Nat} (h : Qrd g w b u e) : g < w.heap.size := by obtain ⟨A, c, h1, h2, h3⟩ := h; exact h2.lt
def Qds (g : Nat) (b : List B8) (u e : Nat) (w w' : World) : Prop := Qrd g w' b u e ∧ Below g w w' ∧ Oth g w w'
theorem Qds.trans {g : Nat} {b : List B8} {u e u' e' : Nat} {w w' w'' : World} (h : Qds g b u e w w') (k : Qds g b u' e' w' w'') : Qds g b u' e' w w'' := ⟨k.1, h.2.1.trans k.2.1, h.2.2.trans k.2.2⟩
theorem qfail (g : Nat) (b : List B8) (u e e' : Nat) (w : World) (h : Qrd g w b u e) :
    Calls Tryd.prog 59 #[.pointer (some ⟨g, 0, none⟩), .int .i64 e'] w fun x w' => (∃ v, x = .returned v) ∧ Qds g b u (fste e e') w w' := by
  obtain ⟨A, c, hb, hW, hu⟩ := h
  have c2 := hW.cell 2
  have f2 := hW.frozen 2
  simp only [List.getElem?_toArray, List.getElem?_cons_zero, List.getElem?_cons_succ] at c2
  by_cases he : e = 0
  · subst he
    go_enter Tryd.func59, Tryd.ntmps59
    go_wp2
    go_end0
    have hW2 := hW.set 2 (.int .i64 (e' : Int))
    simp only [List.setIfInBounds_toArray, List.set_cons_zero, List.set_cons_succ] at hW2
    exact ⟨⟨_, rfl⟩, ⟨A, c, hb.set (fun x hx e => by have : x = g := e; omega) _, hW2, hu⟩, (Below.refl _ _).setCell (p := ⟨g, 2, none⟩) (Nat.le_refl _) _, Oth.set _ _ _ _⟩
  · have he' : ¬ (e : Int) = 0 := by omega
    go_enter Tryd.func59, Tryd.ntmps59
    go_wp2
    go_end0
    exact ⟨⟨_, rfl⟩, ⟨A, c, hb, by unfold fste; rw [if_neg he]; exact hW, hu⟩, Below.refl _ _, Oth.refl _ _⟩
theorem Qrd.move {g : Nat} {w : World} {b : List B8} {u e k : Nat} (h : Qrd g w b u e) (hk : u + k ≤ b.length) : Qds g b (u + k) e w (w.setCell ⟨g, 1, none⟩ (.int .i64 ((u : Int) + (k : Int)))) ∧ IntKind.i64.wrap ((u : Int) + (k : Int)) = (u : Int) + (k : Int) ∧ w.cell? ⟨g, 1, none⟩ = some (.int .i64 (u : Int)) ∧ w.frozen? ⟨g, 1, none⟩ = false := by
  obtain ⟨A, c, hb, hW, hu⟩ := h
  obtain ⟨A', c', e0, hlc, hcm, -⟩ := id hb
  cases e0
  have c1 := hW.cell 1
  simp only [List.getElem?_toArray, List.getElem?_cons_zero, List.getElem?_cons_succ] at c1
  have hW2 := hW.set 1 (.int .i64 ((u : Int) + k))
  simp only [List.setIfInBounds_toArray, List.set_cons_zero, List.set_cons_succ] at hW2
  have e1 : (u : Int) + k = ((u + k : Nat) : Int) := by omega
  refine ⟨⟨⟨A, c, hb.set (fun x hx e => by have : x = g := e; omega) _, by rw [← e1]; exact hW2, hk⟩, (Below.refl _ _).setCell (p := ⟨g, 1, none⟩) (Nat.le_refl _) _, Oth.set _ _ _ _⟩, ?_, c1, hW.frozen 1⟩
  unfold maxLen at hcm
  rw [IntKind.wrap_i64]
  omega
def qnum (b : List B8) (u e : Nat) : Nat × Nat × Nat := if e = 0 then rd (b.drop u) else (0, 0, e)
set_option maxHeartbeats 1000000 in
theorem qnumber (g : Nat) (b : List B8) (u e : Nat) (w : World) (h : Qrd g w b u e) (n k e1 : Nat) (hr : qnum b u e = (n, k, e1)) :
    Calls Tryd.prog 41 #[.pointer (some ⟨g, 0, none⟩)] w fun x w' => x = .returned (.int .i64 n) ∧ Qds g b (u + k) e1 w w' := by
  obtain ⟨A, c, hb, hW, hu⟩ := id h
  have c0 := hW.cell 0
  have c1 := hW.cell 1
  have c2 := hW.cell 2
  simp only [List.getElem?_toArray, List.getElem?_cons_zero, List.getElem?_cons_succ] at c0 c1 c2
  unfold qnum at hr
  by_cases he : e = 0
  case neg =>
    rw [if_neg he] at hr
    injection hr with r1 r2
    injection r2 with r2 r3
    subst r1 r2 r3
    have he' : ¬ (e : Int) = 0 := by omega
    go_enter Tryd.func41, Tryd.ntmps41
    go_wp2
    go_ret
    exact ⟨rfl, h, Below.refl _ _, Oth.refl _ _⟩
  subst he
  rw [if_pos rfl] at hr
  have hk := rd_le (b.drop u)
  rw [hr] at hk
  simp only [List.length_drop] at hk
  obtain ⟨A', c', e0, hlc, hcm, -⟩ := id hb
  cases e0
  have hrun := fun W => run_cut_from A b.length c u hu W
  have hbd := hb.drop u hu
  generalize (if c = u then A else A.map (·.add u)) = A2 at hrun hbd
  have hkeep : Hid (∀ W, Below w.heap.size w W → Bytes W (fun x => x < g) (.slice A2 (b.length - u) (c - u)) (b.drop u)) := Lib.hid fun W hW => hbd.below hW (Nat.le_refl _)
  have hrd : Hid (∀ W, Below w.heap.size w W → Calls Tryd.prog 58 #[.slice A2 (b.length - u) (c - u)] W fun x w' => x = .returned (.tuple #[.int .i64 (n : Int), .int .i64 (k : Int), .int .i64 (e1 : Int)]) ∧ Below w.heap.size w w') := Lib.hid fun W hW => by
    refine (ref_read _ _ _ W (hkeep.out W hW)).mono ?_
    rintro x w' ⟨rfl, hb'⟩
    exact ⟨by rw [hr], hW.trans (hb'.mono hW.size)⟩
  have H := Lib.hid h
  have hc : Hid (∀ W, Below w.heap.size w W → W.cell? ⟨g, 0, none⟩ = some (.slice A b.length c) ∧ W.cell? ⟨g, 1, none⟩ = some (.int .i64 u)) := Lib.hid fun W hW2 => ⟨(hW2.cell (p := ⟨g, 0, none⟩) hW.lt).trans c0, (hW2.cell (p := ⟨g, 1, none⟩) hW.lt).trans c1⟩
  have had : Hid (∀ W, Below w.heap.size w W → Calls Tryd.prog 59 #[.pointer (some ⟨g, 0, none⟩), .int .i64 e1] W fun x w' => (∃ v, x = .returned v) ∧ Qds g b u e1 w w') := Lib.hid fun W hW => by
    refine (qfail g b u 0 e1 W (h.below hW h.lt)).mono ?_
    rintro x w' ⟨hv, h1, h2, h3⟩
    exact ⟨hv, h1, (hW.mono (Nat.le_of_lt h.lt)).trans h2, (Oth.below g hW).trans h3⟩
  have hkl : u + k ≤ b.length := by omega
  clear h hk hW hr hb hbd hkeep hlc hcm hu
  go_enter Tryd.func41, Tryd.ntmps41
  go_wp2_with fail
  go_region_held3 (fun w' => w'.cell? ⟨g, 0, none⟩ = some (.slice A b.length c) ∧ w'.cell? ⟨g, 1, none⟩ = some (.int .i64 (u : Int))) (first | exact ⟨c0, c1⟩ | assumption | exact hc.out _ (by assumption) | go_keep)
    (first | (go_at_call 58; refine (hrd.out _ (by repeat (first | exact Below.refl _ _ | refine Below.drew ?_))).mono ?_; rintro e w5 ⟨rfl, hb5⟩; have hc5 := hc.out _ hb5))
  go_wp2_with fail
  refine (had.out _ (by repeat (first | assumption | exact Below.refl _ _ | refine Below.drew ?_))).mono ?_
  rintro x w6 ⟨⟨v, rfl⟩, h6⟩
  obtain ⟨hm, hw, d1, f1⟩ := h6.1.move hkl
  have H6 := Lib.hid (h6.trans hm)
  clear h6 hm hb5 hc5 c0 c1 c2
  go_wp2
  go_ret
  exact ⟨rfl, H6.out⟩
end Go.Proofs.YteekdhcffiaaaaaDoor
namespace Go.Proofs.YteekdhcffiaaaaaDoor
open Go Go.RowKit Sh Leaf

theorem Qds.drewN {g : Nat} {b : List B8} {u e n : Nat} {w w' : World} (h : Qds g b u e (w.drewN n) w') : Qds g b u e w w' :=
  ⟨h.1, (below_drewN (Below.refl g w) n).trans h.2.1, ⟨fun x t cs hx _ hw => h.2.2.oth x t cs hx hw, fun v hv => h.2.2.zero v hv⟩⟩
theorem Qds.after {g : Nat} {b : List B8} {u e : Nat} {w w' : World} (h : Qds g b u e w w') (n : Nat) : Qds g b u e w (w'.drewN n) := ⟨h.1, below_drewN h.2.1 n, ⟨fun x t cs hx _ hw => h.2.2.oth x t cs hx hw, fun v hv => h.2.2.zero v hv⟩⟩
theorem Qrd.short {g : Nat} {w : World} {b : List B8} {u : Nat} (h : Qrd g w b u 0) : Qds g b u 3 w (w.setCell ⟨g, 2, none⟩ (.int .i64 3)) := by
  obtain ⟨A, c, hb, hW, hu⟩ := h
  have hW2 := hW.set 2 (.int .i64 3)
  simp only [List.setIfInBounds_toArray, List.set_cons_zero, List.set_cons_succ] at hW2
  exact ⟨⟨A, c, hb.set (fun x hx e => by have : x = g := e; omega) _, hW2, hu⟩, (Below.refl _ _).setCell (p := ⟨g, 2, none⟩) (Nat.le_refl _) _, Oth.set _ _ _ _⟩
theorem Qds.alloc {g : Nat} {b : List B8} {u e : Nat} {w w' : World} (h : Qds g b u e w w') (o : Obj) : Qds g b u e w (w'.alloc o) :=
  ⟨h.1.below ((Below.refl w'.heap.size w').alloc (Nat.le_refl _) o) h.1.lt, h.2.1.alloc (Nat.le_of_lt h.1.lt) o, h.2.2.trans (Oth.alloc g w' o)⟩
end Go.Proofs.YteekdhcffiaaaaaDoor
