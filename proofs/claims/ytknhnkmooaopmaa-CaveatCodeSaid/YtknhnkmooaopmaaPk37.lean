/-
  The reference's reader: Fail, Number, Field, Bytes.
  The reference's reader: Bytes.
-/
import Derived.Test.YtknhnkmooaopmaaPk16
import Derived.Test.YtknhnkmooaopmaaPk35
import Derived.Test.YtknhnkmooaopmaaPk36
namespace Go.Proofs.Ytknhnkmooaopmaa
open Go Go.RowKit Sh Leaf

/-- A reader at block g, of the bytes b in blocks below g. -/
def Qrd (g : Nat) (w : World) (b : List B8) (u e : Nat) : Prop := ∃ A c, Bytes w (fun x => x < g) (.slice A b.length c) b ∧ Whole w g 74 #[.slice A b.length c, .int .i64 u, .int .i64 e] ∧ u ≤ b.length
theorem Qrd.below {g B : Nat} {w w' : World} {b : List B8} {u e : Nat} (h : Qrd g w b u e) (hb : Below B w w') (hg : g < B) : Qrd g w' b u e := by
  obtain ⟨A, c, h1, h2, h3⟩ := h
  exact ⟨A, c, h1.keep fun x _ hx => hb.block x (by omega), h2.below hb hg, h3⟩
theorem Qrd.lt {g : Nat} {w : World} {b : List B8} {u e : Nat} (h : Qrd g w b u e) : g < w.heap.size := by obtain ⟨A, c, h1, h2, h3⟩ := h; exact h2.lt
/-- What a call of the reader leaves. -/
def Qds (g : Nat) (b : List B8) (u e : Nat) (w w' : World) : Prop := Qrd g w' b u e ∧ Below g w w' ∧ Oth g w w'
theorem Qds.trans {g : Nat} {b : List B8} {u e u' e' : Nat} {w w' w'' : World} (h : Qds g b u e w w') (k : Qds g b u' e' w' w'') : Qds g b u' e' w w'' := ⟨k.1, h.2.1.trans k.2.1, h.2.2.trans k.2.2⟩
theorem qfail (g : Nat) (b : List B8) (u e e' : Nat) (w : World) (h : Qrd g w b u e) :
    Calls Try.prog 45 #[.pointer (some ⟨g, 0, none⟩), .int .i64 e'] w fun x w' => (∃ v, x = .returned v) ∧ Qds g b u (fste e e') w w' := by
  obtain ⟨A, c, hb, hW, hu⟩ := h
  have c2 := hW.cell 2
  have f2 := hW.frozen 2
  simp only [List.getElem?_toArray, List.getElem?_cons_zero, List.getElem?_cons_succ] at c2
  by_cases he : e = 0
  · subst he
    go_enter Try.func45, Try.ntmps45
    go_wp2
    go_end0
    have hW2 := hW.set 2 (.int .i64 (e' : Int))
    simp only [List.setIfInBounds_toArray, List.set_cons_zero, List.set_cons_succ] at hW2
    exact ⟨⟨_, rfl⟩, ⟨A, c, hb.set (fun x hx e => by have : x = g := e; omega) _, hW2, hu⟩, (Below.refl _ _).setCell (p := ⟨g, 2, none⟩) (Nat.le_refl _) _, Oth.set _ _ _ _⟩
  · have he' : ¬ (e : Int) = 0 := by omega
    go_enter Try.func45, Try.ntmps45
    go_wp2
    go_end0
    exact ⟨⟨_, rfl⟩, ⟨A, c, hb, by unfold fste; rw [if_neg he]; exact hW, hu⟩, Below.refl _ _, Oth.refl _ _⟩
/-- The place is moved. -/
theorem Qrd.move {g : Nat} {w : World} {b : List B8} {u e k : Nat} (h : Qrd g w b u e) (hk : u + k ≤ b.length) : Qds g b (u + k) e w (w.setCell ⟨g, 1, none⟩ (.int .i64 ((u : Int) + (k : Int)))) ∧ IntKind.i64.wrap ((u : Int) + (k : Int)) = (u : Int) + (k : Int) ∧ w.cell? ⟨g, 1, none⟩ = some (.int .i64 (u : Int)) ∧ w.frozen? ⟨g, 1, none⟩ = false := by
  obtain ⟨A, c, hb, hW, hu⟩ := h
  obtain ⟨A', c', e0, hlc, hcm, -⟩ := id hb
  cases e0
  have c1 := hW.cell 1
  simp only [List.getElem?_toArray, List.getElem?_cons_zero, List.getElem?_cons_succ] at c1
  have hW2 := hW.set 1 (.int .i64 ((u : Int) + k))
  simp only [List.setIfInBounds_toArray, List.set_cons_zero, List.set_cons_succ] at hW2
  have e1 : (u : Int) + k = ((u + k : Nat) : Int) := by omega
  refine ⟨⟨⟨A, c, hb.set (fun x hx e => by have : x = g := e; omega) _, by rw [← e1]; exact hW2, hk⟩, (Below.refl _ _).setCell (p := ⟨g, 1, none⟩) (Nat.le_refl _) _, Oth.set _ _ _ _⟩, ?_, c1, hW.frozen 1⟩
  unfold maxLen at hcm
  rw [IntKind.wrap_i64]
  omega
/-- What Number makes of a reader. -/
def qnum (b : List B8) (u e : Nat) : Nat × Nat × Nat := if e = 0 then rd (b.drop u) else (0, 0, e)
set_option maxHeartbeats 1000000 in
theorem qnumber (g : Nat) (b : List B8) (u e : Nat) (w : World) (h : Qrd g w b u e) (n k e1 : Nat) (hr : qnum b u e = (n, k, e1)) :
    Calls Try.prog 42 #[.pointer (some ⟨g, 0, none⟩)] w fun x w' => x = .returned (.int .i64 n) ∧ Qds g b (u + k) e1 w w' := by
  obtain ⟨A, c, hb, hW, hu⟩ := id h
  have c0 := hW.cell 0
  have c1 := hW.cell 1
  have c2 := hW.cell 2
  simp only [List.getElem?_toArray, List.getElem?_cons_zero, List.getElem?_cons_succ] at c0 c1 c2
  unfold qnum at hr
  by_cases he : e = 0
  case neg =>
    rw [if_neg he] at hr
    injection hr with r1 r2
    injection r2 with r2 r3
    subst r1 r2 r3
    have he' : ¬ (e : Int) = 0 := by omega
    go_enter Try.func42, Try.ntmps42
    go_wp2
    go_ret
    exact ⟨rfl, h, Below.refl _ _, Oth.refl _ _⟩
  subst he
  rw [if_pos rfl] at hr
  have hk := rd_le (b.drop u)
  rw [hr] at hk
  simp only [List.length_drop] at hk
  obtain ⟨A', c', e0, hlc, hcm, -⟩ := id hb
  cases e0
  have hrun := fun W => run_cut_from A b.length c u hu W
  have hbd := hb.drop u hu
  generalize (if c = u then A else A.map (·.add u)) = A2 at hrun hbd
  have hkeep : Hid (∀ W, Below w.heap.size w W → Bytes W (fun x => x < g) (.slice A2 (b.length - u) (c - u)) (b.drop u)) := Lib.hid fun W hW => hbd.below hW (Nat.le_refl _)
  have hrd : Hid (∀ W, Below w.heap.size w W → Calls Try.prog 69 #[.slice A2 (b.length - u) (c - u)] W fun x w' => x = .returned (.tuple #[.int .i64 (n : Int), .int .i64 (k : Int), .int .i64 (e1 : Int)]) ∧ Below w.heap.size w w') := Lib.hid fun W hW => by
    refine (ref_read _ _ _ W (hkeep.out W hW)).mono ?_
    rintro x w' ⟨rfl, hb'⟩
    exact ⟨by rw [hr], hW.trans (hb'.mono hW.size)⟩
  have H := Lib.hid h
  have hc : Hid (∀ W, Below w.heap.size w W → W.cell? ⟨g, 0, none⟩ = some (.slice A b.length c) ∧ W.cell? ⟨g, 1, none⟩ = some (.int .i64 u)) := Lib.hid fun W hW2 => ⟨(hW2.cell (p := ⟨g, 0, none⟩) hW.lt).trans c0, (hW2.cell (p := ⟨g, 1, none⟩) hW.lt).trans c1⟩
  have had : Hid (∀ W, Below w.heap.size w W → Calls Try.prog 45 #[.pointer (some ⟨g, 0, none⟩), .int .i64 e1] W fun x w' => (∃ v, x = .returned v) ∧ Qds g b u e1 w w') := Lib.hid fun W hW => by
    refine (qfail g b u 0 e1 W (h.below hW h.lt)).mono ?_
    rintro x w' ⟨hv, h1, h2, h3⟩
    exact ⟨hv, h1, (hW.mono (Nat.le_of_lt h.lt)).trans h2, (Oth.below g hW).trans h3⟩
  have hkl : u + k ≤ b.length := by omega
  clear h hk hW hr hb hbd hkeep hlc hcm hu
  go_enter Try.func42, Try.ntmps42
  go_wp2_with fail
  go_region_held3 (fun w' => w'.cell? ⟨g, 0, none⟩ = some (.slice A b.length c) ∧ w'.cell? ⟨g, 1, none⟩ = some (.int .i64 (u : Int))) (first | exact ⟨c0, c1⟩ | assumption | exact hc.out _ (by assumption) | go_keep)
    (first | (go_at_call 69; refine (hrd.out _ (by repeat (first | exact Below.refl _ _ | refine Below.drew ?_))).mono ?_; rintro e w5 ⟨rfl, hb5⟩; have hc5 := hc.out _ hb5))
  go_wp2_with fail
  refine (had.out _ (by repeat (first | assumption | exact Below.refl _ _ | refine Below.drew ?_))).mono ?_
  rintro x w6 ⟨⟨v, rfl⟩, h6⟩
  obtain ⟨hm, hw, d1, f1⟩ := h6.1.move hkl
  have H6 := Lib.hid (h6.trans hm)
  clear h6 hm hb5 hc5 c0 c1 c2
  go_wp2
  go_ret
  exact ⟨rfl, H6.out⟩
set_option maxHeartbeats 1000000 in
theorem qfield (g : Nat) (b : List B8) (u : Nat) (w : World) (h : Qrd g w b u 0) (s : List B8) (k e1 : Nat) (hr : rdf (b.drop u) = (s, k, e1)) :
    Calls Try.prog 44 #[.pointer (some ⟨g, 0, none⟩)] w fun x w' => ∃ v', x = .returned v' ∧ Bytes w' (fun _ => True) v' s ∧ Qds g b (u + k) e1 w w' := by
  obtain ⟨A, c, hb, hW, hu⟩ := id h
  have c0 := hW.cell 0
  have c1 := hW.cell 1
  have c2 := hW.cell 2
  simp only [List.getElem?_toArray, List.getElem?_cons_zero, List.getElem?_cons_succ] at c0 c1 c2
  have hk := rdf_le (b.drop u)
  rw [hr] at hk
  simp only [List.length_drop] at hk
  obtain ⟨A', c', e0, hlc, hcm, -⟩ := id hb
  cases e0
  have hrun := fun W => run_cut_from A b.length c u hu W
  have hbd := hb.drop u hu
  generalize (if c = u then A else A.map (·.add u)) = A2 at hrun hbd
  have hkeep : Hid (∀ W, Below w.heap.size w W → Bytes W (fun x => x < g) (.slice A2 (b.length - u) (c - u)) (b.drop u)) := Lib.hid fun W hW => hbd.below hW (Nat.le_refl _)
  have hrd : Hid (∀ W, Below w.heap.size w W → Calls Try.prog 71 #[.slice A2 (b.length - u) (c - u)] W fun x w' => ∃ v', x = .returned (.tuple #[v', .int .i64 (k : Int), .int .i64 (e1 : Int)]) ∧ Bytes w' (fun x => x < g) v' s ∧ Below w.heap.size w w') := Lib.hid fun W hW => by
    refine (rread _ _ _ W (hkeep.out W hW)).mono ?_
    rintro x w' ⟨v', rfl, ho, hb'⟩
    rw [hr] at ho
    exact ⟨v', by rw [hr], ho, hW.trans (hb'.mono hW.size)⟩
  have hsl : s.length ≤ 1000000 := by
    rcases rdf_cases (b.drop u) with ⟨e, _, h⟩ | ⟨n, k, _, _, h1, _, h2, h⟩
    · rw [hr] at h; injection h with h _; subst h; simp
    · rw [hr] at h; injection h with h _; rw [h, h2]; omega
  have H := Lib.hid h
  have hc : Hid (∀ W, Below w.heap.size w W → W.cell? ⟨g, 0, none⟩ = some (.slice A b.length c) ∧ W.cell? ⟨g, 1, none⟩ = some (.int .i64 u)) := Lib.hid fun W hW2 => ⟨(hW2.cell (p := ⟨g, 0, none⟩) hW.lt).trans c0, (hW2.cell (p := ⟨g, 1, none⟩) hW.lt).trans c1⟩
  have had : Hid (∀ W, Below w.heap.size w W → Calls Try.prog 45 #[.pointer (some ⟨g, 0, none⟩), .int .i64 e1] W fun x w' => (∃ v, x = .returned v) ∧ Qds g b u e1 w w' ∧ ∀ v, Bytes W (fun x => x < g) v s → Bytes w' (fun x => x < g) v s) := Lib.hid fun W hW => by
    refine (qfail g b u 0 e1 W (h.below hW h.lt)).mono ?_
    rintro x w' ⟨hv, h1, h2, h3⟩
    exact ⟨hv, ⟨h1, (hW.mono (Nat.le_of_lt h.lt)).trans h2, (Oth.below g hW).trans h3⟩, fun v hv => hv.keep fun x _ hx => h2.block x hx⟩
  have hkl : u + k ≤ b.length := by omega
  have hgl := h.lt
  clear h hk hW hr hb hbd hkeep hlc hcm hu
  go_enter Try.func44, Try.ntmps44
  go_wp2_with fail
  go_region_held3 (fun w' => w'.cell? ⟨g, 0, none⟩ = some (.slice A b.length c) ∧ w'.cell? ⟨g, 1, none⟩ = some (.int .i64 (u : Int))) (first | exact ⟨c0, c1⟩ | assumption | exact hc.out _ (by assumption) | go_keep)
    (first | (go_at_call 71; refine (hrd.out _ (by repeat (first | exact Below.refl _ _ | refine Below.drew ?_))).mono ?_; rintro e w5 ⟨v5, rfl, hv5, hb5⟩; have hc5 := hc.out _ hb5))
  go_wp2_with fail
  refine (had.out _ (by repeat (first | assumption | exact Below.refl _ _ | refine Below.drew ?_))).mono ?_
  rintro x w6 ⟨⟨v, rfl⟩, h6, hv6⟩
  have hv := hv6 _ (by first | exact hv5 | exact hv5.drew)
  obtain ⟨hm, hw, d1, f1⟩ := h6.1.move hkl
  have H6 := Lib.hid (h6.trans hm)
  have hv7 : Bytes (w6.setCell ⟨g, 1, none⟩ (.int .i64 ((u : Int) + (k : Int)))) (fun x => x < g) v5 s := hv.set (fun x hx e => by have : x = g := e; omega) _
  have hgl7 : g < (w6.setCell ⟨g, 1, none⟩ (.int .i64 ((u : Int) + (k : Int)))).heap.size := H6.out.1.lt
  obtain ⟨A5, c5', rfl, -⟩ := id hv7
  have HV7 := Lib.hid hv7
  clear h6 hm hb5 hc5 c0 c1 c2 hv6 hv hv5 hv7
  have hsz : (w6.setCell ⟨g, 1, none⟩ (.int .i64 ((u : Int) + (k : Int)))).heap.size = w6.heap.size := by simp
  have hol := own_lit (w6.setCell ⟨g, 1, none⟩ (.int .i64 ((u : Int) + (k : Int)))) (w6.setCell ⟨g, 1, none⟩ (.int .i64 ((u : Int) + (k : Int)))).heap.size [] (Nat.le_refl _) (by simp)
  rw [hsz] at hol hgl7
  have HOL := Lib.hid hol
  clear hol
  go_wp2_with (at_builtin; go_must (refine wpList_append_bytes rfl (.tmp 37) (.tmp 38) rfl w6.heap.size (.slice (some ⟨w6.heap.size, 0, none⟩) 0 0) [] rfl HOL.out _ _ s rfl (HV7.out.alloc _) (by simp; omega) (by simp) ?_; intro v8 w8 ho8 hb8))
  rw [List.nil_append] at ho8
  have hb78 : Below w6.heap.size (w6.setCell ⟨g, 1, none⟩ (.int .i64 ((u : Int) + (k : Int)))) w8 := ((Below.refl w6.heap.size _).alloc (by simp) (.cells #[] 5)).trans hb8
  have HF : Hid (Qds g b (u + k) e1 w w8) := Lib.hid ⟨H6.out.1.below hb78 hgl7, H6.out.2.1.trans (hb78.mono (Nat.le_of_lt hgl7)), H6.out.2.2.trans (Oth.below g hb78 (by first | exact Nat.le_of_eq hsz | exact Nat.le_of_eq hsz.symm | simp))⟩
  have HO8 := Lib.hid (Bytes.of_own ho8)
  clear ho8 hb8 hb78 HOL HV7 H6
  go_ret
  exact ⟨_, rfl, HO8.out.mono fun _ _ _ => trivial, HF.out⟩
end Go.Proofs.Ytknhnkmooaopmaa
namespace Go.Proofs.Ytknhnkmooaopmaa
open Go Go.RowKit Sh Leaf

theorem Qds.drewN {g : Nat} {b : List B8} {u e n : Nat} {w w' : World} (h : Qds g b u e (w.drewN n) w') : Qds g b u e w w' :=
  ⟨h.1, (below_drewN (Below.refl g w) n).trans h.2.1, ⟨fun x t cs hx _ hw => h.2.2.oth x t cs hx hw, fun v hv => h.2.2.zero v hv⟩⟩
theorem Qds.after {g : Nat} {b : List B8} {u e : Nat} {w w' : World} (h : Qds g b u e w w') (n : Nat) : Qds g b u e w (w'.drewN n) := ⟨h.1, below_drewN h.2.1 n, ⟨fun x t cs hx _ hw => h.2.2.oth x t cs hx hw, fun v hv => h.2.2.zero v hv⟩⟩
theorem Qrd.short {g : Nat} {w : World} {b : List B8} {u : Nat} (h : Qrd g w b u 0) : Qds g b u 3 w (w.setCell ⟨g, 2, none⟩ (.int .i64 3)) := by
  obtain ⟨A, c, hb, hW, hu⟩ := h
  have hW2 := hW.set 2 (.int .i64 3)
  simp only [List.setIfInBounds_toArray, List.set_cons_zero, List.set_cons_succ] at hW2
  exact ⟨⟨A, c, hb.set (fun x hx e => by have : x = g := e; omega) _, hW2, hu⟩, (Below.refl _ _).setCell (p := ⟨g, 2, none⟩) (Nat.le_refl _) _, Oth.set _ _ _ _⟩
theorem Qds.alloc {g : Nat} {b : List B8} {u e : Nat} {w w' : World} (h : Qds g b u e w w') (o : Obj) : Qds g b u e w (w'.alloc o) :=
  ⟨h.1.below ((Below.refl w'.heap.size w').alloc (Nat.le_refl _) o) h.1.lt, h.2.1.alloc (Nat.le_of_lt h.1.lt) o, h.2.2.trans (Oth.alloc g w' o)⟩
set_option maxRecDepth 100000 in
set_option maxHeartbeats 2000000 in
theorem qbytes (g : Nat) (b : List B8) (u : Nat) (w : World) (h : Qrd g w b u 0) :
    Calls Try.prog 78 #[.pointer (some ⟨g, 0, none⟩), .int .i64 8] w fun x w' => ∃ A c R, x = .returned (.slice A 8 c) ∧ Bytes w' (fun x => x < g ∨ w.heap.size ≤ x) (.slice A 8 c) R ∧ R.length = 8 ∧ (rdm b u).1 = beval R ∧ Qds g b (u + (rdm b u).2.1) (rdm b u).2.2 w w' := by
  obtain ⟨A, c, hb, hW, hu⟩ := id h
  obtain ⟨A', c', e0, hlc, hcm, -⟩ := id hb
  cases e0
  have c0 := hW.cell 0
  have c1 := hW.cell 1
  have c2 := hW.cell 2
  have f2 := hW.frozen 2
  simp only [List.getElem?_toArray, List.getElem?_cons_zero, List.getElem?_cons_succ] at c0 c1 c2
  have hgl := h.lt
  unfold maxLen at hcm
  have hsub : IntKind.i64.wrap ((b.length : Int) - (u : Int)) = (b.length : Int) - (u : Int) := by rw [IntKind.wrap_i64]; omega
  by_cases hs : b.length - u < 8
  · have hm : rdm b u = (0, 0, 3) := by unfold rdm; rw [if_pos hs]
    rw [hm]
    have hs' : (b.length : Int) - (u : Int) < 8 := by omega
    have hmk := fun W => make_bytes 8 8 rfl (by omega) W
    have hE : Hid (∀ n, Qds g b u 3 w ((w.drewN n).setCell ⟨g, 2, none⟩ (.int .i64 3))) := Lib.hid fun n => Qds.drewN (n := n) (Qrd.short (show Qrd g (w.drewN n) b u 0 from h))
    have hmd := Lib.hid fun W => made_bytes W 8 (by omega)
    clear hb hW hm hs h hu hlc
    go_enter Try.func78, Try.ntmps78
    go_wp2
    go_quiet (fail)
    go_wp2
    go_ret
    have hsz : ((w.drewN nq).setCell ⟨g, 2, none⟩ (.int .i64 3)).heap.size = w.heap.size := by simp
    have hbm := hmd.out ((w.drewN nq).setCell ⟨g, 2, none⟩ (.int .i64 3))
    rw [hsz] at hbm
    exact ⟨_, _, List.replicate 8 0, rfl, hbm.mono fun _ _ e => .inr (by omega), by simp, by decide, (hE.out nq).alloc _⟩
  · have hm : rdm b u = (beval ((b.drop u).take 8), 8, 0) := by unfold rdm; rw [if_neg hs]
    rw [hm]
    have hs' : ¬ (b.length : Int) - (u : Int) < 8 := by omega
    have hmid := fun W => run_cut_mid A b.length c u (u + 8) (by omega) (by omega) W
    have hmv : Hid (∀ n, Qds g b (u + 8) 0 w ((w.drewN n).setCell ⟨g, 1, none⟩ (.int .i64 ((u : Int) + 8)))) := Lib.hid fun n => Qds.drewN (n := n) ((show Qrd g (w.drewN n) b u 0 from h).move (k := 8) (by omega)).1
    have hw : IntKind.i64.wrap ((u : Int) + 8) = (u : Int) + 8 := by rw [IntKind.wrap_i64]; omega
    have f1 := hW.frozen 1
    have hbd := (hb.drop u hu).take 8 (by rw [List.length_drop]; omega)
    rw [show u + 8 - u = 8 by omega] at hmid
    generalize (if c = u then A else A.map (·.add u)) = A2 at hmid hbd
    have hsb2 : IntKind.i64.wrap ((u : Int) + 8 - 8) = (u : Int) := by rw [IntKind.wrap_i64]; omega
    have hmid' : ∀ W, (Instr.sliceAt 25 (.slice A b.length c) (some (.int .i64 (u : Int))) (some (.int .i64 ((u : Int) + 8))) none).run Try.prog W = .ok (.slice A2 8 (c - u)) W := hmid
    have HBD := Lib.hid hbd
    have hul : (u : Int) + 8 ≤ (c : Int) := by omega
    clear hmid hbd
    clear hb hW hm hs h hu hlc
    go_enter Try.func78, Try.ntmps78
    go_wp2
    go_quiet (fail)
    have hF := hmv.out nq
    have hB8 : Bytes ((w.drewN nq).setCell ⟨g, 1, none⟩ (.int .i64 ((u : Int) + 8))) (fun x => x < g) (.slice A2 8 (c - u)) ((b.drop u).take 8) := (show Bytes (w.drewN nq) (fun x => x < g) (.slice A2 8 (c - u)) ((b.drop u).take 8) from HBD.out).set (fun x hx e => by have : x = g := e; omega) _
    have HF := Lib.hid hF
    have HB8 := Lib.hid hB8
    clear hF hB8
    go_wp2
    go_quiet (fail)
    go_wp2
    go_ret
    exact ⟨_, _, _, rfl, (show Bytes (((w.drewN _).setCell ⟨g, 1, none⟩ (.int .i64 ((u : Int) + 8))).drewN nq) (fun x => x < g) (.slice A2 8 (c - u)) ((b.drop u).take 8) from HB8.out).mono fun _ _ h => .inl h, by rw [List.length_take, List.length_drop]; omega, rfl, HF.out.after nq⟩
end Go.Proofs.Ytknhnkmooaopmaa
