/-
  Package predicate: the reader's fail, advance, number, name.
-/
import Derived.Deep.QuietTactic
import Derived.Test.YtknhnkmooaopmaaPk0
import Derived.Test.YtknhnkmooaopmaaPk10
import Derived.Test.YtknhnkmooaopmaaPk5
import Derived.Test.YtknhnkmooaopmaaPk15
namespace Go.Proofs.Ytknhnkmooaopmaa
open Go Go.RowKit Sh Leaf

theorem Oth.set (g i : Nat) (w : World) (v : Value) (hi : i ≠ 0 := by first | omega | decide) : Oth g w (w.setCell ⟨g, i, none⟩ v) :=
  ⟨fun b _ _ hb _ h => (heap_setCell_other w ⟨g, i, none⟩ b v hb).trans h, fun u hu => by
    have hne : (⟨g, i, none⟩ : Addr) ≠ ⟨g, 0, none⟩ := fun e => by injection e with _ e; exact hi e
    rw [World.cell?_setCell_other w _ _ v hne]; exact hu⟩
/-- A reader at block g, of the bytes b in blocks below g. -/
def Rdr (g : Nat) (w : World) (b : List B8) (u e : Nat) : Prop := ∃ A c, Bytes w (fun x => x < g) (.slice A b.length c) b ∧ Whole w g 106 #[.slice A b.length c, .int .i64 u, .int .i64 e] ∧ u ≤ b.length
/-- What the first error is. -/
def fste (e e' : Nat) : Nat := if e = 0 then e' else e
theorem Rdr.below {g B : Nat} {w w' : World} {b : List B8} {u e : Nat} (h : Rdr g w b u e) (hb : Below B w w') (hg : g < B) : Rdr g w' b u e := by
  obtain ⟨A, c, h1, h2, h3⟩ := h
  exact ⟨A, c, h1.keep fun x _ hx => hb.block x (by omega), h2.below hb hg, h3⟩
theorem Rdr.lt {g : Nat} {w : World} {b : List B8} {u e : Nat} (h : Rdr g w b u e) : g < w.heap.size := by obtain ⟨A, c, h1, h2, h3⟩ := h; exact h2.lt
/-- What a call of the reader leaves. -/
def Reads (g : Nat) (b : List B8) (u e : Nat) (w w' : World) : Prop := Rdr g w' b u e ∧ Below g w w' ∧ Oth g w w'
theorem Reads.trans {g : Nat} {b : List B8} {u e u' e' : Nat} {w w' w'' : World} (h : Reads g b u e w w') (k : Reads g b u' e' w' w'') : Reads g b u' e' w w'' := ⟨k.1, h.2.1.trans k.2.1, h.2.2.trans k.2.2⟩
theorem Reads.drewN {g : Nat} {b : List B8} {u e n : Nat} {w w' : World} (h : Reads g b u e (w.drewN n) w') : Reads g b u e w w' :=
  ⟨h.1, (below_drewN (Below.refl g w) n).trans h.2.1, ⟨fun x t cs hx _ hw => h.2.2.oth x t cs hx hw, fun v hv => h.2.2.zero v hv⟩⟩
theorem rfail (g : Nat) (b : List B8) (u e e' : Nat) (w : World) (h : Rdr g w b u e) :
    Calls Try.prog 77 #[.pointer (some ⟨g, 0, none⟩), .int .i64 e'] w fun x w' => (∃ v, x = .returned v) ∧ Reads g b u (fste e e') w w' := by
  obtain ⟨A, c, hb, hW, hu⟩ := h
  have c2 := hW.cell 2
  have f2 := hW.frozen 2
  simp only [List.getElem?_toArray, List.getElem?_cons_zero, List.getElem?_cons_succ] at c2
  by_cases he : e = 0
  · subst he
    go_enter Try.func77, Try.ntmps77
    go_wp2
    go_end0
    have hW2 := hW.set 2 (.int .i64 (e' : Int))
    simp only [List.setIfInBounds_toArray, List.set_cons_zero, List.set_cons_succ] at hW2
    exact ⟨⟨_, rfl⟩, ⟨A, c, hb.set (fun x hx e => by have : x = g := e; omega) _, hW2, hu⟩, (Below.refl _ _).setCell (p := ⟨g, 2, none⟩) (Nat.le_refl _) _, Oth.set _ _ _ _⟩
  · have he' : ¬ (e : Int) = 0 := by omega
    go_enter Try.func77, Try.ntmps77
    go_wp2
    go_end0
    exact ⟨⟨_, rfl⟩, ⟨A, c, hb, by unfold fste; rw [if_neg he]; exact hW, hu⟩, Below.refl _ _, Oth.refl _ _⟩
theorem radvance (g : Nat) (b : List B8) (u e k e' : Nat) (hk : u + k ≤ b.length) (w : World) (h : Rdr g w b u e) :
    Calls Try.prog 79 #[.pointer (some ⟨g, 0, none⟩), .int .i64 k, .int .i64 e'] w fun x w' => (∃ v, x = .returned v) ∧ Reads g b (u + k) (fste e e') w w' := by
  have hcl := fun W hW => rfail g b u e e' W hW
  generalize fste e e' = E at hcl ⊢
  go_enter Try.func79, Try.ntmps79
  go_wp2_with fail
  refine (hcl w h).mono ?_
  rintro e1 w1 ⟨⟨v, rfl⟩, h1⟩
  obtain ⟨⟨A, c, hb, hW, hu⟩, hb1, ho1⟩ := id h1
  obtain ⟨A', c', e0, hlc, hcm, -⟩ := id hb
  cases e0
  have c1 := hW.cell 1
  have f1 := hW.frozen 1
  simp only [List.getElem?_toArray, List.getElem?_cons_zero, List.getElem?_cons_succ] at c1
  have hw1 : IntKind.i64.wrap ((u : Int) + k) = (u : Int) + k := by unfold maxLen at hcm; rw [IntKind.wrap_i64]; omega
  have H1 := Lib.hid h1
  clear h1 hcl h hlc hcm hu
  go_wp2
  go_end0
  have hW2 := hW.set 1 (.int .i64 ((u : Int) + k))
  simp only [List.setIfInBounds_toArray, List.set_cons_zero, List.set_cons_succ] at hW2
  rw [show (u : Int) + k = ((u + k : Nat) : Int) by omega] at hW2 ⊢
  exact ⟨⟨_, rfl⟩, ⟨A, c, hb.set (fun x hx e => by have : x = g := e; omega) _, hW2, hk⟩, hb1.setCell (p := ⟨g, 1, none⟩) (Nat.le_refl _) _, ho1.trans (Oth.set _ _ _ _)⟩
theorem rd_le (l : List B8) : (rd l).2.1 ≤ l.length := by
  obtain ⟨⟨n, k, e⟩, h⟩ : ∃ x, x = rd l := ⟨_, rfl⟩
  have h := h.symm
  rw [h]
  by_cases he : e = 0
  · subst he; exact (rd_unique h).1
  · rw [(rd_err h he).2]; exact Nat.zero_le _
set_option maxHeartbeats 1000000 in
theorem rnumber (g : Nat) (b : List B8) (u e : Nat) (w : World) (h : Rdr g w b u e) (n k e1 : Nat) (hr : rd (b.drop u) = (n, k, e1)) :
    Calls Try.prog 74 #[.pointer (some ⟨g, 0, none⟩)] w fun x w' => x = .returned (.int .i64 n) ∧ Reads g b (u + k) (fste e e1) w w' := by
  have hk := rd_le (b.drop u)
  rw [hr] at hk
  simp only [List.length_drop] at hk
  obtain ⟨A, c, hb, hW, hu⟩ := id h
  obtain ⟨A', c', e0, hlc, hcm, -⟩ := id hb
  cases e0
  have hrun := fun W => run_cut_from A b.length c u hu W
  have hbd := hb.drop u hu
  generalize (if c = u then A else A.map (·.add u)) = A2 at hrun hbd
  have hkeep : Hid (∀ W, Below w.heap.size w W → Bytes W (fun x => x < g) (.slice A2 (b.length - u) (c - u)) (b.drop u)) := Lib.hid fun W hW => hbd.below hW (Nat.le_refl _)
  have hrd : Hid (∀ W, Below w.heap.size w W → Calls Try.prog 64 #[.slice A2 (b.length - u) (c - u)] W fun x w' => x = .returned (.tuple #[.int .i64 (n : Int), .int .i64 (k : Int), .int .i64 (e1 : Int)]) ∧ Below w.heap.size w w') := Lib.hid fun W hW => by
    refine (read_ _ _ _ W (hkeep.out W hW)).mono ?_
    rintro x w' ⟨rfl, hb'⟩
    exact ⟨by rw [hr], hW.trans (hb'.mono hW.size)⟩
  have c0 := hW.cell 0
  have c1 := hW.cell 1
  simp only [List.getElem?_toArray, List.getElem?_cons_zero, List.getElem?_cons_succ] at c0 c1
  have H := Lib.hid h
  have hc : Hid (∀ W, Below w.heap.size w W → W.cell? ⟨g, 0, none⟩ = some (.slice A b.length c) ∧ W.cell? ⟨g, 1, none⟩ = some (.int .i64 u)) := Lib.hid fun W hW2 => ⟨(hW2.cell (p := ⟨g, 0, none⟩) hW.lt).trans c0, (hW2.cell (p := ⟨g, 1, none⟩) hW.lt).trans c1⟩
  have had : Hid (∀ W, Below w.heap.size w W → Calls Try.prog 79 #[.pointer (some ⟨g, 0, none⟩), .int .i64 k, .int .i64 e1] W fun x w' => (∃ v, x = .returned v) ∧ Reads g b (u + k) (fste e e1) w w') := Lib.hid fun W hW => by
    refine (radvance g b u e k e1 (by omega) W (h.below hW h.lt)).mono ?_
    rintro x w' ⟨hv, h1, h2, h3⟩
    exact ⟨hv, h1, (hW.mono (Nat.le_of_lt h.lt)).trans h2, (Oth.below g hW).trans h3⟩
  clear h hk hW hr hb hbd hkeep hlc hcm hu
  go_enter Try.func74, Try.ntmps74
  go_wp2
  go_region_held3 (fun w' => w'.cell? ⟨g, 0, none⟩ = some (.slice A b.length c) ∧ w'.cell? ⟨g, 1, none⟩ = some (.int .i64 (u : Int))) (first | exact ⟨c0, c1⟩ | assumption | exact hc.out _ (by assumption) | go_keep)
    (first | (go_at_call 64; refine (hrd.out _ (by repeat (first | exact Below.refl _ _ | refine Below.drew ?_))).mono ?_; rintro e w5 ⟨rfl, hb5⟩; have hc5 := hc.out _ hb5))
  go_wp2_with fail
  refine (had.out _ (by repeat (first | assumption | exact Below.refl _ _ | refine Below.drew ?_))).mono ?_
  rintro x w6 ⟨⟨v, rfl⟩, h6⟩
  have H6 := Lib.hid h6
  clear h6
  go_wp2
  go_ret
  exact ⟨rfl, H6.out⟩
theorem rdf_le (l : List B8) : (rdf l).2.1 ≤ l.length := by
  rcases rdf_cases l with ⟨e, _, h⟩ | ⟨n, k, _, _, _, h1, _, h⟩
  · rw [h]; exact Nat.zero_le _
  · rw [h]; exact h1
set_option maxHeartbeats 1000000 in
theorem rname (g : Nat) (b : List B8) (u e : Nat) (w : World) (h : Rdr g w b u e) (s : List B8) (k e1 : Nat) (hr : rdf (b.drop u) = (s, k, e1)) :
    Calls Try.prog 76 #[.pointer (some ⟨g, 0, none⟩)] w fun x w' => x = .returned (.string (sof s)) ∧ Reads g b (u + k) (fste e e1) w w' := by
  have hk := rdf_le (b.drop u)
  rw [hr] at hk
  simp only [List.length_drop] at hk
  obtain ⟨A, c, hb, hW, hu⟩ := id h
  obtain ⟨A', c', e0, hlc, hcm, -⟩ := id hb
  cases e0
  have hrun := fun W => run_cut_from A b.length c u hu W
  have hbd := hb.drop u hu
  generalize (if c = u then A else A.map (·.add u)) = A2 at hrun hbd
  have hkeep : Hid (∀ W, Below w.heap.size w W → Bytes W (fun x => x < g) (.slice A2 (b.length - u) (c - u)) (b.drop u)) := Lib.hid fun W hW => hbd.below hW (Nat.le_refl _)
  have hrd : Hid (∀ W, Below w.heap.size w W → Calls Try.prog 68 #[.slice A2 (b.length - u) (c - u)] W fun x w' => ∃ v', x = .returned (.tuple #[v', .int .i64 (k : Int), .int .i64 (e1 : Int)]) ∧ Own w' w.heap.size v' s ∧ Below w.heap.size w w') := Lib.hid fun W hW => by
    refine (fread _ _ _ W (hkeep.out W hW)).mono ?_
    rintro x w' ⟨v', rfl, ho, hb'⟩
    rw [hr] at ho
    exact ⟨v', by rw [hr], own_mono ho hW.size, hW.trans (hb'.mono hW.size)⟩
  have c0 := hW.cell 0
  have c1 := hW.cell 1
  simp only [List.getElem?_toArray, List.getElem?_cons_zero, List.getElem?_cons_succ] at c0 c1
  have hc : Hid (∀ W, Below w.heap.size w W → W.cell? ⟨g, 0, none⟩ = some (.slice A b.length c) ∧ W.cell? ⟨g, 1, none⟩ = some (.int .i64 u)) := Lib.hid fun W hW2 => ⟨(hW2.cell (p := ⟨g, 0, none⟩) hW.lt).trans c0, (hW2.cell (p := ⟨g, 1, none⟩) hW.lt).trans c1⟩
  have had : Hid (∀ W v, Own W w.heap.size v s → Below w.heap.size w W → Calls Try.prog 79 #[.pointer (some ⟨g, 0, none⟩), .int .i64 k, .int .i64 e1] W fun x w' => (∃ v, x = .returned v) ∧ Reads g b (u + k) (fste e e1) w w' ∧ Bytes w' (fun _ => True) v s) := Lib.hid fun W v hv hW => by
    refine (radvance g b u e k e1 (by omega) W (h.below hW h.lt)).mono ?_
    rintro x w' ⟨hv', h1, h2, h3⟩
    refine ⟨hv', ⟨h1, (hW.mono (Nat.le_of_lt h.lt)).trans h2, (Oth.below g hW).trans h3⟩, ?_⟩
    rcases hv.2 with ⟨rfl, hn⟩ | ⟨g', cap, cur, rfl, hg', hh, hcc, hm, hs, ht⟩
    · have : s = [] := by rcases s with _ | ⟨x, s⟩ <;> simp_all
      subst this
      exact Bytes.nil _ _
    · have hlt := h.lt
      have hw' : Whole w' g' 5 cur := h3 g' _ _ (by omega) hh
      have : Own w' w.heap.size (.slice (some ⟨g', 0, none⟩) s.length cap) s := ⟨hv.1, .inr ⟨g', cap, cur, rfl, hg', hw', hcc, hm, hs, ht⟩⟩
      exact (Bytes.of_own this).mono fun _ _ _ => trivial
  clear h hk hW hr hb hbd hkeep hlc hcm hu
  go_enter Try.func76, Try.ntmps76
  go_wp2
  go_region_held3 (fun w' => w'.cell? ⟨g, 0, none⟩ = some (.slice A b.length c) ∧ w'.cell? ⟨g, 1, none⟩ = some (.int .i64 (u : Int))) (first | exact ⟨c0, c1⟩ | assumption | exact hc.out _ (by assumption) | go_keep)
    (first | (go_at_call 68; refine (hrd.out _ (by repeat (first | exact Below.refl _ _ | refine Below.drew ?_))).mono ?_; rintro e w5 ⟨v5, rfl, ho5, hb5⟩; have hc5 := hc.out _ hb5))
  go_wp2_with fail
  refine (had.out _ v5 (by first | exact ho5 | exact ho5.drew) (by repeat (first | assumption | exact Below.refl _ _ | refine Below.drew ?_))).mono ?_
  rintro x w6 ⟨⟨v, rfl⟩, h6, hb6⟩
  have hcv := conv_sof hb6
  have H6 := Lib.hid h6
  clear h6 hb6
  go_wp2
  go_ret
  exact ⟨rfl, H6.out⟩
theorem or_mul (m x : Nat) (hm : m < 72057594037927936) (hx : x < 256) : bits .or .u64 ((256 * m : Nat) : Int) (x : Int) = ((256 * m + x : Nat) : Int) := by
  rw [bits_or_u64_nat _ _ (by omega) (by omega)]
  congr 1
  rw [Nat.mul_comm 256 m, ← Nat.shiftLeft_eq m 8, ← Nat.shiftLeft_add_eq_or_of_lt (by omega : x < 2 ^ 8)]
theorem beval_lt7 : ∀ l : List B8, l.length ≤ 7 → beval l < 72057594037927936 := by
  intro l h
  have e : ∀ (l : List B8) (a : Nat), l.foldl (fun a c => 256 * a + c.toNat) a < (a + 1) * 256 ^ l.length := by
    intro l
    induction l with
    | nil => intro a; simp
    | cons x l ih =>
      intro a
      have h1 := ih (256 * a + x.toNat)
      have hx := x.isLt
      have h2 : (256 * a + x.toNat + 1) * 256 ^ l.length ≤ (256 * (a + 1)) * 256 ^ l.length := Nat.mul_le_mul_right _ (by omega)
      rw [List.foldl_cons, List.length_cons, Nat.pow_succ]
      calc _ < _ := h1
        _ ≤ _ := h2
        _ = _ := by rw [Nat.mul_comm 256 (a + 1), Nat.mul_assoc, Nat.mul_comm (256 ^ l.length) 256]
  have h1 := e l 0
  have h2 : 256 ^ l.length ≤ 256 ^ 7 := Nat.pow_le_pow_right (by omega) h
  unfold beval
  omega
/-- The mask at u: its value and the error. -/
def rdm (b : List B8) (u : Nat) : Nat × Nat × Nat := if b.length - u < 8 then (0, 0, 3) else (beval ((b.drop u).take 8), 8, 0)
set_option maxRecDepth 100000 in
set_option maxHeartbeats 2000000 in
theorem rmask (g : Nat) (b : List B8) (u e : Nat) (w : World) (h : Rdr g w b u e) :
    Calls Try.prog 75 #[.pointer (some ⟨g, 0, none⟩)] w fun x w' => x = .returned (.int .u64 ((rdm b u).1 : Int)) ∧ Reads g b (u + (rdm b u).2.1) (fste e (rdm b u).2.2) w w' := by
  obtain ⟨A, c, hb, hW, hu⟩ := id h
  obtain ⟨A', c', e0, hlc, hcm, -⟩ := id hb
  cases e0
  have hrun := fun W => run_cut_from A b.length c u hu W
  have hbd := hb.drop u hu
  generalize (if c = u then A else A.map (·.add u)) = A2 at hrun hbd
  have c0 := hW.cell 0
  have c1 := hW.cell 1
  simp only [List.getElem?_toArray, List.getElem?_cons_zero, List.getElem?_cons_succ] at c0 c1
  by_cases hs : b.length - u < 8
  · have hm : rdm b u = (0, 0, 3) := by unfold rdm; rw [if_pos hs]
    rw [hm]
    have hs' : ((b.length - u : Nat) : Int) < 8 := by omega
    have hfl : ∀ W, Rdr g W b u e → Calls Try.prog 77 #[.pointer (some ⟨g, 0, none⟩), .int .i64 3] W fun x w' => (∃ v, x = .returned v) ∧ Reads g b u (fste e 3) W w' := rfail g b u e 3
    generalize b.length - u = L at hrun hs' hbd hs
    have H := Lib.hid h
    clear hbd hb hW hm hs h hu hlc hcm
    go_enter Try.func75, Try.ntmps75
    go_wp2
    go_quiet (fail)
    go_wp2_with fail
    refine (hfl (w.drewN nq) H.out).mono ?_
    rintro e1 w2 ⟨⟨v, rfl⟩, h2⟩
    have H2 := Lib.hid h2
    clear h2 hfl
    go_wp2
    go_ret
    exact ⟨rfl, H2.out.drewN⟩
  · have hm : rdm b u = (beval ((b.drop u).take 8), 8, 0) := by unfold rdm; rw [if_neg hs]
    rw [hm]
    have hs' : ¬ ((b.length - u : Nat) : Int) < 8 := by omega
    have had : ∀ W, Rdr g W b u e → Calls Try.prog 79 #[.pointer (some ⟨g, 0, none⟩), .int .i64 8, .int .i64 0] W fun x w' => (∃ v, x = .returned v) ∧ Reads g b (u + 8) (fste e 0) W w' := radvance g b u e 8 0 (by omega)
    obtain ⟨A0, c0', e0, hl1, hcm2, -, hcell⟩ := id hbd
    injection e0 with ea eb ec
    subst ea
    subst ec
    obtain ⟨g', o, rfl, hg', hcell⟩ := hcell (by rw [List.length_drop]; omega)
    obtain ⟨R, hR⟩ : ∃ R, R = (b.drop u).take 8 := ⟨_, rfl⟩
    have hRl : R.length = 8 := by rw [hR, List.length_take, List.length_drop]; omega
    have hcl : ∀ k, k < 8 → ∀ n, (w.drewN n).cell? ⟨g', o + k, none⟩ = some (byt (R.getD k 0)) := fun k hk n => by
      have h1 : (b.drop u)[k]? = some (R.getD k 0) := by
        rw [hR, List.getD_eq_getElem?_getD, List.getElem?_take, if_pos hk, List.getElem?_eq_getElem (by rw [List.length_drop]; omega)]
        rfl
      exact hcell k _ h1
    have hto : ∀ W, (Instr.sliceAt 25 (.slice (some ⟨g', o, none⟩) (b.length - u) (c - u)) none (some (.int .i64 8)) none).run Try.prog W = .ok (.slice (some ⟨g', o, none⟩) 8 (c - u)) W := fun W => run_cut_to (some ⟨g', o, none⟩) (b.length - u) (c - u) 8 (by rw [List.length_drop] at hl1; omega) W
    have HR : Hid (beval ((b.drop u).take 8) = beval R) := Lib.hid (by rw [hR])
    have hcu : (c - u : Nat) ≤ 9223372036854775807 := by unfold maxLen at hcm2; omega
    rw [HR.out]
    generalize b.length - u = L at hrun hs' hbd hs hto
    have H := Lib.hid h
    clear hbd hb hW hm hs h hu hlc hcm hR hcell hl1 hcm2 hg' HR eb
    go_enter Try.func75, Try.ntmps75
    go_wp2
    go_quiet (fail)
    go_wp2
    go_loopw [4, 24] (fun a i wr => ∃ k : Nat, k ≤ 8 ∧ a = .int .u64 ((beval (R.take k) : Nat) : Int) ∧ i = .int .i64 (k : Int) ∧ wr = w.drewN nq) (fun _ i _ => (8 - intOf i).toNat)
    case atStart => exact ⟨0, by omega, rfl, rfl, rfl⟩
    case round =>
      obtain ⟨k, hk, rfl, rfl, rfl⟩ := hrel
      by_cases h8 : k = 8
      · subst h8
        have HM : Hid (R.take 8 = R) := Lib.hid (List.take_of_length_le (by omega))
        rw [HM.out]
        go_wp2_with fail
        refine (had (w.drewN nq) H.out).mono ?_
        rintro e1 w2 ⟨⟨v, rfl⟩, h2⟩
        have H2 := Lib.hid h2
        clear h2 had
        go_wp2
        go_ret
        exact ⟨rfl, H2.out.drewN⟩
      · have hk8 : (k : Int) < 8 := by omega
        have hk8n : k < 8 := by omega
        have hc := hcl k hk8n nq
        have hw1 : IntKind.i64.wrap ((k : Int) + 1) = (k : Int) + 1 := by rw [IntKind.wrap_i64]; omega
        have hbk : R.take (k + 1) = R.take k ++ [R.getD k 0] := by
          rw [List.take_add_one, List.getD_eq_getElem?_getD, List.getElem?_eq_getElem (by omega)]
          rfl
        have hbl : beval (R.take k) < 72057594037927936 := by
          have := beval_lt7 (R.take k) (by rw [List.length_take]; omega)
          exact this
        have hsn := beval_snoc (R.take k) (R.getD k 0)
        generalize R.getD k 0 = x at hc hbk hsn
        generalize hM : beval (R.take k) = M at hbl hsn
        have hor := or_mul M x.toNat hbl x.isLt
        have hxb := bv_toNat x
        have hx0 := bv_nonneg x
        have hwx : IntKind.u64.wrap (bv x) = bv x := by rw [IntKind.wrap_u64]; have := bv_le x; omega
        have hwm : IntKind.u64.wrap ((M : Int) * 256) = (M : Int) * 256 := by rw [IntKind.wrap_u64]; omega
        have hor' : bits .or .u64 ((M : Int) * 256) (bv x) = ((256 * M + x.toNat : Nat) : Int) := by rw [← hor, hxb]; congr 1; omega
        have HN : Hid (beval (R.take (k + 1)) = 256 * M + x.toNat) := Lib.hid (by rw [hbk, hsn])
        generalize 256 * M + x.toNat = N at hor' HN hor
        clear hor hxb hbk hsn hbl hM hcl
        go_wp2
        go_roundw
        case rel => exact ⟨k + 1, by omega, by rw [HN.out], by go_num, by first | rfl | trivial⟩
        case measure => simp [intOf]; omega
end Go.Proofs.Ytknhnkmooaopmaa
