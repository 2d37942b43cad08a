/-
  KWithin
  KDeck
  KSame
  KDk0
-/
import Derived.BigQuiet
import Derived.Deep.QuietTactic
import Derived.Test.YteekdhcffiaaaaaDoorPk3
import Derived.Test.YteekdhcffiaaaaaDoorPk0
namespace Go.Proofs.YteekdhcffiaaaaaDoor
open Go Go.RowKit Sh Leaf

def Ints (w : World) (Q : Nat → Prop) (A : Option Addr) (c : Nat) (l : List Int) : Prop :=
  l.length ≤ c ∧ c ≤ maxLen ∧ (A = none → c = 0) ∧ (∀ z, z ∈ l → -9223372036854775808 ≤ z ∧ z ≤ 9223372036854775807) ∧ (0 < l.length → ∃ g o, A = some ⟨g, o, none⟩ ∧ Q g ∧ g < w.heap.size ∧ ∀ (j : Nat) (x : Int), l[j]? = some x → w.cell? ⟨g, o + j, none⟩ = some (.int .i64 x))
theorem Ints.below {w w' : World} {b : Nat} {A : Option Addr} {c : Nat} {l : List Int} (h : Ints w (fun g => g < b) A c l) (hb : Below b w w') : Ints w' (fun g => g < b) A c l := by
  obtain ⟨h1, h2, h3, h4, h5⟩ := h
  refine ⟨h1, h2, h3, h4, fun hl => ?_⟩
  obtain ⟨g, o, e, hg, hs, hc⟩ := h5 hl
  exact ⟨g, o, e, hg, by have := hb.size; omega, fun j x hj => (hb.cell (p := ⟨g, o + j, none⟩) hg).trans (hc j x hj)⟩
theorem Ints.within {w : World} {b : Nat} {Q : Nat → Prop} {A : Option Addr} {c : Nat} {l : List Int} (h : Ints w Q A c l) (hb : w.heap.size ≤ b) : Ints w (fun g => g < b) A c l := by
  obtain ⟨h1, h2, h3, h4, h5⟩ := h
  refine ⟨h1, h2, h3, h4, fun hl => ?_⟩
  obtain ⟨g, o, e, _, hs, hc⟩ := h5 hl
  exact ⟨g, o, e, by omega, hs, hc⟩
theorem Ints.mono {w : World} {b b' : Nat} {A : Option Addr} {c : Nat} {l : List Int} (h : Ints w (fun g => g < b) A c l) (hb : b ≤ b') : Ints w (fun g => g < b') A c l := by
  obtain ⟨h1, h2, h3, h4, h5⟩ := h
  refine ⟨h1, h2, h3, h4, fun hl => ?_⟩
  obtain ⟨g, o, e, hg, hs, hc⟩ := h5 hl
  exact ⟨g, o, e, by omega, hs, hc⟩
theorem within_ (x n : Int) (h0 : 0 < n) (h1 : n ≤ 1152921504606846976) (_ : -9223372036854775808 ≤ x ∧ x ≤ 9223372036854775807) (w : World) :
    Calls Tryd.prog 18 #[.int .i64 x, .int .i64 n] w fun e w' => (∃ i : Nat, (i : Int) < n ∧ e = .returned (.int .i64 i)) ∧ w' = w := by
  have hlo : -n < x.tmod n := by
    have := Int.tmod_lt_of_pos (-x) h0
    rw [Int.neg_tmod] at this
    omega
  have hhi : x.tmod n < n := Int.tmod_lt_of_pos x h0
  obtain ⟨r, hr⟩ : ∃ r, r = x.tmod n := ⟨_, rfl⟩
  rw [← hr] at hlo hhi
  have h2 : (r + n).tmod n = (r + n) % n := Int.tmod_eq_emod_of_nonneg (by omega)
  have h3 := Int.emod_nonneg (r + n) (by omega : n ≠ 0)
  have h4 := Int.emod_lt_of_pos (r + n) h0
  go_enter Tryd.func18, Tryd.ntmps18
  go_wp2
  rw [hr] at h3 h4
  go_ret
  exact ⟨⟨((x.tmod n + n) % n).toNat, by omega, by rw [Int.toNat_of_nonneg h3]; rfl⟩, rfl⟩
end Go.Proofs.YteekdhcffiaaaaaDoor
namespace Go.Proofs.YteekdhcffiaaaaaDoor
open Go Go.RowKit Sh Leaf

set_option maxHeartbeats 1000000 in
theorem next (g : Nat) (k : Nat) (n : Int) (h0 : 0 < n) (h1 : n ≤ 1152921504606846976) (A : Option Addr) (c : Nat) (l : List Int) (w : World) (hI : Ints w (fun b => b < g) A c l) (hD : Whole w g 59 #[.slice A l.length c, .int .i64 k]) (hk : k ≤ l.length) :
    Calls Tryd.prog 15 #[.pointer (some ⟨g, 0, none⟩), .int .i64 n] w fun e w' => ∃ i k' : Nat, (i : Int) < n ∧ e = .returned (.int .i64 i) ∧ k' ≤ l.length ∧ Whole w' g 59 #[.slice A l.length c, .int .i64 k'] ∧ Below g w w' ∧ Oth g w w' := by
  obtain ⟨hlc, hcm, hA, hz, hrow⟩ := id hI
  have hm : c ≤ 9223372036854775807 := by unfold maxLen at hcm; omega
  have hc0 := hD.cell 0
  have hc1 := hD.cell 1
  have hf1 := hD.frozen 1
  simp only [List.getElem?_toArray, List.getElem?_cons_zero, List.getElem?_cons_succ] at hc0 hc1
  by_cases hkl : k = l.length
  focus
    have hle : (l.length : Int) ≤ (k : Int) := by omega
    go_enter Tryd.func15, Tryd.ntmps15
    go_wp2
    go_quiet (fail)
    go_wp2
    go_ret
    exact ⟨0, k, h0, rfl, hk, hD, below_drewN (Below.refl _ _) nq, ⟨fun _ _ _ _ _ h => h, fun _ h => h⟩⟩
  have hle : ¬ (l.length : Int) ≤ (k : Int) := by omega
  have hw1 : IntKind.i64.wrap ((k : Int) + 1) = (k : Int) + 1 := by rw [IntKind.wrap_i64]; omega
  have hw2 : IntKind.i64.wrap ((k : Int) + 1 - 1) = (k : Int) := by rw [IntKind.wrap_i64]; omega
  have hk1 : (k : Int) < (l.length : Int) := by omega
  have hk0 : (0 : Int) ≤ (k : Int) := by omega
  have hw3 : IntKind.i64.wrap (k : Int) = (k : Int) := by rw [IntKind.wrap_i64]; omega
  have hk2 : ¬ (k : Int) < 0 := by omega
  have hkn : k < l.length := by omega
  obtain ⟨b, o, rfl, hb, hbs, hcl⟩ := hrow (by omega)
  have hx := hcl k l[k] (List.getElem?_eq_getElem (by omega))
  have hzx := hz l[k] (List.getElem_mem _)
  generalize l[k] = x at hx hzx
  go_enter Tryd.func15, Tryd.ntmps15
  go_wp2
  go_quiet (fail)
  go_wp2
  have HB : Hid (Below g w ((w.drewN nq).setCell ⟨g, 1, none⟩ (.int .i64 ((k : Int) + 1)))) := Lib.hid ((below_drewN (Below.refl _ _) nq).setCell (p := ⟨g, 1, none⟩) (Nat.le_refl _) _)
  have hD1 := (hD.drewN nq).set 1 (.int .i64 ((k : Int) + 1))
  have hd0 := hD1.cell 0
  have hd1 := hD1.cell 1
  have hd2 := (HB.out.cell (p := ⟨b, o + k, none⟩) hb).trans hx
  have HD1 : Hid (Whole ((w.drewN nq).setCell ⟨g, 1, none⟩ (.int .i64 ((k : Int) + 1))) g 59 #[.slice (some ⟨b, o, none⟩) l.length c, .int .i64 ((k : Int) + 1)]) := Lib.hid hD1
  simp only [List.getElem?_toArray, List.getElem?_cons_zero, List.getElem?_cons_succ, List.setIfInBounds_toArray, List.set_cons_zero, List.set_cons_succ] at hd0 hd1
  have HF : Hid (Oth g w ((w.drewN nq).setCell ⟨g, 1, none⟩ (.int .i64 ((k : Int) + 1)))) := Lib.hid ⟨fun b _ _ hb _ h => (heap_setCell_other (w.drewN nq) ⟨g, 1, none⟩ b (.int .i64 ((k : Int) + 1)) hb).trans h, fun v hv => by rw [hc0] at hv; cases hv; exact hd0⟩
  clear hD1
  generalize (w.drewN nq).setCell ⟨g, 1, none⟩ (.int .i64 ((k : Int) + 1)) = W1 at HB HD1 HF hd0 hd1 hd2 ⊢
  clear hc0 hc1 hf1 hI hD hrow hcl hx
  go_region_held3 (fun w' => w'.cell? ⟨g, 0, none⟩ = some (.slice (some ⟨b, o, none⟩) l.length c) ∧ w'.cell? ⟨g, 1, none⟩ = some (.int .i64 ((k : Int) + 1)) ∧ w'.cell? ⟨b, o + k, none⟩ = some (.int .i64 x))
    (first | (exact ⟨hd0, hd1, hd2⟩) | go_keep)
    (first | (go_at_call 18; refine (within_ x n h0 h1 hzx _).mono ?_; rintro e w5 ⟨⟨i, hi, rfl⟩, rfl⟩))
  go_wp2
  go_ret
  refine ⟨i, k + 1, hi, rfl, hkn, ?_, HB.out.drew, HF.out.drew⟩
  have h := HD1.out
  rw [show (k : Int) + 1 = ((k + 1 : Nat) : Int) by omega] at h
  exact h
theorem deckNew (A : Option Addr) (n c : Nat) (w : World) :
    Calls Tryd.prog 5 #[.slice A n c] w fun e w' => e = .returned (.pointer (some ⟨w.heap.size, 0, none⟩)) ∧ Whole w' w.heap.size 59 #[.slice A n c, .int .i64 ((0 : Nat) : Int)] ∧ Below w.heap.size w w' := by
  go_enter Tryd.func5, Tryd.ntmps5
  go_wp2
  go_ret
  exact ⟨rfl, Whole.here _ _ _, (Below.refl _ _).alloc (Nat.le_refl _) _⟩
end Go.Proofs.YteekdhcffiaaaaaDoor
namespace Go.Proofs.YteekdhcffiaaaaaDoor
open Go Go.RowKit Sh Leaf

set_option maxHeartbeats 1000000 in
theorem same_ (va vb : Value) (a b : List B8) (Q Q' : Nat → Prop) (w : World) (ha : Bytes w Q va a) (hb : Bytes w Q' vb b) (hal : a.length ≤ 1000000) (hbl : b.length ≤ 1000000) :
    Calls Tryd.prog 31 #[va, vb] w fun e w' => e = .returned (.bool (decide (a = b))) ∧ Below w.heap.size w w' := by
  obtain ⟨A, c, rfl, -⟩ := id ha
  obtain ⟨B, d, rfl, -⟩ := id hb
  by_cases hlen : a.length = b.length
  · go_enter Tryd.func31, Tryd.ntmps31
    go_wp2
    go_loopw [5] (fun vi wr => ∃ k : Nat, k ≤ a.length ∧ vi = .int .i64 k ∧ a.take k = b.take k ∧ Below w.heap.size w wr) (fun vi _ => a.length - (intOf vi).toNat)
    case atStart => exact ⟨0, by omega, rfl, by simp, Below.refl _ _⟩
    case round =>
      obtain ⟨k, hk, rfl, hx, hbw⟩ := hrel
      by_cases hlt : k < a.length
      · obtain ⟨A1, c1, e1, -, -, -, h4⟩ := id ha
        cases e1
        obtain ⟨g, o, rfl, _, hcell⟩ := h4 (by omega)
        obtain ⟨B1, d1, e2, -, -, -, h5⟩ := id hb
        cases e2
        obtain ⟨g', o', rfl, _, hcell'⟩ := h5 (by omega)
        have hc := hcell k a[k] (List.getElem?_eq_getElem hlt)
        have hc' := hcell' k b[k] (List.getElem?_eq_getElem (by omega))
        have hgl : g < w.heap.size := block_lt_of_cell hc
        have hgl' : g' < w.heap.size := block_lt_of_cell hc'
        have hd : wr.cell? ⟨g, o + k, none⟩ = some (byt a[k]) := (hbw.cell (p := ⟨g, o + k, none⟩) hgl).trans hc
        have hd' : wr.cell? ⟨g', o' + k, none⟩ = some (byt b[k]) := (hbw.cell (p := ⟨g', o' + k, none⟩) hgl').trans hc'
        have hkb : k < b.length := by omega
        have HX := Lib.hid hx
        clear hx hc hc' hcell hcell' h4 h5
        by_cases he : a[k] = b[k]
        · have he' : bv a[k] = bv b[k] := by rw [he]
          have hn : a.take (k + 1) = b.take (k + 1) := by
            rw [List.take_add_one, List.take_add_one, List.getElem?_eq_getElem hlt, List.getElem?_eq_getElem hkb, HX.out, he]
          have HN := Lib.hid hn
          clear hn he
          go_wp2
          go_quiet (fail)
          go_wp2
          go_roundw
          case rel => exact ⟨k + 1, by omega, by go_num, HN.out, below_drewN hbw _⟩
          case measure => simp [intOf]; omega
        · have he' : ¬ bv a[k] = bv b[k] := fun h => he (bv_inj h)
          have hne : decide (a = b) = false := by
            rw [decide_eq_false_iff_not]
            rintro rfl
            exact he rfl
          have HN := Lib.hid hne
          clear hne he
          go_wp2
          go_quiet (fail)
          go_wp2
          go_ret
          exact ⟨by rw [HN.out]; rfl, below_drewN hbw _⟩
      · have hk2 : k = a.length := by omega
        have hk3 : ¬ k < b.length := by omega
        have hx' : decide (a = b) = true := by
          have e1 : a.take k = a := by rw [hk2]; exact List.take_length
          have e2 : b.take k = b := by rw [hk2, hlen]; exact List.take_length
          rw [e1, e2] at hx
          simpa using hx
        have HN := Lib.hid hx'
        clear hx hx'
        go_wp2
        go_ret
        exact ⟨by rw [HN.out]; rfl, hbw⟩
  · have hne : decide (a = b) = false := by
      rw [decide_eq_false_iff_not]
      intro h
      exact hlen (by rw [h])
    go_enter Tryd.func31, Tryd.ntmps31
    go_wp2
    go_ret
    exact ⟨by rw [hne]; rfl, Below.refl _ _⟩
end Go.Proofs.YteekdhcffiaaaaaDoor
namespace Go.Proofs.YteekdhcffiaaaaaDoor
open Go Go.RowKit Sh Leaf

def Deck (g : Nat) (w : World) : Prop := ∃ (A : Option Addr) (c k : Nat) (l : List Int), Ints w (fun b => b < g) A c l ∧ Whole w g 59 #[.slice A l.length c, .int .i64 k] ∧ k ≤ l.length
def Turn (g : Nat) (w w' : World) : Prop := Deck g w' ∧ Below g w w' ∧ Oth g w w'
theorem Turn.trans {g : Nat} {a b c : World} (h : Turn g a b) (k : Turn g b c) : Turn g a c := ⟨k.1, h.2.1.trans k.2.1, h.2.2.trans k.2.2⟩
theorem Deck.lt {g : Nat} {w : World} (h : Deck g w) : g < w.heap.size := by obtain ⟨A, c, k, l, _, h, _⟩ := h; exact h.lt
theorem Deck.refl {g : Nat} {w : World} (h : Deck g w) : Turn g w w := ⟨h, Below.refl _ _, Oth.refl _ _⟩
theorem Deck.below {g B : Nat} {w w' : World} (h : Deck g w) (hb : Below B w w') (hg : g < B) : Deck g w' := by
  obtain ⟨A, c, k, l, h1, h2, h3⟩ := h
  exact ⟨A, c, k, l, h1.below (hb.mono (by omega)), h2.below hb hg, h3⟩
theorem Deck.alloc {g : Nat} {w : World} (h : Deck g w) (o : Obj) : Deck g (w.alloc o) := h.below ((Below.refl w.heap.size w).alloc (Nat.le_refl _) o) h.lt
theorem Deck.drew {g : Nat} {w : World} (h : Deck g w) : Deck g w.drew := by
  obtain ⟨A, c, k, l, h1, h2, h3⟩ := h
  exact ⟨A, c, k, l, h1, h2, h3⟩
def TurnZ (P : Int → Prop) (g : Nat) (w : World) (e : Ending) (w' : World) : Prop := ∃ z : Int, P z ∧ e = .returned (.int .i64 z) ∧ Turn g w w'
theorem TurnZ.mk {P : Int → Prop} {g : Nat} {w w' : World} {e : Ending} (z : Int) (hz : P z) (he : e = .returned (.int .i64 z)) (h : Turn g w w') : TurnZ P g w e w' := ⟨z, hz, he, h⟩
theorem dnew (A : Option Addr) (n c : Nat) (l : List Int) (w : World) (hn : n = l.length) (hI : Ints w (fun b => b < w.heap.size) A c l) :
    Calls Tryd.prog 5 #[.slice A n c] w fun e w' => e = .returned (.pointer (some ⟨w.heap.size, 0, none⟩)) ∧ Deck w.heap.size w' ∧ Below w.heap.size w w' := by
  subst hn
  refine (deckNew A l.length c w).mono ?_
  rintro e w' ⟨rfl, h1, h2⟩
  exact ⟨rfl, ⟨A, c, 0, l, hI.below h2, h1, Nat.zero_le _⟩, h2⟩
theorem dnext (n : Int) (h0 : 0 < n) (h1 : n ≤ 1152921504606846976) (g : Nat) (w : World) (h : Deck g w) :
    Calls Tryd.prog 15 #[.pointer (some ⟨g, 0, none⟩), .int .i64 n] w fun e w' => ∃ i : Nat, (i : Int) < n ∧ e = .returned (.int .i64 i) ∧ Turn g w w' := by
  obtain ⟨A, c, k, l, hI, hD, hk⟩ := h
  refine (next g k n h0 h1 A c l w hI hD hk).mono ?_
  rintro e w' ⟨i, k', hi, rfl, hk', hD', hb, hf⟩
  exact ⟨i, hi, rfl, ⟨A, c, k', l, hI.below hb, hD', hk'⟩, hb, hf⟩
end Go.Proofs.YteekdhcffiaaaaaDoor
