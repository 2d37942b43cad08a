/-
  KDby
  Where the numbers of a deck lie.
-/
import Derived.Deep.CutBlock
import Derived.Deep.DeepCutAuto
import Derived.Test.YteekdhcffiaaaaaDoorPk11
import Derived.Test.YteekdhcffiaaaaaDoorPk3
namespace Go.Proofs.YteekdhcffiaaaaaDoor
open Go Go.RowKit Sh Leaf

theorem own_oth {g base n s : Nat} {e : TypeId} {w w' : World} {v : Value} {xs : List Value} (h : w.ownsRow base e s v n xs) (ho : Oth g w w') (hb : g < base) : w'.ownsRow base e s v n xs := by
  refine ⟨h.1, ?_⟩
  rcases h.2 with h2 | ⟨b, cap, cur, hv, hbb, hh, r⟩
  · exact .inl h2
  · exact .inr ⟨b, cap, cur, hv, hbb, ho.oth b _ _ (by omega) hh, r⟩
theorem Turn.below {g B : Nat} {a b c : World} (h : Turn g a b) (hb : Below B b c) (hB : g < B) (hs : a.heap.size ≤ B) : Turn g a c := by
  refine ⟨h.1.below hb hB, h.2.1.trans (hb.mono (by omega)), ⟨fun x t cs hx fr hw => ?_, fun v hv => ?_⟩⟩
  · have h1 := h.2.2.oth x t cs hx hw
    rw [hb.block x (by have := lt_of_heap hw; omega)]
    exact h1
  · exact (hb.cell (p := ⟨g, 0, none⟩) hB).trans (h.2.2.zero v hv)
theorem Deck.here {g : Nat} {w w' : World} (h : Deck g w) (hb : Below w.heap.size w w') : Turn g w w' := ⟨h.below hb h.lt, hb.mono (by have := h.lt; omega), Oth.below g hb⟩
set_option linter.unusedSimpArgs false in
set_option maxRecDepth 100000 in
set_option maxHeartbeats 2000000 in
theorem Bytes.oth {g : Nat} {w w' : World} {Q : Nat → Prop} {v : Value} {l : List B8} (h : Bytes w Q v l) (ho : Oth g w w') (hQ : ∀ b, Q b → b ≠ g) : Bytes w' Q v l := by
  obtain ⟨A, c, rfl, h1, h2, h3, h4⟩ := h
  refine ⟨A, c, rfl, h1, h2, h3, fun hl => ?_⟩
  obtain ⟨b, o, hA, hq, hc⟩ := h4 hl
  exact ⟨b, o, hA, hq, fun j x hj => ho.cell (a := ⟨b, o + j, none⟩) (hQ b hq) (hc j x hj)⟩
theorem dbyo (n : Nat) (hn : n ≤ 1000) (g : Nat) (w : World) (h : Deck g w) :
    Calls Tryd.prog 25 #[.pointer (some ⟨g, 0, none⟩), .int .i64 (n : Int)] w fun e w' => (∃ (A : Option Addr) (c : Nat) (l : List B8), l.length ≤ n ∧ e = .returned (.slice A l.length c) ∧ Own w' w.heap.size (.slice A l.length c) l) ∧ Turn g w w' := by
  have hgw := h.lt
  have hnx := dnext ((n : Int) + 1) (by omega) (by omega) g w h
  have hw1 : IntKind.i64.wrap ((n : Int) + 1) = (n : Int) + 1 := by rw [IntKind.wrap_i64]; omega
  clear h
  go_enter Tryd.func25, Tryd.ntmps25
  go_wp2_with fail
  refine hnx.mono ?_
  rintro e w1 ⟨k, hk, rfl, ht⟩
  have HT := Lib.hid ht
  clear hnx hw1 ht
  go_wp2_with fail
  go_loopw [5, 6] (fun bv' v wr => ∃ (j : Nat) (l : List B8), v = .int .i64 j ∧ l.length + j ≤ n ∧ Own wr w.heap.size bv' l ∧ Turn g w wr) (fun _ v _ => (intOf v).toNat)
  case atStart => exact ⟨k, [], rfl, by simp; omega, own_nil _ _, HT.out⟩
  case round =>
    obtain ⟨j, l, rfl, hl, hown, ht⟩ := hrel
    have HTT := Lib.hid ht
    have HO := Lib.hid hown
    by_cases hj : 0 < j
    · have hnx := dnext 256 (by omega) (by omega) g wr ht.1
      have hj0 : (0 : Int) < (j : Int) := by omega
      have hwj : IntKind.i64.wrap ((j : Int) - 1) = ((j - 1 : Nat) : Int) := by rw [IntKind.wrap_i64]; omega
      clear ht hown HT
      go_wp2_with fail
      refine hnx.mono ?_
      rintro e w2 ⟨i, hi, rfl, ht1⟩
      have hown1 := own_oth HO.out ht1.2.2 hgw
      have htw := HTT.out.trans ht1
      have hwi : IntKind.u8.wrap (i : Int) = bv (BitVec.ofNat 8 i) := by rw [bv_lit i (by omega), IntKind.wrap_u8]; omega
      have hws : w.heap.size ≤ w2.heap.size := Nat.le_trans htw.2.1.size (Nat.le_refl _)
      have HO1 := Lib.hid hown1
      have HTW := Lib.hid htw
      clear hnx ht1 hown1 htw
      go_wp2_with (at_builtin; go_must (refine wpList_append_bytes rfl _ _ rfl w.heap.size _ l rfl (HO1.out.alloc _) _ (.slice (some ⟨w2.heap.size, 0, none⟩) 1 1) [BitVec.ofNat 8 i] rfl (bytes_one w2 _ _ rfl) (by simp only [List.length_singleton]; omega) (by simp; omega) ?_); intro v' w' h1 h2)
      have HX : Hid (Turn g w w') := Lib.hid (HTW.out.below (((Below.refl w.heap.size w2).alloc hws _).trans h2) hgw (Nat.le_refl _))
      have HY := Lib.hid h1
      clear h1 h2
      go_roundw
      case rel => exact ⟨j - 1, l ++ [BitVec.ofNat 8 i], rfl, by rw [List.length_append]; simp; omega, HY.out, HX.out⟩
      case measure => simp [intOf]; omega
    · obtain rfl : j = 0 := by omega
      have hby := Bytes.of_own hown
      obtain ⟨A, c, rfl, -⟩ := id hby
      have HBY := Lib.hid hown
      clear ht hown HT hby HO
      go_wp2_with fail
      go_ret
      exact ⟨⟨A, c, l, by omega, rfl, HBY.out⟩, HTT.out⟩
theorem dbytes (n : Nat) (hn : n ≤ 1000) (g : Nat) (w : World) (h : Deck g w) :
    Calls Tryd.prog 25 #[.pointer (some ⟨g, 0, none⟩), .int .i64 (n : Int)] w fun e w' => (∃ (A : Option Addr) (c : Nat) (l : List B8), l.length ≤ n ∧ e = .returned (.slice A l.length c) ∧ Bytes w' (fun b => w.heap.size ≤ b) (.slice A l.length c) l) ∧ Turn g w w' := by
  refine (dbyo n hn g w h).mono ?_
  rintro e w' ⟨⟨A, c, l, h1, h2, h3⟩, h4⟩
  exact ⟨⟨A, c, l, h1, h2, Bytes.of_own h3⟩, h4⟩
end Go.Proofs.YteekdhcffiaaaaaDoor
namespace Go.Proofs.YteekdhcffiaaaaaDoor
open Go Go.RowKit Sh Leaf

theorem World.cell_of_block {w w' : World} {b i : Nat} (h : w'.heap[b]? = w.heap[b]?) : w'.cell? ⟨b, i, none⟩ = w.cell? ⟨b, i, none⟩ := by
  unfold World.cell?
  rw [h]
def DeckIn (Q : Nat → Prop) (g : Nat) (w : World) : Prop := ∃ (A : Option Addr) (n c : Nat), w.cell? ⟨g, 0, none⟩ = some (.slice A n c) ∧ (0 < n → ∃ b o, A = some ⟨b, o, none⟩ ∧ Q b)
theorem DeckIn.oth {Q : Nat → Prop} {g : Nat} {w w' : World} (h : DeckIn Q g w) (ho : Oth g w w') : DeckIn Q g w' := by
  obtain ⟨A, n, c, h1, h2⟩ := h
  exact ⟨A, n, c, ho.zero _ h1, h2⟩
theorem DeckIn.below {Q : Nat → Prop} {g B : Nat} {w w' : World} (h : DeckIn Q g w) (hb : Below B w w') (hg : g < B) : DeckIn Q g w' := by
  obtain ⟨A, n, c, h1, h2⟩ := h
  exact ⟨A, n, c, (hb.cell (p := ⟨g, 0, none⟩) hg).trans h1, h2⟩
/-- A block that is neither the deck's own nor that of its numbers may be written anew. -/
theorem Deck.setRow {Q : Nat → Prop} {g b : Nat} {w : World} (h : Deck g w) (hi : DeckIn Q g w) (hb : b ≠ g) (hQ : ∀ k, Q k → k ≠ b) (cs : Array Value) : Deck g (w.setRow b cs) := by
  obtain ⟨A, c, k, l, hI, hD, hk⟩ := h
  obtain ⟨A', n, c', h1, h2⟩ := hi
  have e := hD.cell 0
  rw [h1] at e
  simp at e
  obtain ⟨rfl, rfl, rfl⟩ := e
  refine ⟨A', c', k, l, ?_, hD.setRow_far (Ne.symm hb) cs, hk⟩
  obtain ⟨i1, i2, i3, i4, i5⟩ := hI
  refine ⟨i1, i2, i3, i4, fun hl => ?_⟩
  obtain ⟨x, o, hA, hx, hs, hc⟩ := i5 hl
  obtain ⟨y, o', hA', hq⟩ := h2 hl
  rw [hA] at hA'
  cases hA'
  refine ⟨x, o, hA, hx, by simpa using hs, fun j z hj => ?_⟩
  rw [← hc j z hj]
  exact World.cell_of_block (setRow_other w b x cs (hQ x hq))
theorem DeckIn.setRow {Q : Nat → Prop} {g b : Nat} {w : World} (hi : DeckIn Q g w) (hb : b ≠ g) (cs : Array Value) : DeckIn Q g (w.setRow b cs) := by
  obtain ⟨A, n, c, h1, h2⟩ := hi
  exact ⟨A, n, c, (World.cell_of_block (setRow_other w b g cs (Ne.symm hb))).trans h1, h2⟩
theorem dnew_in (A : Option Addr) (n c : Nat) (l : List Int) (w : World) (hn : n = l.length) (hI : Ints w (fun b => b < w.heap.size) A c l) (Q : Nat → Prop) (hQ : 0 < n → ∃ b o, A = some ⟨b, o, none⟩ ∧ Q b) :
    Calls Tryd.prog 5 #[.slice A n c] w fun e w' => e = .returned (.pointer (some ⟨w.heap.size, 0, none⟩)) ∧ Deck w.heap.size w' ∧ DeckIn Q w.heap.size w' ∧ Below w.heap.size w w' := by
  subst hn
  refine (deckNew A l.length c w).mono ?_
  rintro e w' ⟨rfl, h1, h2⟩
  exact ⟨rfl, ⟨A, c, 0, l, hI.below h2, h1, Nat.zero_le _⟩, ⟨A, l.length, c, (h1.cell 0).trans rfl, hQ⟩, h2⟩
end Go.Proofs.YteekdhcffiaaaaaDoor
