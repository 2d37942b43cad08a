/-
  The law of HmacDerive: true, for all arguments.
-/
import Derived.Test.YtbbpdcnmoabooaaDoorHmacDeck
namespace Go.Proofs.YtbbpdcnmoabooaaDoor
open Go Go.RowKit Sh Leaf

theorem wpList_load_wanted {ops : Array Oper} {rest : List Oper} {o : Oper} {a : Act} {w : World} {Q : Exit → Act → World → Prop} (hgd : Region.wanted o (yielded ops a.tmps) = true) (ty : TypeId) (x : Operand) (ho : o.op = .load ty x)
    (g : Nat) (hx : a.eval x = .pointer (some ⟨g, 0, none⟩)) (cs : List Value) (d : TypeDesc) (hc : w.rangeAt g 0 cs)
    (hu : Tryd.prog.underlying ty = some d) (hd : d.isRow = true) (hi : (Tryd.prog.info? ty).map (·.size) = some cs.length)
    (h : wpList Tryd.prog ops Q rest (a.put o.dst (.agg cs.toArray)) w) : wpList Tryd.prog ops Q (o :: rest) a w := by
  show if Region.wanted o (yielded ops a.tmps) then _ else _
  rw [if_pos hgd]
  left
  exact wp_load_mid ty x ho g 0 hx cs d hc hu hd hi h
theorem Whole.range {w : World} {g : Nat} {t : TypeId} {cs : List Value} (h : Whole w g t cs.toArray) : w.rangeAt g 0 cs := fun j v hj => by
  rw [Nat.zero_add, h.cell, List.getElem?_toArray]
  exact hj
theorem Ints.mono {w : World} {b b' : Nat} {A : Option Addr} {c : Nat} {l : List Int} (h : Ints w (fun g => g < b) A c l) (hb : b ≤ b') : Ints w (fun g => g < b') A c l := by
  obtain ⟨h1, h2, h3, h4, h5⟩ := h
  refine ⟨h1, h2, h3, h4, fun hl => ?_⟩
  obtain ⟨g, o, e, hg, hs, hc⟩ := h5 hl
  exact ⟨g, o, e, by omega, hs, hc⟩
theorem der_length {K : List B8} {s : ByteArray} {z : Int} {M : List B8} {E : Int} (h : der K s z = (M, E)) : M.length = 32 := by
  have hM : M = (der K s z).1 := by rw [h]
  subst hM
  unfold der
  split
  · split
    · simp
    · exact sha_length _
  · simp
theorem derive_ (K : List B8) (hK : K.length = 32) (s : ByteArray) (hs : s.size ≤ 1000) (z : Int) (M : List B8) (E : Int) (h : der K s z = (M, E)) (w : World) (hT : Tables w) :
    Calls Tryd.prog 27 #[tagv K, .string s, .int .i64 z] w fun e w' => e = .returned (.tuple #[tagv M, .int .i64 E]) ∧ Below w.heap.size w w' := by
  have := derive K hK s hs z w hT
  rwa [h] at this
theorem ref_derive_ (K : List B8) (hK : K.length = 32) (s : ByteArray) (hs : s.size ≤ 1000) (z : Int) (M : List B8) (E : Int) (h : der K s z = (M, E)) (w : World) :
    Calls Tryd.prog 28 #[tagv K, .string s, .int .i64 z] w fun e w' => e = .returned (.tuple #[tagv M, .int .i64 E]) ∧ Below w.heap.size w w' := by
  have := ref_derive K hK s hs z w
  rwa [h] at this

set_option maxRecDepth 20000 in
set_option maxHeartbeats 4000000 in
theorem der_law (K : List B8) (hK : K.length = 32) (s : ByteArray) (z : Int) (A : Option Addr) (c : Nat) (l : List Int) (w : World) (hI : Ints w (fun _ => True) A c l) (hs : s.size ≤ 9223372036854775807) (hT : Tables w) :
    Calls Tryd.prog 11 #[.agg (K.map byt).toArray, .string s, .int .i64 z, .slice A l.length c] w fun e w' => e = .returned (.bool true) ∧ Below w.heap.size w w' := by
  have HZ : Hid ((Tryd.prog.info? 26).map (·.size) = some 32) := Lib.hid (by kernel_rfl)
  have kK0 : Whole (w.alloc (.cells (K.map byt).toArray 26)) w.heap.size 26 (K.map byt).toArray := Whole.here _ _ _
  have hW0 : Below w.heap.size w (w.alloc (.cells (K.map byt).toArray 26)) := (Below.refl _ _).alloc (Nat.le_refl _) _
  have hJ := hI.within (Nat.le_refl _)
  have HJ := Lib.hid hJ
  have HT := Lib.hid hT
  clear hI hJ hT
  by_cases h100 : (s.size : Int) ≤ 100
  focus
    go_enter Tryd.func11, Tryd.ntmps11
    go_wp2_with (with_reducible refine wpList_load_row rfl 26 _ rfl w.heap.size rfl _ _ _ _ kK0.eq Tryd.underlying26 rfl (by rw [HZ.out]; simp [hK]) ?_)
    have ht : s.size ≤ 1000 := by omega
    generalize s = t at ht ⊢
  rotate_left
  focus
    go_enter Tryd.func11, Tryd.ntmps11
    go_wp2_with (with_reducible refine wpList_load_row rfl 26 _ rfl w.heap.size rfl _ _ _ _ kK0.eq Tryd.underlying26 rfl (by rw [HZ.out]; simp [hK]) ?_)
    have ht : (s.extract 0 100).size ≤ 1000 := by rw [ByteArray.size_extract]; omega
    generalize s.extract 0 100 = t at ht ⊢
  all_goals
    generalize w.alloc (.cells (K.map byt).toArray 26) = W0 at kK0 hW0 ⊢
    obtain ⟨M, E, hME⟩ : ∃ M E, der K t z = (M, E) := ⟨_, _, rfl⟩
    have hM := der_length hME
    have teM := tag_eql M hM
    refine (derive_ K hK t ht z M E hME _ (HT.out.below (Nat.le_refl _) hW0)).mono ?_
    rintro e w1 ⟨rfl, hb1⟩
    have kK1 := kK0.below hb1 kK0.lt
    have hW1 := hW0.trans (hb1.mono hW0.size)
    clear hb1 kK0 hW0
    have n1 : Whole (w1.alloc (.cells #[Value.int .u8 0, Value.int .u8 0, Value.int .u8 0, Value.int .u8 0, Value.int .u8 0, Value.int .u8 0, Value.int .u8 0, Value.int .u8 0, Value.int .u8 0, Value.int .u8 0, Value.int .u8 0, Value.int .u8 0, Value.int .u8 0, Value.int .u8 0, Value.int .u8 0, Value.int .u8 0, Value.int .u8 0, Value.int .u8 0, Value.int .u8 0, Value.int .u8 0, Value.int .u8 0, Value.int .u8 0, Value.int .u8 0, Value.int .u8 0, Value.int .u8 0, Value.int .u8 0, Value.int .u8 0, Value.int .u8 0, Value.int .u8 0, Value.int .u8 0, Value.int .u8 0, Value.int .u8 0] 26)) w1.heap.size 26 #[Value.int .u8 0, Value.int .u8 0, Value.int .u8 0, Value.int .u8 0, Value.int .u8 0, Value.int .u8 0, Value.int .u8 0, Value.int .u8 0, Value.int .u8 0, Value.int .u8 0, Value.int .u8 0, Value.int .u8 0, Value.int .u8 0, Value.int .u8 0, Value.int .u8 0, Value.int .u8 0, Value.int .u8 0, Value.int .u8 0, Value.int .u8 0, Value.int .u8 0, Value.int .u8 0, Value.int .u8 0, Value.int .u8 0, Value.int .u8 0, Value.int .u8 0, Value.int .u8 0, Value.int .u8 0, Value.int .u8 0, Value.int .u8 0, Value.int .u8 0, Value.int .u8 0, Value.int .u8 0] := Whole.here _ _ _
    have r1 := n1.setRow (M.map byt).toArray
    replace kK1 := (kK1.alloc (.cells #[Value.int .u8 0, Value.int .u8 0, Value.int .u8 0, Value.int .u8 0, Value.int .u8 0, Value.int .u8 0, Value.int .u8 0, Value.int .u8 0, Value.int .u8 0, Value.int .u8 0, Value.int .u8 0, Value.int .u8 0, Value.int .u8 0, Value.int .u8 0, Value.int .u8 0, Value.int .u8 0, Value.int .u8 0, Value.int .u8 0, Value.int .u8 0, Value.int .u8 0, Value.int .u8 0, Value.int .u8 0, Value.int .u8 0, Value.int .u8 0, Value.int .u8 0, Value.int .u8 0, Value.int .u8 0, Value.int .u8 0, Value.int .u8 0, Value.int .u8 0, Value.int .u8 0, Value.int .u8 0] 26)).setRow_far (Nat.ne_of_lt kK1.lt) (M.map byt).toArray
    replace hW1 := below_setRow (hW1.alloc hW1.size (.cells #[Value.int .u8 0, Value.int .u8 0, Value.int .u8 0, Value.int .u8 0, Value.int .u8 0, Value.int .u8 0, Value.int .u8 0, Value.int .u8 0, Value.int .u8 0, Value.int .u8 0, Value.int .u8 0, Value.int .u8 0, Value.int .u8 0, Value.int .u8 0, Value.int .u8 0, Value.int .u8 0, Value.int .u8 0, Value.int .u8 0, Value.int .u8 0, Value.int .u8 0, Value.int .u8 0, Value.int .u8 0, Value.int .u8 0, Value.int .u8 0, Value.int .u8 0, Value.int .u8 0, Value.int .u8 0, Value.int .u8 0, Value.int .u8 0, Value.int .u8 0, Value.int .u8 0, Value.int .u8 0] 26)) (g := w1.heap.size) hW1.size (M.map byt).toArray
    go_wp2_with (first | (with_reducible refine wpList_store_row rfl 26 _ _ rfl w1.heap.size _ rfl rfl _ _ n1.eq (by rw [HZ.out]; simp [hM]) (by simp [hM]) (all_oneCell_toArray (byt_one M)) ?_) | (with_reducible refine wpList_load_row rfl 26 _ rfl w.heap.size rfl _ _ _ _ kK1.eq Tryd.underlying26 rfl (by rw [HZ.out]; simp [hK]) ?_))
    clear n1
    generalize World.setRow (w1.alloc (.cells #[Value.int .u8 0, Value.int .u8 0, Value.int .u8 0, Value.int .u8 0, Value.int .u8 0, Value.int .u8 0, Value.int .u8 0, Value.int .u8 0, Value.int .u8 0, Value.int .u8 0, Value.int .u8 0, Value.int .u8 0, Value.int .u8 0, Value.int .u8 0, Value.int .u8 0, Value.int .u8 0, Value.int .u8 0, Value.int .u8 0, Value.int .u8 0, Value.int .u8 0, Value.int .u8 0, Value.int .u8 0, Value.int .u8 0, Value.int .u8 0, Value.int .u8 0, Value.int .u8 0, Value.int .u8 0, Value.int .u8 0, Value.int .u8 0, Value.int .u8 0, Value.int .u8 0, Value.int .u8 0] 26)) w1.heap.size (M.map byt).toArray = W1 at kK1 hW1 r1  ⊢
    refine (ref_derive_ K hK t ht z M E hME _).mono ?_
    rintro e w2 ⟨rfl, hb2⟩
    have kK2 := kK1.below hb2 kK1.lt
    have hW2 := hW1.trans (hb2.mono hW1.size)
    replace r1 := r1.below hb2 r1.lt
    clear hb2 kK1 hW1
    have n2 : Whole (w2.alloc (.cells #[Value.int .u8 0, Value.int .u8 0, Value.int .u8 0, Value.int .u8 0, Value.int .u8 0, Value.int .u8 0, Value.int .u8 0, Value.int .u8 0, Value.int .u8 0, Value.int .u8 0, Value.int .u8 0, Value.int .u8 0, Value.int .u8 0, Value.int .u8 0, Value.int .u8 0, Value.int .u8 0, Value.int .u8 0, Value.int .u8 0, Value.int .u8 0, Value.int .u8 0, Value.int .u8 0, Value.int .u8 0, Value.int .u8 0, Value.int .u8 0, Value.int .u8 0, Value.int .u8 0, Value.int .u8 0, Value.int .u8 0, Value.int .u8 0, Value.int .u8 0, Value.int .u8 0, Value.int .u8 0] 26)) w2.heap.size 26 #[Value.int .u8 0, Value.int .u8 0, Value.int .u8 0, Value.int .u8 0, Value.int .u8 0, Value.int .u8 0, Value.int .u8 0, Value.int .u8 0, Value.int .u8 0, Value.int .u8 0, Value.int .u8 0, Value.int .u8 0, Value.int .u8 0, Value.int .u8 0, Value.int .u8 0, Value.int .u8 0, Value.int .u8 0, Value.int .u8 0, Value.int .u8 0, Value.int .u8 0, Value.int .u8 0, Value.int .u8 0, Value.int .u8 0, Value.int .u8 0, Value.int .u8 0, Value.int .u8 0, Value.int .u8 0, Value.int .u8 0, Value.int .u8 0, Value.int .u8 0, Value.int .u8 0, Value.int .u8 0] := Whole.here _ _ _
    have r2 := n2.setRow (M.map byt).toArray
    replace kK2 := (kK2.alloc (.cells #[Value.int .u8 0, Value.int .u8 0, Value.int .u8 0, Value.int .u8 0, Value.int .u8 0, Value.int .u8 0, Value.int .u8 0, Value.int .u8 0, Value.int .u8 0, Value.int .u8 0, Value.int .u8 0, Value.int .u8 0, Value.int .u8 0, Value.int .u8 0, Value.int .u8 0, Value.int .u8 0, Value.int .u8 0, Value.int .u8 0, Value.int .u8 0, Value.int .u8 0, Value.int .u8 0, Value.int .u8 0, Value.int .u8 0, Value.int .u8 0, Value.int .u8 0, Value.int .u8 0, Value.int .u8 0, Value.int .u8 0, Value.int .u8 0, Value.int .u8 0, Value.int .u8 0, Value.int .u8 0] 26)).setRow_far (Nat.ne_of_lt kK2.lt) (M.map byt).toArray
    replace r1 := (r1.alloc (.cells #[Value.int .u8 0, Value.int .u8 0, Value.int .u8 0, Value.int .u8 0, Value.int .u8 0, Value.int .u8 0, Value.int .u8 0, Value.int .u8 0, Value.int .u8 0, Value.int .u8 0, Value.int .u8 0, Value.int .u8 0, Value.int .u8 0, Value.int .u8 0, Value.int .u8 0, Value.int .u8 0, Value.int .u8 0, Value.int .u8 0, Value.int .u8 0, Value.int .u8 0, Value.int .u8 0, Value.int .u8 0, Value.int .u8 0, Value.int .u8 0, Value.int .u8 0, Value.int .u8 0, Value.int .u8 0, Value.int .u8 0, Value.int .u8 0, Value.int .u8 0, Value.int .u8 0, Value.int .u8 0] 26)).setRow_far (Nat.ne_of_lt r1.lt) (M.map byt).toArray
    replace hW2 := below_setRow (hW2.alloc hW2.size (.cells #[Value.int .u8 0, Value.int .u8 0, Value.int .u8 0, Value.int .u8 0, Value.int .u8 0, Value.int .u8 0, Value.int .u8 0, Value.int .u8 0, Value.int .u8 0, Value.int .u8 0, Value.int .u8 0, Value.int .u8 0, Value.int .u8 0, Value.int .u8 0, Value.int .u8 0, Value.int .u8 0, Value.int .u8 0, Value.int .u8 0, Value.int .u8 0, Value.int .u8 0, Value.int .u8 0, Value.int .u8 0, Value.int .u8 0, Value.int .u8 0, Value.int .u8 0, Value.int .u8 0, Value.int .u8 0, Value.int .u8 0, Value.int .u8 0, Value.int .u8 0, Value.int .u8 0, Value.int .u8 0] 26)) (g := w2.heap.size) hW2.size (M.map byt).toArray
    go_wp2_with (first | (with_reducible refine wpList_store_row rfl 26 _ _ rfl w2.heap.size _ rfl rfl _ _ n2.eq (by rw [HZ.out]; simp [hM]) (by simp [hM]) (all_oneCell_toArray (byt_one M)) ?_))
    clear n2
    generalize World.setRow (w2.alloc (.cells #[Value.int .u8 0, Value.int .u8 0, Value.int .u8 0, Value.int .u8 0, Value.int .u8 0, Value.int .u8 0, Value.int .u8 0, Value.int .u8 0, Value.int .u8 0, Value.int .u8 0, Value.int .u8 0, Value.int .u8 0, Value.int .u8 0, Value.int .u8 0, Value.int .u8 0, Value.int .u8 0, Value.int .u8 0, Value.int .u8 0, Value.int .u8 0, Value.int .u8 0, Value.int .u8 0, Value.int .u8 0, Value.int .u8 0, Value.int .u8 0, Value.int .u8 0, Value.int .u8 0, Value.int .u8 0, Value.int .u8 0, Value.int .u8 0, Value.int .u8 0, Value.int .u8 0, Value.int .u8 0] 26)) w2.heap.size (M.map byt).toArray = W2 at kK2 hW2 r2 r1 ⊢
    have hJ2 := HJ.out.below hW2
    refine (deckNew A l.length c _).mono ?_
    rintro e w3 ⟨rfl, hD3, hb3⟩
    have hJ3 := (hJ2.mono hW2.size).below hb3
    have kK3 := kK2.below hb3 kK2.lt
    have G1 := r1.lt
    have G2 := r2.lt
    replace r1 := r1.below hb3 r1.lt
    replace r2 := r2.below hb3 r2.lt
    have hW3 := hW2.trans (hb3.mono hW2.size)
    have g1 := kK2.lt
    have hg0 := hW2.size
    clear hb3 hJ2 kK2
    go_wp2_with fail
    refine (name W2.heap.size 0 A c l _ hJ3 hD3 (by omega)).mono ?_
    rintro e w4 ⟨u, k4, hu, rfl, hk4, hD4, hb4⟩
    have hJ4 := hJ3.below hb4
    have kK4 := kK3.below hb4 g1
    replace r1 := r1.below hb4 G1
    replace r2 := r2.below hb4 G2
    have hW4 := hW3.trans (hb4.mono hg0)
    clear hb4 hJ3 kK3 hW3 hD3
    go_wp2_with fail
    refine (upto W2.heap.size k4 A c l _ hJ4 hD4 hk4).mono ?_
    rintro e w5 ⟨v, k5, rfl, -, -, hb5⟩
    have kK5 := kK4.below hb5 g1
    replace r1 := r1.below hb5 G1
    replace r2 := r2.below hb5 G2
    have hW5 := hW4.trans (hb5.mono hg0)
    clear hb5 hJ4 kK4 hW4 hD4 hk4
    go_wp2_with (with_reducible refine wpList_load_row rfl 26 _ rfl w.heap.size rfl _ _ _ _ kK5.eq Tryd.underlying26 rfl (by rw [HZ.out]; simp [hK]) ?_)
    obtain ⟨N, F, hNF⟩ : ∃ N F, der K u v = (N, F) := ⟨_, _, rfl⟩
    have hN := der_length hNF
    have teN := tag_eql N hN
    refine (derive_ K hK u hu v N F hNF _ (HT.out.below (Nat.le_refl _) hW5)).mono ?_
    rintro e w6 ⟨rfl, hb6⟩
    have kK6 := kK5.below hb6 kK5.lt
    have hW6 := hW5.trans (hb6.mono hW5.size)
    replace r1 := r1.below hb6 r1.lt
    replace r2 := r2.below hb6 r2.lt
    clear hb6 kK5 hW5
    have n6 : Whole (w6.alloc (.cells #[Value.int .u8 0, Value.int .u8 0, Value.int .u8 0, Value.int .u8 0, Value.int .u8 0, Value.int .u8 0, Value.int .u8 0, Value.int .u8 0, Value.int .u8 0, Value.int .u8 0, Value.int .u8 0, Value.int .u8 0, Value.int .u8 0, Value.int .u8 0, Value.int .u8 0, Value.int .u8 0, Value.int .u8 0, Value.int .u8 0, Value.int .u8 0, Value.int .u8 0, Value.int .u8 0, Value.int .u8 0, Value.int .u8 0, Value.int .u8 0, Value.int .u8 0, Value.int .u8 0, Value.int .u8 0, Value.int .u8 0, Value.int .u8 0, Value.int .u8 0, Value.int .u8 0, Value.int .u8 0] 26)) w6.heap.size 26 #[Value.int .u8 0, Value.int .u8 0, Value.int .u8 0, Value.int .u8 0, Value.int .u8 0, Value.int .u8 0, Value.int .u8 0, Value.int .u8 0, Value.int .u8 0, Value.int .u8 0, Value.int .u8 0, Value.int .u8 0, Value.int .u8 0, Value.int .u8 0, Value.int .u8 0, Value.int .u8 0, Value.int .u8 0, Value.int .u8 0, Value.int .u8 0, Value.int .u8 0, Value.int .u8 0, Value.int .u8 0, Value.int .u8 0, Value.int .u8 0, Value.int .u8 0, Value.int .u8 0, Value.int .u8 0, Value.int .u8 0, Value.int .u8 0, Value.int .u8 0, Value.int .u8 0, Value.int .u8 0] := Whole.here _ _ _
    have r6 := n6.setRow (N.map byt).toArray
    replace kK6 := (kK6.alloc (.cells #[Value.int .u8 0, Value.int .u8 0, Value.int .u8 0, Value.int .u8 0, Value.int .u8 0, Value.int .u8 0, Value.int .u8 0, Value.int .u8 0, Value.int .u8 0, Value.int .u8 0, Value.int .u8 0, Value.int .u8 0, Value.int .u8 0, Value.int .u8 0, Value.int .u8 0, Value.int .u8 0, Value.int .u8 0, Value.int .u8 0, Value.int .u8 0, Value.int .u8 0, Value.int .u8 0, Value.int .u8 0, Value.int .u8 0, Value.int .u8 0, Value.int .u8 0, Value.int .u8 0, Value.int .u8 0, Value.int .u8 0, Value.int .u8 0, Value.int .u8 0, Value.int .u8 0, Value.int .u8 0] 26)).setRow_far (Nat.ne_of_lt kK6.lt) (N.map byt).toArray
    replace r1 := (r1.alloc (.cells #[Value.int .u8 0, Value.int .u8 0, Value.int .u8 0, Value.int .u8 0, Value.int .u8 0, Value.int .u8 0, Value.int .u8 0, Value.int .u8 0, Value.int .u8 0, Value.int .u8 0, Value.int .u8 0, Value.int .u8 0, Value.int .u8 0, Value.int .u8 0, Value.int .u8 0, Value.int .u8 0, Value.int .u8 0, Value.int .u8 0, Value.int .u8 0, Value.int .u8 0, Value.int .u8 0, Value.int .u8 0, Value.int .u8 0, Value.int .u8 0, Value.int .u8 0, Value.int .u8 0, Value.int .u8 0, Value.int .u8 0, Value.int .u8 0, Value.int .u8 0, Value.int .u8 0, Value.int .u8 0] 26)).setRow_far (Nat.ne_of_lt r1.lt) (N.map byt).toArray
    replace r2 := (r2.alloc (.cells #[Value.int .u8 0, Value.int .u8 0, Value.int .u8 0, Value.int .u8 0, Value.int .u8 0, Value.int .u8 0, Value.int .u8 0, Value.int .u8 0, Value.int .u8 0, Value.int .u8 0, Value.int .u8 0, Value.int .u8 0, Value.int .u8 0, Value.int .u8 0, Value.int .u8 0, Value.int .u8 0, Value.int .u8 0, Value.int .u8 0, Value.int .u8 0, Value.int .u8 0, Value.int .u8 0, Value.int .u8 0, Value.int .u8 0, Value.int .u8 0, Value.int .u8 0, Value.int .u8 0, Value.int .u8 0, Value.int .u8 0, Value.int .u8 0, Value.int .u8 0, Value.int .u8 0, Value.int .u8 0] 26)).setRow_far (Nat.ne_of_lt r2.lt) (N.map byt).toArray
    replace hW6 := below_setRow (hW6.alloc hW6.size (.cells #[Value.int .u8 0, Value.int .u8 0, Value.int .u8 0, Value.int .u8 0, Value.int .u8 0, Value.int .u8 0, Value.int .u8 0, Value.int .u8 0, Value.int .u8 0, Value.int .u8 0, Value.int .u8 0, Value.int .u8 0, Value.int .u8 0, Value.int .u8 0, Value.int .u8 0, Value.int .u8 0, Value.int .u8 0, Value.int .u8 0, Value.int .u8 0, Value.int .u8 0, Value.int .u8 0, Value.int .u8 0, Value.int .u8 0, Value.int .u8 0, Value.int .u8 0, Value.int .u8 0, Value.int .u8 0, Value.int .u8 0, Value.int .u8 0, Value.int .u8 0, Value.int .u8 0, Value.int .u8 0] 26)) (g := w6.heap.size) hW6.size (N.map byt).toArray
    go_wp2_with (first | (with_reducible refine wpList_store_row rfl 26 _ _ rfl w6.heap.size _ rfl rfl _ _ n6.eq (by rw [HZ.out]; simp [hN]) (by simp [hN]) (all_oneCell_toArray (byt_one N)) ?_) | (with_reducible refine wpList_load_row rfl 26 _ rfl w.heap.size rfl _ _ _ _ kK6.eq Tryd.underlying26 rfl (by rw [HZ.out]; simp [hK]) ?_))
    clear n6
    generalize World.setRow (w6.alloc (.cells #[Value.int .u8 0, Value.int .u8 0, Value.int .u8 0, Value.int .u8 0, Value.int .u8 0, Value.int .u8 0, Value.int .u8 0, Value.int .u8 0, Value.int .u8 0, Value.int .u8 0, Value.int .u8 0, Value.int .u8 0, Value.int .u8 0, Value.int .u8 0, Value.int .u8 0, Value.int .u8 0, Value.int .u8 0, Value.int .u8 0, Value.int .u8 0, Value.int .u8 0, Value.int .u8 0, Value.int .u8 0, Value.int .u8 0, Value.int .u8 0, Value.int .u8 0, Value.int .u8 0, Value.int .u8 0, Value.int .u8 0, Value.int .u8 0, Value.int .u8 0, Value.int .u8 0, Value.int .u8 0] 26)) w6.heap.size (N.map byt).toArray = W6 at kK6 hW6 r6 r1 r2 ⊢
    refine (ref_derive_ K hK u hu v N F hNF _).mono ?_
    rintro e w7 ⟨rfl, hb7⟩
    have kK7 := kK6.below hb7 kK6.lt
    have hW7 := hW6.trans (hb7.mono hW6.size)
    replace r1 := r1.below hb7 r1.lt
    replace r2 := r2.below hb7 r2.lt
    replace r6 := r6.below hb7 r6.lt
    clear hb7 kK6 hW6
    have n7 : Whole (w7.alloc (.cells #[Value.int .u8 0, Value.int .u8 0, Value.int .u8 0, Value.int .u8 0, Value.int .u8 0, Value.int .u8 0, Value.int .u8 0, Value.int .u8 0, Value.int .u8 0, Value.int .u8 0, Value.int .u8 0, Value.int .u8 0, Value.int .u8 0, Value.int .u8 0, Value.int .u8 0, Value.int .u8 0, Value.int .u8 0, Value.int .u8 0, Value.int .u8 0, Value.int .u8 0, Value.int .u8 0, Value.int .u8 0, Value.int .u8 0, Value.int .u8 0, Value.int .u8 0, Value.int .u8 0, Value.int .u8 0, Value.int .u8 0, Value.int .u8 0, Value.int .u8 0, Value.int .u8 0, Value.int .u8 0] 26)) w7.heap.size 26 #[Value.int .u8 0, Value.int .u8 0, Value.int .u8 0, Value.int .u8 0, Value.int .u8 0, Value.int .u8 0, Value.int .u8 0, Value.int .u8 0, Value.int .u8 0, Value.int .u8 0, Value.int .u8 0, Value.int .u8 0, Value.int .u8 0, Value.int .u8 0, Value.int .u8 0, Value.int .u8 0, Value.int .u8 0, Value.int .u8 0, Value.int .u8 0, Value.int .u8 0, Value.int .u8 0, Value.int .u8 0, Value.int .u8 0, Value.int .u8 0, Value.int .u8 0, Value.int .u8 0, Value.int .u8 0, Value.int .u8 0, Value.int .u8 0, Value.int .u8 0, Value.int .u8 0, Value.int .u8 0] := Whole.here _ _ _
    have r7 := n7.setRow (N.map byt).toArray
    replace kK7 := (kK7.alloc (.cells #[Value.int .u8 0, Value.int .u8 0, Value.int .u8 0, Value.int .u8 0, Value.int .u8 0, Value.int .u8 0, Value.int .u8 0, Value.int .u8 0, Value.int .u8 0, Value.int .u8 0, Value.int .u8 0, Value.int .u8 0, Value.int .u8 0, Value.int .u8 0, Value.int .u8 0, Value.int .u8 0, Value.int .u8 0, Value.int .u8 0, Value.int .u8 0, Value.int .u8 0, Value.int .u8 0, Value.int .u8 0, Value.int .u8 0, Value.int .u8 0, Value.int .u8 0, Value.int .u8 0, Value.int .u8 0, Value.int .u8 0, Value.int .u8 0, Value.int .u8 0, Value.int .u8 0, Value.int .u8 0] 26)).setRow_far (Nat.ne_of_lt kK7.lt) (N.map byt).toArray
    replace r1 := (r1.alloc (.cells #[Value.int .u8 0, Value.int .u8 0, Value.int .u8 0, Value.int .u8 0, Value.int .u8 0, Value.int .u8 0, Value.int .u8 0, Value.int .u8 0, Value.int .u8 0, Value.int .u8 0, Value.int .u8 0, Value.int .u8 0, Value.int .u8 0, Value.int .u8 0, Value.int .u8 0, Value.int .u8 0, Value.int .u8 0, Value.int .u8 0, Value.int .u8 0, Value.int .u8 0, Value.int .u8 0, Value.int .u8 0, Value.int .u8 0, Value.int .u8 0, Value.int .u8 0, Value.int .u8 0, Value.int .u8 0, Value.int .u8 0, Value.int .u8 0, Value.int .u8 0, Value.int .u8 0, Value.int .u8 0] 26)).setRow_far (Nat.ne_of_lt r1.lt) (N.map byt).toArray
    replace r2 := (r2.alloc (.cells #[Value.int .u8 0, Value.int .u8 0, Value.int .u8 0, Value.int .u8 0, Value.int .u8 0, Value.int .u8 0, Value.int .u8 0, Value.int .u8 0, Value.int .u8 0, Value.int .u8 0, Value.int .u8 0, Value.int .u8 0, Value.int .u8 0, Value.int .u8 0, Value.int .u8 0, Value.int .u8 0, Value.int .u8 0, Value.int .u8 0, Value.int .u8 0, Value.int .u8 0, Value.int .u8 0, Value.int .u8 0, Value.int .u8 0, Value.int .u8 0, Value.int .u8 0, Value.int .u8 0, Value.int .u8 0, Value.int .u8 0, Value.int .u8 0, Value.int .u8 0, Value.int .u8 0, Value.int .u8 0] 26)).setRow_far (Nat.ne_of_lt r2.lt) (N.map byt).toArray
    replace r6 := (r6.alloc (.cells #[Value.int .u8 0, Value.int .u8 0, Value.int .u8 0, Value.int .u8 0, Value.int .u8 0, Value.int .u8 0, Value.int .u8 0, Value.int .u8 0, Value.int .u8 0, Value.int .u8 0, Value.int .u8 0, Value.int .u8 0, Value.int .u8 0, Value.int .u8 0, Value.int .u8 0, Value.int .u8 0, Value.int .u8 0, Value.int .u8 0, Value.int .u8 0, Value.int .u8 0, Value.int .u8 0, Value.int .u8 0, Value.int .u8 0, Value.int .u8 0, Value.int .u8 0, Value.int .u8 0, Value.int .u8 0, Value.int .u8 0, Value.int .u8 0, Value.int .u8 0, Value.int .u8 0, Value.int .u8 0] 26)).setRow_far (Nat.ne_of_lt r6.lt) (N.map byt).toArray
    replace hW7 := below_setRow (hW7.alloc hW7.size (.cells #[Value.int .u8 0, Value.int .u8 0, Value.int .u8 0, Value.int .u8 0, Value.int .u8 0, Value.int .u8 0, Value.int .u8 0, Value.int .u8 0, Value.int .u8 0, Value.int .u8 0, Value.int .u8 0, Value.int .u8 0, Value.int .u8 0, Value.int .u8 0, Value.int .u8 0, Value.int .u8 0, Value.int .u8 0, Value.int .u8 0, Value.int .u8 0, Value.int .u8 0, Value.int .u8 0, Value.int .u8 0, Value.int .u8 0, Value.int .u8 0, Value.int .u8 0, Value.int .u8 0, Value.int .u8 0, Value.int .u8 0, Value.int .u8 0, Value.int .u8 0, Value.int .u8 0, Value.int .u8 0] 26)) (g := w7.heap.size) hW7.size (N.map byt).toArray
    go_wp2_with (first | (with_reducible refine wpList_store_row rfl 26 _ _ rfl w7.heap.size _ rfl rfl _ _ n7.eq (by rw [HZ.out]; simp [hN]) (by simp [hN]) (all_oneCell_toArray (byt_one N)) ?_) | (with_reducible refine wpList_load_row rfl 26 _ rfl w1.heap.size rfl _ _ _ _ r1.eq Tryd.underlying26 rfl (by rw [HZ.out]; simp [hM]) ?_) | (with_reducible refine wpList_load_row rfl 26 _ rfl w2.heap.size rfl _ _ _ _ r2.eq Tryd.underlying26 rfl (by rw [HZ.out]; simp [hM]) ?_) | (with_reducible refine wpList_load_wanted (by with_unfolding_all rfl) 26 _ rfl w6.heap.size rfl _ _ r6.range Tryd.underlying26 rfl (by rw [HZ.out]; simp [hN]) ?_) | (with_reducible refine wpList_load_wanted (by with_unfolding_all rfl) 26 _ rfl w7.heap.size rfl _ _ r7.range Tryd.underlying26 rfl (by rw [HZ.out]; simp [hN]) ?_))
    clear n7
    generalize World.setRow (w7.alloc (.cells #[Value.int .u8 0, Value.int .u8 0, Value.int .u8 0, Value.int .u8 0, Value.int .u8 0, Value.int .u8 0, Value.int .u8 0, Value.int .u8 0, Value.int .u8 0, Value.int .u8 0, Value.int .u8 0, Value.int .u8 0, Value.int .u8 0, Value.int .u8 0, Value.int .u8 0, Value.int .u8 0, Value.int .u8 0, Value.int .u8 0, Value.int .u8 0, Value.int .u8 0, Value.int .u8 0, Value.int .u8 0, Value.int .u8 0, Value.int .u8 0, Value.int .u8 0, Value.int .u8 0, Value.int .u8 0, Value.int .u8 0, Value.int .u8 0, Value.int .u8 0, Value.int .u8 0, Value.int .u8 0] 26)) w7.heap.size (N.map byt).toArray = W7 at kK7 hW7 r7 r1 r2 r6 ⊢
    refine (hawake W7 (HT.out.below (Nat.le_refl _) hW7)).mono ?_
    rintro e w8 ⟨rfl, hb8⟩
    go_wp2
    go_ret
    exact ⟨rfl, hW7.trans (hb8.mono hW7.size)⟩
end Go.Proofs.YtbbpdcnmoabooaaDoor
