/-
  strings.SplitSeq at one byte: its iterator, for every body.
  Package predicate: parseMask.
-/
import Derived.RangeFuncBound
import Derived.RangeFuncCalls
import Derived.RangeFuncLeaves
import Derived.RangeFuncBox
import Derived.Shelf.Abstract
import Derived.Shelf.RegionOpen
import Derived.OwnWalkIn
import Derived.TacticsInMore
import Derived.LoopNIn
import Derived.LoopIn
import Derived.Test.YtpodgmmgphibfaaDoorPk5
import Derived.Test.YtpodgmmgphibfaaDoorPk15
import Derived.Test.YtpodgmmgphibfaaDoorPk3
namespace Go.Proofs.YtpodgmmgphibfaaDoor
open Go Go.RowKit Sh Leaf
open Go.Shelf
attribute [local go_sem] Oper.semAt_some

/-- The length of the string in a box. -/
@[irreducible] def slen (W : World) (g : Nat) : Nat := match W.cell? ⟨g, 0, none⟩ with | some (.string s) => s.size | _ => 0
theorem slen_of {W : World} {g : Nat} {l : List B8} (h : W.cell? ⟨g, 0, none⟩ = some (.string (sof l))) : slen W g = l.length := by unfold slen; rw [h]; exact sof_size l
/-- The three boxes of the iterator. -/
def Boxes (g : Nat) (A C : World) : Prop := A.heap.size ≤ C.heap.size ∧ C.heap[g]? = A.heap[g]? ∧ C.heap[g + 1]? = A.heap[g + 1]? ∧ C.heap[g + 2]? = A.heap[g + 2]?
theorem cell_kept {A C : World} {g : Nat} {v : Value} (h : C.heap[g]? = A.heap[g]?) (e : A.cell? ⟨g, 0, none⟩ = some v) : C.cell? ⟨g, 0, none⟩ = some v := (World.cell?_of_block (a := ⟨g, 0, none⟩) h).trans e

set_option maxRecDepth 100000 in
set_option maxHeartbeats 2000000 in
theorem split1 (n : Nat) (hn : 1 ≤ n) (l g : Nat) (s : List B8) (hs : s.length ≤ 100000) (J Jx : List (List B8) → World → Prop) (mJ : Moves g J)
    (hY : ∀ pre x W1, J pre W1 → x.length ≤ s.length → YieldAt Fence.wide (n - 1) Tryd.prog l #[.string (sof x)] W1 fun e W' => (e = .returned (.bool true) ∧ J (pre ++ [x]) W' ∧ Boxes g W1 W') ∨ (e = .returned (.bool false) ∧ Jx (pre ++ [x]) W'))
    (W : World) (hW0 : Whole W g 9 #[.string (sof s)]) (hW1 : Whole W (g + 1) 9 #[.string ⟨#[44]⟩]) (hW2 : Whole W (g + 2) 3 #[.int .i64 0]) (h0 : J [] W) :
    CallsIn Fence.wide n Tryd.prog 105 #[.func (.yield l) #[] #[], .pointer (some ⟨g + 1, 0, none⟩), .pointer (some ⟨g, 0, none⟩), .pointer (some ⟨g + 2, 0, none⟩)] W fun e W' => (∃ v, e = .returned v) ∧ ((∃ xs, xs = spl 44 s ∧ J xs W') ∨ (∃ pre, (∃ t, pre ++ t = spl 44 s) ∧ Jx pre W')) := by
  have hc1 := hW1.cell 0
  have hc0 := hW0.cell 0
  have hc2 := hW2.cell 0
  simp only [List.getElem?_toArray, List.getElem?_cons_zero] at hc0 hc1 hc2
  refine callsIn_of_wp Tryd.func105 rfl trivial ?_ rfl
  simp only [Tryd.ntmps105, List.size_toArray, List.length_cons, List.length_nil, Nat.reduceAdd, Nat.reduceSub, Array.replicate_succ, Array.replicate_zero, List.push_toArray, List.append_toArray, List.nil_append, List.cons_append]
  gi_wp2
  gi_loopw [7] (fun _ wr => ∃ (pre : List (List B8)) (rest : List B8), Whole wr g 9 #[.string (sof rest)] ∧ Whole wr (g + 1) 9 #[.string ⟨#[44]⟩] ∧ Whole wr (g + 2) 3 #[.int .i64 0] ∧ Hid (pre ++ spl 44 rest = spl 44 s) ∧ rest.length ≤ s.length ∧ J pre wr) (fun _ wr => slen wr g)
  case atStart => exact ⟨[], s, hW0, hW1, hW2, Lib.hid rfl, Nat.le_refl _, h0⟩
  case round =>
    clear hc0 hc1 hc2 hW0 hW1 hW2 h0
    obtain ⟨pre, rest, hW0, hW1, hW2, HP, hrl, hJ⟩ := hrel
    have hc1 := hW1.cell 0
    have hc0 := hW0.cell 0
    have hc2 := hW2.cell 0
    simp only [List.getElem?_toArray, List.getElem?_cons_zero] at hc0 hc1 hc2
    have hix := fun W => Tryd.strings_Index_one (sof rest) 44 W
    rw [sof_data] at hix
    rcases cut1_cases 44 rest with ⟨a, b, rfl, ha, -⟩ | ⟨hno, -⟩
    · have e1 : Lib.indexByte (u8l (a ++ 44 :: b)) 44 = (a.length : Int) := indexByte_at 44 a b ha
      rw [e1] at hix
      have hsp := spl_at (c := 44) a b ha
      have hLl : (a ++ 44 :: b).length = a.length + b.length + 1 := by simp; omega
      obtain ⟨L, hL⟩ : ∃ L, L = a ++ 44 :: b := ⟨_, rfl⟩
      have ht : L.take a.length = a := by rw [hL]; simp
      have hd : L.drop (a.length + 1) = b := by rw [hL, List.drop_append]; simp
      rw [← hL] at hW0 HP hrl hc0 hix hsp hLl
      have hs1 := to_sof L (a.length : Int) a.length rfl (by omega)
      have hs2 := from_sof L ((a.length : Int) + 1) (a.length + 1) (by omega) (by omega)
      rw [ht] at hs1
      rw [hd] at hs2
      rw [hsp] at HP
      have hal : a.length ≤ s.length := by omega
      have hbl : b.length < L.length := by omega
      have hab : a.length ≤ 100000 := by omega
      obtain ⟨fn, tmps, assign, body, hy, hR⟩ := hY pre a wr hJ hal
      have HY := Lib.hid hY
      have HS := Lib.hid hs2
      have HM := Lib.hid (slen_of hc0)
      have HB := Lib.hid hbl
      have HRL := Lib.hid hrl
      have H0 := Lib.hid hW0
      have H1 := Lib.hid hW1
      have H2 := Lib.hid hW2
      clear hL ht hd hsp hLl hY hJ e1 hbl hrl ha hal hW0 hW1 hW2 hs2
      generalize hN : a.length = N at *
      gi_wp2_with (refine ⟨trivial, ?_⟩; gi_at_call 107; refine (callsIn_wide.2 (hix _)).mono ?_; rintro e1 w1 ⟨rfl, rfl⟩)
      refine hR.mono ?_
      rintro e2 W3 (⟨rfl, hJ3, hk3⟩ | ⟨rfl, hJx3⟩)
      · have hW0 : Whole W3 g 9 #[.string (sof L)] := hk3.2.1.trans H0.out
        have hW1 : Whole W3 (g + 1) 9 #[.string ⟨#[44]⟩] := hk3.2.2.1.trans H1.out
        have hW2 : Whole W3 (g + 2) 3 #[.int .i64 0] := hk3.2.2.2.trans H2.out
        have hd1 := hW1.cell 0
        have hd0 := hW0.cell 0
        have hf0 := hW0.frozen 0
        simp only [List.getElem?_toArray, List.getElem?_cons_zero] at hd0 hd1
        have hs2 := HS.out
        have K0 := Lib.hid (hW0.set 0 (.string (sof b)))
        have K1 := Lib.hid (hW1.far (a := ⟨g, 0, none⟩) (by show g + 1 ≠ g; omega) (.string (sof b)))
        have K2 := Lib.hid (hW2.far (a := ⟨g, 0, none⟩) (by show g + 2 ≠ g; omega) (.string (sof b)))
        have KJ := Lib.hid (mJ _ _ (.string (sof b)) hJ3)
        clear hW0 hW1 hW2 hJ3 hk3 hc0 hc1 hc2
        gi_wp2
        have K00 : Whole (W3.setCell ⟨g, 0, none⟩ (.string (sof b))) g 9 #[.string (sof b)] := by
          have := K0.out
          simp only [List.setIfInBounds_toArray, List.set_cons_zero] at this
          exact this
        refine ⟨⟨pre ++ [a], b, K00, K1.out, K2.out, Lib.hid (by rw [← HP.out]; simp), (by have := HB.out; have := HRL.out; omega), KJ.out⟩, ?_⟩
        have hcell := K00.cell 0
        simp only [List.getElem?_toArray, List.getElem?_cons_zero] at hcell
        rw [slen_of hcell, HM.out]
        exact HB.out
      · gi_wp2
        refine bodyPost_ret (results_none rfl _ _ _) rfl ?_
        exact ⟨⟨_, rfl⟩, .inr ⟨_, ⟨spl 44 b, by rw [← HP.out]; simp⟩, hJx3⟩⟩
    · have e1 : Lib.indexByte (u8l rest) 44 = -1 := indexByte_none 44 rest hno
      rw [e1] at hix
      have hsp := spl_none rest hno
      rw [hsp] at HP
      obtain ⟨fn, tmps, assign, body, hy, hR⟩ := hY pre rest wr hJ hrl
      clear hY hW0 hW1 hW2 hJ e1 hno hsp
      gi_wp2_with (refine ⟨trivial, ?_⟩; gi_at_call 107; refine (callsIn_wide.2 (hix _)).mono ?_; rintro e1 w1 ⟨rfl, rfl⟩)
      refine hR.mono ?_
      rintro e2 W3 (⟨rfl, hJ3, hk3⟩ | ⟨rfl, hJx3⟩)
      · gi_wp2
        go_end0
        exact ⟨⟨_, rfl⟩, .inl ⟨_, HP.out, hJ3⟩⟩
      · gi_wp2
        go_end0
        exact ⟨⟨_, rfl⟩, .inr ⟨_, ⟨[], by rw [← HP.out]; simp⟩, hJx3⟩⟩
theorem split_in (n : Nat) (s : ByteArray) (w : World) :
    CallsIn Fence.wide n Tryd.prog 94 #[.string s, .string ⟨#[44]⟩, .int .i64 0] w fun e w' => e = .returned (.func (.func 105) #[] #[.pointer (some ⟨w.heap.size + 1, 0, none⟩), .pointer (some ⟨w.heap.size, 0, none⟩), .pointer (some ⟨w.heap.size + 2, 0, none⟩)]) ∧
      w' = ((w.alloc (.cells #[.string s] 9)).alloc (.cells #[.string ⟨#[44]⟩] 9)).alloc (.cells #[.int .i64 0] 3) := by
  refine callsIn_of_wp Tryd.func94 rfl trivial ?_ rfl
  simp only [Tryd.ntmps94, List.size_toArray, List.length_cons, List.length_nil, Nat.reduceAdd, Nat.reduceSub, Array.replicate_succ, Array.replicate_zero, List.push_toArray, List.append_toArray, List.nil_append, List.cons_append]
  gi_wp2
  go_ret
  exact ⟨rfl, rfl⟩
theorem split_seq (n : Nat) (hn : 1 ≤ n) (s : ByteArray) (w : World) :
    CallsIn Fence.wide n Tryd.prog 81 #[.string s, .string ⟨#[44]⟩] w fun e w' => e = .returned (.func (.func 105) #[] #[.pointer (some ⟨w.heap.size + 1, 0, none⟩), .pointer (some ⟨w.heap.size, 0, none⟩), .pointer (some ⟨w.heap.size + 2, 0, none⟩)]) ∧
      w' = ((w.alloc (.cells #[.string s] 9)).alloc (.cells #[.string ⟨#[44]⟩] 9)).alloc (.cells #[.int .i64 0] 3) := by
  refine callsIn_of_wp Tryd.func81 rfl trivial ?_ rfl
  simp only [Tryd.ntmps81, List.size_toArray, List.length_cons, List.length_nil, Nat.reduceAdd, Nat.reduceSub, Array.replicate_succ, Array.replicate_zero, List.push_toArray, List.append_toArray, List.nil_append, List.cons_append]
  gi_wp2_with (refine ⟨trivial, ?_⟩; gi_at_call 94; refine (split_in _ s _).mono ?_; rintro e w' ⟨rfl, rfl⟩)
  go_ret
  exact ⟨rfl, rfl⟩
end Go.Proofs.YtpodgmmgphibfaaDoor
namespace Go.Proofs.YtpodgmmgphibfaaDoor
open Go Go.RowKit Sh Leaf
open Go.Shelf
attribute [local go_sem] Oper.semAt_some

theorem box_put {W : World} {B l : Nat} {t : TypeId} {v : Value} {o : Obj} (o' : Obj) (h : Boxed W B t v) (hl : W.heap[l]? = some o) (hc : o.isCells = false) : Boxed (W.putObj l o') B t v := by
  refine h.kept (grownBy_putObj' W l o') fun e => ?_
  injection e with e
  subst e
  rw [show W.heap[B]? = _ from h] at hl
  cases hl
  cases hc
theorem box_other {W : World} {B B' : Nat} {t : TypeId} {v : Value} (h : Boxed W B t v) (hn : B ≠ B') (u : Value) : Boxed (W.setCell ⟨B', 0, none⟩ u) B t v := (heap_setCell_other W ⟨B', 0, none⟩ B u hn).trans h
theorem box_below {W W' : World} {B n : Nat} {t : TypeId} {v : Value} (h : Boxed W B t v) (hb : Below n W W') (hn : B < n) : Boxed W' B t v := (hb.block B hn).trans h
theorem belowPut {W : World} {B l : Nat} {o : Obj} (o' : Obj) (hl : W.heap[l]? = some o) (hB : B ≤ l) : Below B W (W.putObj l o') :=
  (Below.refl B W).grown (grownBy_putObj' W l o') (by have := (Array.getElem?_eq_some_iff.1 hl).1; omega) (fun k e => by cases e; exact hB)

/-- The five boxes of parseMask. -/
def PBx (g : Nat) (most : Nat) (m : Nat) (last : Int) (W : World) : Prop :=
  Boxed W g 3 (.int .i64 (most : Int)) ∧ Boxed W (g + 1) 22 (.int .u64 0) ∧ Boxed W (g + 1 + 1) 4 (.bool false) ∧ Boxed W (g + 1 + 1 + 1) 22 (.int .u64 (m : Int)) ∧ Boxed W (g + 1 + 1 + 1 + 1) 3 (.int .i64 last)
def pmI (w : World) (most : Nat) (pre : List (List B8)) (W : World) : Prop := ∃ l last, PAt most pre l last ∧ PBx w.heap.size most (orl 0 l) last W ∧ Below w.heap.size w W ∧ w.heap.size + 8 ≤ W.heap.size
def pmX (w : World) (most : Nat) (pre : List (List B8)) (W : World) : Prop := ∃ p x l last n ok, pre = p ++ [x] ∧ PAt most p l last ∧ PN x n ok ∧ ¬ (ok = true ∧ last < n ∧ n ≤ (most : Int)) ∧ Boxed W (w.heap.size + 1) 22 (.int .u64 0) ∧ Boxed W (w.heap.size + 1 + 1) 4 (.bool false) ∧ Below w.heap.size w W
theorem PBx.put {g most m : Nat} {last : Int} {W : World} {l : Nat} {o : Obj} (o' : Obj) (h : PBx g most m last W) (hl : W.heap[l]? = some o) (hc : o.isCells = false) : PBx g most m last (W.putObj l o') :=
  ⟨box_put o' h.1 hl hc, box_put o' h.2.1 hl hc, box_put o' h.2.2.1 hl hc, box_put o' h.2.2.2.1 hl hc, box_put o' h.2.2.2.2 hl hc⟩
theorem PBx.below {g most m n : Nat} {last : Int} {W W' : World} (h : PBx g most m last W) (hb : Below n W W') (hn : g + 5 ≤ n) : PBx g most m last W' :=
  ⟨box_below h.1 hb (by omega), box_below h.2.1 hb (by omega), box_below h.2.2.1 hb (by omega), box_below h.2.2.2.1 hb (by omega), box_below h.2.2.2.2 hb (by omega)⟩
theorem PBx.lt {g most m : Nat} {last : Int} {W : World} (h : PBx g most m last W) : g + 5 ≤ W.heap.size := by have := h.2.2.2.2.lt; omega
theorem PBx.far {g most m B : Nat} {last : Int} {W : World} (h : PBx g most m last W) (hB : g + 5 ≤ B) (v : Value) : PBx g most m last (W.setCell ⟨B, 0, none⟩ v) :=
  ⟨box_other h.1 (by omega) v, box_other h.2.1 (by omega) v, box_other h.2.2.1 (by omega) v, box_other h.2.2.2.1 (by omega) v, box_other h.2.2.2.2 (by omega) v⟩
/-- The mask is stored, and the last number. -/
theorem PBx.put2 {g most m m' : Nat} {last last' : Int} {W : World} (h : PBx g most m last W) : PBx g most m' last' ((W.setCell ⟨g + 1 + 1 + 1, 0, none⟩ (.int .u64 (m' : Int))).setCell ⟨g + 1 + 1 + 1 + 1, 0, none⟩ (.int .i64 last')) :=
  ⟨box_other (box_other h.1 (by omega) _) (by omega) _, box_other (box_other h.2.1 (by omega) _) (by omega) _, box_other (box_other h.2.2.1 (by omega) _) (by omega) _, box_other (h.2.2.2.1.set _) (by omega) _, (box_other h.2.2.2.2 (by omega) _).set _⟩
theorem pmI_stays (w : World) (most D : Nat) (hD : w.heap.size ≤ D) : Stays D (pmI w most) := by
  rintro s W l o o' ⟨a, b, h1, h2, h3, h4⟩ hl ho hc
  exact ⟨a, b, h1, h2.put o' ho hc, h3.trans (belowPut o' ho (by omega)), by simpa using h4⟩
theorem pmX_stays (w : World) (most D : Nat) (hD : w.heap.size ≤ D) : Stays D (pmX w most) := by
  rintro s W l o o' ⟨p, x, a, b, n, ok, h1, h2, h3, h4, h5, h6, h7⟩ hl ho hc
  exact ⟨p, x, a, b, n, ok, h1, h2, h3, h4, box_put o' h5 ho hc, box_put o' h6 ho hc, h7.trans (belowPut o' ho (by omega))⟩
theorem pmI_grows (w : World) (most : Nat) : Grows (pmI w most) := by
  rintro s W W' ⟨a, b, h1, h2, h3, h4⟩ hb
  exact ⟨a, b, h1, h2.below hb h2.lt, h3.trans (hb.mono h3.size), by have := hb.size; omega⟩
theorem pmX_grows (w : World) (most : Nat) : Grows (pmX w most) := by
  rintro s W W' ⟨p, x, a, b, n, ok, h1, h2, h3, h4, h5, h6, h7⟩ hb
  exact ⟨p, x, a, b, n, ok, h1, h2, h3, h4, box_below h5 hb h5.lt, box_below h6 hb h6.lt, h7.trans (hb.mono h7.size)⟩
theorem pmI_moves (w : World) (most g : Nat) (hg : w.heap.size + 5 ≤ g) : Moves g (pmI w most) := by
  rintro s W v ⟨a, b, h1, h2, h3, h4⟩
  exact ⟨a, b, h1, h2.far hg v, h3.setCell (p := ⟨g, 0, none⟩) (by show w.heap.size ≤ g; omega) v, by simpa using h4⟩

theorem or_bit (M k : Nat) (hm : M < 18446744073709551616) (hk : k < 64) : bits .or .u64 (M : Int) (IntKind.u64.wrap (2 ^ k)) = ((M ||| 2 ^ k : Nat) : Int) := by
  have h2 : 2 ^ k < 18446744073709551616 := Nat.pow_lt_pow_right (n := 64) (by omega) hk
  have e1 : IntKind.u64.wrap (2 ^ k) = ((2 ^ k : Nat) : Int) := by
    rw [show ((2 : Int) ^ k) = ((2 ^ k : Nat) : Int) by simp]
    generalize 2 ^ k = q at h2
    simp [IntKind.wrap, IntKind.bits, IntKind.signed]
    omega
  rw [e1]
  exact bits_or_u64_nat M (2 ^ k) hm h2
theorem pm_world (most : Nat) (s : ByteArray) (w W0 : World) (h : W0 = ((((((((w.alloc (.cells #[.int .i64 (most : Int)] 3)).alloc (.cells #[.int .u64 0] 22)).alloc (.cells #[.bool false] 4)).alloc (.cells #[.int .u64 0] 22)).alloc (.cells #[.int .i64 (-1)] 3)).alloc (.cells #[.string s] 9)).alloc (.cells #[.string ⟨#[44]⟩] 9)).alloc (.cells #[.int .i64 0] 3))) :
    PBx w.heap.size most 0 (-1) W0 ∧ Whole W0 (w.heap.size + 1 + 1 + 1 + 1 + 1) 9 #[.string s] ∧ Whole W0 (w.heap.size + 1 + 1 + 1 + 1 + 1 + 1) 9 #[.string ⟨#[44]⟩] ∧ Whole W0 (w.heap.size + 1 + 1 + 1 + 1 + 1 + 2) 3 #[.int .i64 0] ∧ Below w.heap.size w W0 := by
  subst h
  have n0 := Boxed.new w 3 (.int .i64 (most : Int))
  have hb := (((((((((Below.refl w.heap.size w).alloc (Nat.le_refl _) (.cells #[.int .i64 (most : Int)] 3)).alloc (by simp) (.cells #[.int .u64 0] 22)).alloc (by simp; omega) (.cells #[.bool false] 4)).alloc (by simp; omega) (.cells #[.int .u64 0] 22)).alloc (by simp; omega) (.cells #[.int .i64 (-1)] 3)).alloc (by simp; omega) (.cells #[.string s] 9)).alloc (by simp; omega) (.cells #[.string ⟨#[44]⟩] 9)).alloc (by simp; omega) (.cells #[.int .i64 0] 3))
  refine ⟨⟨?_, ?_, ?_, ?_, ?_⟩, ?_, ?_, ?_, hb⟩
  · exact (((((((n0.alloc _).alloc _).alloc _).alloc _).alloc _).alloc _).alloc _)
  · have n1 := Boxed.new (w.alloc (.cells #[.int .i64 (most : Int)] 3)) 22 (.int .u64 0)
    simp only [World.size_alloc] at n1
    exact ((((((n1.alloc _).alloc _).alloc _).alloc _).alloc _).alloc _)
  · have n1 := Boxed.new ((w.alloc (.cells #[.int .i64 (most : Int)] 3)).alloc (.cells #[.int .u64 0] 22)) 4 (.bool false)
    simp only [World.size_alloc] at n1
    exact (((((n1.alloc _).alloc _).alloc _).alloc _).alloc _)
  · have n1 := Boxed.new (((w.alloc (.cells #[.int .i64 (most : Int)] 3)).alloc (.cells #[.int .u64 0] 22)).alloc (.cells #[.bool false] 4)) 22 (.int .u64 0)
    simp only [World.size_alloc] at n1
    exact ((((n1.alloc _).alloc _).alloc _).alloc _)
  · have n1 := Boxed.new ((((w.alloc (.cells #[.int .i64 (most : Int)] 3)).alloc (.cells #[.int .u64 0] 22)).alloc (.cells #[.bool false] 4)).alloc (.cells #[.int .u64 0] 22)) 3 (.int .i64 (-1))
    simp only [World.size_alloc] at n1
    exact (((n1.alloc _).alloc _).alloc _)
  · have n1 := Whole.here (((((w.alloc (.cells #[.int .i64 (most : Int)] 3)).alloc (.cells #[.int .u64 0] 22)).alloc (.cells #[.bool false] 4)).alloc (.cells #[.int .u64 0] 22)).alloc (.cells #[.int .i64 (-1)] 3)) 9 #[.string s]
    simp only [World.size_alloc] at n1
    exact ((n1.alloc _).alloc _)
  · have n1 := Whole.here ((((((w.alloc (.cells #[.int .i64 (most : Int)] 3)).alloc (.cells #[.int .u64 0] 22)).alloc (.cells #[.bool false] 4)).alloc (.cells #[.int .u64 0] 22)).alloc (.cells #[.int .i64 (-1)] 3)).alloc (.cells #[.string s] 9)) 9 #[.string ⟨#[44]⟩]
    simp only [World.size_alloc] at n1
    exact n1.alloc _
  · have n1 := Whole.here (((((((w.alloc (.cells #[.int .i64 (most : Int)] 3)).alloc (.cells #[.int .u64 0] 22)).alloc (.cells #[.bool false] 4)).alloc (.cells #[.int .u64 0] 22)).alloc (.cells #[.int .i64 (-1)] 3)).alloc (.cells #[.string s] 9)).alloc (.cells #[.string ⟨#[44]⟩] 9)) 3 #[.int .i64 0]
    simp only [World.size_alloc] at n1
    exact n1

set_option maxRecDepth 100000 in
set_option maxHeartbeats 4000000 in
theorem pmask_ (s : List B8) (hs : s.length ≤ 100000) (most : Nat) (hmost : most < 64) (w : World) (hS : Std w) :
    Calls Tryd.prog 64 #[.string (sof s), .int .i64 (most : Int)] w fun e w' => ∃ (m : Nat) (ok : Bool), PM s most m ok ∧ e = .returned (.tuple #[.int .u64 (m : Int), .bool ok]) ∧ Below w.heap.size w w' := by
  refine (callsIn_wide (n := 3)).1 ?_
  refine callsIn_of_wp_marks Tryd.func64 rfl trivial ?_ rfl
  simp only [Tryd.ntmps64, List.size_toArray, List.length_cons, List.length_nil, Nat.reduceAdd, Nat.reduceSub, Array.replicate_succ, Array.replicate_zero, List.push_toArray, List.append_toArray, List.nil_append, List.cons_append]
  gi_wp2_with (refine ⟨trivial, ?_⟩; gi_at_call 81; refine (split_seq _ (by omega) (sof s) _).mono ?_; rintro e w' ⟨rfl, rfl⟩)
  have hW := pm_world most (sof s) w _ rfl
  generalize ((((((((w.alloc (.cells #[.int .i64 (most : Int)] 3)).alloc (.cells #[.int .u64 0] 22)).alloc (.cells #[.bool false] 4)).alloc (.cells #[.int .u64 0] 22)).alloc (.cells #[.int .i64 (-1)] 3)).alloc (.cells #[.string (sof s)] 9)).alloc (.cells #[.string ⟨#[44]⟩] 9)).alloc (.cells #[.int .i64 0] 3)) = W0 at hW ⊢
  obtain ⟨hP, hw0, hw1, hw2, hB0⟩ := hW
  have hsz := hw2.lt
  refine wpIn_range_moved (by omega) (gf := 105) (lb := #[.pointer (some ⟨w.heap.size + 1 + 1 + 1 + 1 + 1 + 1, 0, none⟩), .pointer (some ⟨w.heap.size + 1 + 1 + 1 + 1 + 1, 0, none⟩), .pointer (some ⟨w.heap.size + 1 + 1 + 1 + 1 + 1 + 2, 0, none⟩)]) rfl (enters_of Tryd.func105 (by kernel_rfl) rfl) (encs := fun x : List B8 => #[.string (sof x)]) (fun _ => rfl) (Mx := fun x _ => x.length ≤ s.length) (Kp := Boxes (w.heap.size + 1 + 1 + 1 + 1 + 1)) (S := fun xs => xs = spl 44 s) (Sp := fun pre => ∃ t, pre ++ t = spl 44 s)
    (w.heap.size + 1 + 1 + 1 + 1 + 1) (by omega)
    (fun l J Jx W hW gJ _ mJ hY h0 => split1 2 (by omega) l (w.heap.size + 1 + 1 + 1 + 1 + 1) s hs J Jx mJ hY W (hw0.below hW (by omega)) (hw1.below hW (by omega)) (hw2.below hW (by omega)) h0)
    (fun A B C h k => ⟨by have := h.1; have := k.1; omega, k.2.1.trans h.2.1, k.2.2.1.trans h.2.2.1, k.2.2.2.trans h.2.2.2⟩) (fun W l o o' hl ho hc => ⟨by simp, World.putObj_heap_other (by omega), World.putObj_heap_other (by omega), World.putObj_heap_other (by omega)⟩)
    (fun _ _ _ _ _ h _ _ _ => h) (pmI w most) (pmX w most) (pmI_stays w _ _ (by omega)) (pmX_stays w _ _ (by omega)) (pmI_grows w _) (pmX_grows w _) (pmI_moves w _ _ (by omega))
    ⟨[], -1, PAt.nil _, hP, hB0, by omega⟩
    (fun x => { tmps := #[.string (sof s), .int .i64 (most : Int), undef, .pointer (some ⟨w.heap.size, 0, none⟩), .pointer (some ⟨w.heap.size + 1, 0, none⟩), .pointer (some ⟨w.heap.size + 1 + 1, 0, none⟩), .pointer (some ⟨w.heap.size + 1 + 1 + 1, 0, none⟩), .pointer (some ⟨w.heap.size + 1 + 1 + 1 + 1, 0, none⟩), .string (sof x), undef, undef, .string (sof s), .func (.func 105) #[] #[.pointer (some ⟨w.heap.size + 1 + 1 + 1 + 1 + 1 + 1, 0, none⟩), .pointer (some ⟨w.heap.size + 1 + 1 + 1 + 1 + 1, 0, none⟩), .pointer (some ⟨w.heap.size + 1 + 1 + 1 + 1 + 1 + 2, 0, none⟩)], .string (sof x), undef, undef, undef, undef, undef, undef, undef, undef, undef, undef, undef, undef, undef, undef, undef, undef, undef, undef, undef, undef, undef, undef, undef], defers := [] }) ?assign ?body ?done ?stop
  case assign =>
    intro l y W K hK
    gi_wp2
    exact hK
  case body =>
    rintro l pre x W ⟨li, last, hat, hx, hB, HWZ⟩ hxl
    have hlast := hat.last
    have hc0 := hx.1.cell
    have hf0 := hx.1.frozen
    have hc1 := hx.2.1.cell
    have hf1 := hx.2.1.frozen
    have hc2 := hx.2.2.1.cell
    have hf2 := hx.2.2.1.frozen
    have hc3 := hx.2.2.2.1.cell
    have hf3 := hx.2.2.2.1.frozen
    have hc4 := hx.2.2.2.2.cell
    have hf4 := hx.2.2.2.2.frozen
    have hS1 := hS.below hB (Nat.le_refl _)
    have hWs := hx.lt
    have HAT := Lib.hid hat
    have HX := Lib.hid hx
    have HB := Lib.hid hB
    have hml := hat.lt hmost
    clear hat hx hB hw0 hw1 hw2 hB0 hP hS
    dsimp only
    obtain ⟨M, hM⟩ : ∃ M, M = orl 0 li := ⟨_, rfl⟩
    rw [← hM] at hc3 hml
    have HM := Lib.hid hM
    clear hM
    gi_wp2_with fail
    refine ⟨trivial, ?_⟩
    gi_at_call 66
    refine (CallsIn.inRound l (callsIn_wide.2 (pnumber x (by omega) _ hS1))).mono ?_
    rintro e w' ⟨n, ok, hpn, rfl, hb⟩
    have hX := HX.out.below hb hWs
    rw [← HM.out] at hX
    have hc0 := hX.1.cell
    have hf0 := hX.1.frozen
    have hc1 := hX.2.1.cell
    have hf1 := hX.2.1.frozen
    have hc2 := hX.2.2.1.cell
    have hf2 := hX.2.2.1.frozen
    have hc3 := hX.2.2.2.1.cell
    have hf3 := hX.2.2.2.1.frozen
    have hc4 := hX.2.2.2.2.cell
    have hf4 := hX.2.2.2.2.frozen
    have HX2 := Lib.hid hX
    have HB2 := Lib.hid (HB.out.trans (hb.mono HB.out.size))
    have HKP : Hid (KeepsFrom W0.heap.size W w') := Lib.hid ⟨hb.size, fun k o _ hk _ => (hb.block k (Array.getElem?_eq_some_iff.1 hk).1).trans hk⟩
    have HBX : Hid (Boxes (w.heap.size + 1 + 1 + 1 + 1 + 1) W w') := Lib.hid ⟨hb.size, hb.block _ (by have := HWZ; omega), hb.block _ (by have := HWZ; omega), hb.block _ (by have := HWZ; omega)⟩
    have HPN := Lib.hid hpn
    have HN := Lib.hid (show -9223372036854775808 ≤ n ∧ n ≤ 9223372036854775807 from hpn.2.2)
    clear hX hb hpn
    by_cases hgo : ok = true ∧ last < n ∧ n ≤ (most : Int)
    · obtain ⟨rfl, hg1, hg2⟩ := hgo
      have g1 : ¬ n ≤ last := by omega
      have g2 : ¬ n > (most : Int) := by omega
      have g3 : ¬ n < 0 := by omega
      obtain ⟨Z, hZ, hor⟩ : ∃ Z : Nat, Z = M ||| 2 ^ n.toNat ∧ bits .or .u64 (M : Int) (IntKind.u64.wrap (2 ^ n.toNat)) = (Z : Int) := ⟨_, rfl, or_bit M n.toNat hml (by omega)⟩
      have HZ := Lib.hid hZ
      clear hZ
      gi_wp2_with fail
      gi_region
      all_goals
        gi_wp2
        refine ⟨HKP.out.trans (((KeepsOthers.setCell _ _ _).trans ((KeepsOthers.drew _).trans (KeepsOthers.setCell _ _ _))).from _), ?_, ?_⟩
        · have hk := HBX.out
          exact ⟨by have := hk.1; simpa using this, (heap_setCell_other _ ⟨_, _, _⟩ _ _ (by show w.heap.size + 1 + 1 + 1 + 1 + 1 ≠ w.heap.size + 1 + 1 + 1 + 1; omega)).trans ((heap_setCell_other _ ⟨_, _, _⟩ _ _ (by show w.heap.size + 1 + 1 + 1 + 1 + 1 ≠ w.heap.size + 1 + 1 + 1; omega)).trans hk.2.1),
            (heap_setCell_other _ ⟨_, _, _⟩ _ _ (by show w.heap.size + 1 + 1 + 1 + 1 + 1 + 1 ≠ w.heap.size + 1 + 1 + 1 + 1; omega)).trans ((heap_setCell_other _ ⟨_, _, _⟩ _ _ (by show w.heap.size + 1 + 1 + 1 + 1 + 1 + 1 ≠ w.heap.size + 1 + 1 + 1; omega)).trans hk.2.2.1),
            (heap_setCell_other _ ⟨_, _, _⟩ _ _ (by show w.heap.size + 1 + 1 + 1 + 1 + 1 + 2 ≠ w.heap.size + 1 + 1 + 1 + 1; omega)).trans ((heap_setCell_other _ ⟨_, _, _⟩ _ _ (by show w.heap.size + 1 + 1 + 1 + 1 + 1 + 2 ≠ w.heap.size + 1 + 1 + 1; omega)).trans hk.2.2.2)⟩
        · refine ⟨li ++ [n.toNat], n, (HAT.out.next HPN.out hg1 hg2).1, ?_, ((HB2.out.setCell (p := ⟨_, _, _⟩) (by show w.heap.size ≤ w.heap.size + 1 + 1 + 1; omega) _).drew).setCell (p := ⟨_, _, _⟩) (by show w.heap.size ≤ w.heap.size + 1 + 1 + 1 + 1; omega) _, by have := HBX.out.1; simp; omega⟩
          rw [orl_snoc, ← HM.out, ← HZ.out]
          exact HX2.out.put2
    · have hcnd : (¬ ok = true) ∨ (ok = true ∧ n ≤ last) ∨ (ok = true ∧ last < n ∧ (most : Int) < n) := by
        by_cases h1 : ok = true
        · by_cases h2 : n ≤ last
          · exact .inr (.inl ⟨h1, h2⟩)
          · exact .inr (.inr ⟨h1, by omega, by have h3 : ¬ n ≤ (most : Int) := fun h3 => hgo ⟨h1, by omega, h3⟩; omega⟩)
        · exact .inl h1
      have HGO := Lib.hid hgo
      clear hgo
      rcases hcnd with h1 | ⟨rfl, h1⟩ | ⟨rfl, h1, h2⟩
      all_goals
        gi_wp2
        refine ⟨HKP.out.trans (((KeepsOthers.setCell _ _ _).trans (KeepsOthers.setCell _ _ _)).from _), pre, x, li, last, n, _, rfl, HAT.out, HPN.out, (fun h => HGO.out (by simpa using h)), box_other (HX2.out.2.1.set _) (by omega) _, (box_other HX2.out.2.2.1 (by omega) _).set _, (HB2.out.setCell (p := ⟨_, _, _⟩) (by show w.heap.size ≤ w.heap.size + 1; omega) _).setCell (p := ⟨_, _, _⟩) (by show w.heap.size ≤ w.heap.size + 1 + 1; omega) _⟩
  case done =>
    rintro D xs W hD rfl ⟨li, last, hat, hx, hB, -⟩ hK
    have hc1 := hx.2.1.cell
    have hf1 := hx.2.1.frozen
    have hc2 := hx.2.2.1.cell
    have hf2 := hx.2.2.1.frozen
    have hc3 := hx.2.2.2.1.cell
    have HD := Lib.hid (hat.done hmost)
    have HBL := Lib.hid hB
    have H1 := Lib.hid hx.2.1
    have H2 := Lib.hid hx.2.2.1
    clear hat hx hB
    generalize orl 0 li = M at *
    gi_wp2
    have hK2 := ((KeepsOthers.setCell W ⟨w.heap.size + 1, 0, none⟩ (.int .u64 (M : Int))).trans (KeepsOthers.setCell _ ⟨w.heap.size + 1 + 1, 0, none⟩ (.bool true))).same D _ hK rfl
    refine ⟨by simp, .inl ⟨_, _, rfl, run_takeDeferred hK2, ?_⟩⟩
    have r1 := box_other (H1.out.set (.int .u64 (M : Int))) (show w.heap.size + 1 ≠ w.heap.size + 1 + 1 by omega) (.bool true)
    have r2 := (box_other H2.out (show w.heap.size + 1 + 1 ≠ w.heap.size + 1 by omega) (.int .u64 (M : Int))).set (.bool true)
    have q2 := ((Below.refl w.heap.size W).setCell (p := ⟨w.heap.size + 1, 0, none⟩) (by simp) (.int .u64 (M : Int))).setCell (p := ⟨w.heap.size + 1 + 1, 0, none⟩) (by simp; omega) (.bool true)
    have q3 := q2.trans (belowPut (B := w.heap.size) (.deferred none) hK2 (by omega))
    have e1 := (box_put (.deferred none) r1 hK2 rfl).cell
    have e2 := (box_put (.deferred none) r2 hK2 rfl).cell
    refine ⟨.tuple #[.int .u64 (M : Int), .bool true], ?_, M, true, HD.out, rfl, HBL.out.trans q3⟩
    simp [results, Tryd.results64, go_sem, e1, e2]
  case stop =>
    rintro D pre W hD hS ⟨p, x, li, last, n, ok, rfl, hat, hpn, hno, h1, h2, hB⟩ hK
    have HD := Lib.hid (hat.stop hpn hno hS)
    have HBL := Lib.hid hB
    have H1 := Lib.hid h1
    have H2 := Lib.hid h2
    clear hat hpn hno hS h1 h2 hB
    gi_wp2
    refine ⟨by simp, .inl ⟨_, _, rfl, run_takeDeferred hK, ?_⟩⟩
    have r1 := (box_put (.deferred none) H1.out hK rfl).cell
    have r2 := (box_put (.deferred none) H2.out hK rfl).cell
    refine ⟨.tuple #[.int .u64 0, .bool false], ?_, 0, false, HD.out, rfl, HBL.out.trans (belowPut (.deferred none) hK (by omega))⟩
    simp [results, Tryd.results64, go_sem, r1, r2]
end Go.Proofs.YtpodgmmgphibfaaDoor
