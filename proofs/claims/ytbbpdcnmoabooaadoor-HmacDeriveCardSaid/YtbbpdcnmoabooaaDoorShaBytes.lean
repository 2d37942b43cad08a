/-
  Slices of bytes: a slice value that reads as a list of bytes (nil and empty ones too); Clone.
-/
import Derived.Test.YtbbpdcnmoabooaaDoorShaMem
import Derived.Laws.AppendOwn
import Derived.Laws.AppendOwnNone
import Derived.OwnWalk
import Derived.WalkSpells
import Derived.Deep.DeepMust
namespace Go.Proofs.YtbbpdcnmoabooaaDoor
open Go Go.RowKit Sh Leaf

/-- The slice value v reads as the bytes l; its cells, if there are any, lie in a block of which Q holds. -/
def Bytes (w : World) (Q : Nat → Prop) (v : Value) (l : List B8) : Prop :=
  ∃ A c, v = .slice A l.length c ∧ l.length ≤ c ∧ c ≤ maxLen ∧ (A = none → c = 0) ∧ (0 < l.length → ∃ g o, A = some ⟨g, o, none⟩ ∧ Q g ∧ ∀ j x, l[j]? = some x → w.cell? ⟨g, o + j, none⟩ = some (byt x))
section
variable {w w' : World} {Q Q' : Nat → Prop} {v : Value} {l : List B8}
theorem Bytes.keep (h : Bytes w Q v l) (hk : ∀ g, g < w.heap.size → Q g → w'.heap[g]? = w.heap[g]?) : Bytes w' Q v l := by
  obtain ⟨A, c, hv, h1, h2, h3, h4⟩ := h
  refine ⟨A, c, hv, h1, h2, h3, fun hl => ?_⟩
  obtain ⟨g, o, hA, hq, hc⟩ := h4 hl
  refine ⟨g, o, hA, hq, fun j x hj => ?_⟩
  have := hc j x hj
  rw [← this]
  exact World.cell?_of_block (w := w) (hk g (block_lt_of_cell this) hq)
theorem Bytes.mono (h : Bytes w Q v l) (hq : ∀ g, g < w.heap.size → Q g → Q' g) : Bytes w Q' v l := by
  obtain ⟨A, c, hv, h1, h2, h3, h4⟩ := h
  refine ⟨A, c, hv, h1, h2, h3, fun hl => ?_⟩
  obtain ⟨g, o, hA, hg, hc⟩ := h4 hl
  have h0 : (0 : Nat) < l.length := hl
  have := hc 0 l[0] (by simp [h0])
  exact ⟨g, o, hA, hq g (block_lt_of_cell this) hg, hc⟩
theorem Bytes.alloc (h : Bytes w Q v l) (o : Obj) : Bytes (w.alloc o) Q v l := h.keep fun g hg _ => Below.heap_alloc w o g hg
theorem Bytes.drew (h : Bytes w Q v l) : Bytes w.drew Q v l := h
theorem Bytes.drewN (h : Bytes w Q v l) (n : Nat) : Bytes (w.drewN n) Q v l := h
theorem Bytes.below {B : Nat} (h : Bytes w Q v l) (hb : Below B w w') (hB : w.heap.size ≤ B) : Bytes w' Q v l := h.keep fun g hg _ => hb.block g (by omega)
theorem Bytes.set (h : Bytes w Q v l) {a : Addr} (ha : ∀ g, Q g → g ≠ a.block) (x : Value) : Bytes (w.setCell a x) Q v l := h.keep fun g _ hq => heap_setCell_other w a g x (ha g hq)
theorem Bytes.setRow (h : Bytes w Q v l) {b : Nat} (ha : ∀ g, Q g → g ≠ b) (cs : Array Value) : Bytes (w.setRow b cs) Q v l := h.keep fun g _ hq => setRow_other w b g cs (ha g hq)
theorem Bytes.grown {row : Option Nat} (h : Bytes w Q v l) (hg : w.grownBy w' row) (hr : ∀ g, Q g → some g ≠ row) : Bytes w' Q v l := h.keep fun g hl hq => hg.block g hl (hr g hq)
theorem Bytes.nil (w : World) (Q : Nat → Prop) : Bytes w Q (.slice none 0 0) [] := ⟨none, 0, rfl, by simp, by simp [maxLen], fun _ => rfl, fun h => absurd h (by simp)⟩
end
/-- What a row of the call's own holds. -/
theorem Bytes.of_own {w : World} {base : Nat} {v : Value} {l : List B8} (h : w.ownsRow base 5 1 v l.length (l.map byt)) : Bytes w (fun g => base ≤ g) v l := by
  obtain ⟨_, h2⟩ := h
  rcases h2 with ⟨rfl, hn⟩ | ⟨g, cap, cur, rfl, hg, hh, hc, hm, hs, ht⟩
  · have : l = [] := List.eq_nil_of_length_eq_zero hn
    subst this
    exact Bytes.nil _ _
  · refine ⟨_, cap, rfl, hc, hm, fun h => (by cases h), fun _ => ⟨g, 0, rfl, hg, fun j x hj => ?_⟩⟩
    rw [cell_of_row w g (0 + j) cur _ _ hh, Nat.zero_add]
    have h1 : (l.map byt)[j]? = some (byt x) := by rw [List.getElem?_map, hj]; rfl
    rw [← ht, List.getElem?_take] at h1
    split at h1
    · simpa using h1
    · cases h1
theorem byteInfo : (Tryd.prog.info? 5).map (fun i => (i.zero, i.size, i.bytes)) = some (some (.int .u8 0), 1, 1) := by kernel_rfl
theorem own_lit (w : World) (base : Nat) (l : List B8) (hb : base ≤ w.heap.size) (hl : l.length ≤ 1000) :
    (w.alloc (.cells (l.map byt).toArray 5)).ownsRow base 5 1 (.slice (some ⟨w.heap.size, 0, none⟩) l.length l.length) l.length (l.map byt) := by
  refine ⟨by simp, .inr ⟨w.heap.size, l.length, (l.map byt).toArray, rfl, hb, heap_alloc_new w _, Nat.le_refl _, by unfold maxLen; omega, by simp, ?_⟩⟩
  simp [List.take_of_length_le]
theorem own_lit_at (w : World) (base g : Nat) (l : List B8) (hg : g = w.heap.size) (hb : base ≤ g) (hl : l.length ≤ 1000) :
    (w.alloc (.cells (l.map byt).toArray 5)).ownsRow base 5 1 (.slice (some ⟨g, 0, none⟩) l.length l.length) l.length (l.map byt) := by
  subst hg; exact own_lit w base l hb hl
theorem byt_one (l : List B8) : ∀ x ∈ l.map byt, x.oneCell' = true := by
  intro x hx
  obtain ⟨y, _, rfl⟩ := List.mem_map.1 hx
  rfl

/-- One byte in a block of its own. -/
theorem bytes_one (w : World) (z : Int) (x : B8) (h : z = bv x) : Bytes (w.alloc (.cells #[.int .u8 z] 5)) (fun _ => True) (.slice (some ⟨w.heap.size, 0, none⟩) 1 1) [x] := by
  subst h
  refine ⟨_, 1, rfl, by simp, by simp [maxLen], fun h => (by cases h), fun _ => ⟨_, _, rfl, trivial, fun j y hj => ?_⟩⟩
  rw [cell_of_row _ _ _ _ _ _ (heap_alloc_new w _)]
  match j, hj with
  | 0, hj => simp at hj; subst hj; rfl
  | j + 1, hj => simp at hj
theorem be_byte (n m : Nat) : (n : Int) / 2 ^ (8 * m) % 256 = bv (BitVec.ofNat 8 (n / 256 ^ m)) := by
  have e : 256 ^ m = 2 ^ (8 * m) := by rw [Nat.pow_mul]
  rw [bv_ofNat, e]
  simp
/-- append(own, src...), whatever src is. -/
theorem wpList_append_bytes {w : World} {ops : Array Oper} {rest : List Oper} {o : Oper} {a : Act} {R : Exit → Act → World → Prop} (hgd : o.guard = none) (s x : Operand)
    (ho : o.op = .call { callee := .builtin .append, args := #[s, x], argTypes := #[22, 22] })
    (base : Nat) (v : Value) (xs : List B8) (hs : a.eval s = v) (hown : w.ownsRow base 5 1 v xs.length (xs.map byt))
    (Q : Nat → Prop) (v2 : Value) (ys : List B8) (hx : a.eval x = v2) (hr : Bytes w Q v2 ys) (h47 : xs.length + ys.length ≤ 140737488355328) (hbase : base ≤ w.heap.size)
    (h : ∀ v' w', w'.ownsRow base 5 1 v' (xs ++ ys).length ((xs ++ ys).map byt) → Below base w w' → wpList Tryd.prog ops R rest (a.put o.dst v') w') : wpList Tryd.prog ops R (o :: rest) a w := by
  have hbel : ∀ w', w.grownBy w' v.ownBlock → Below base w w' := fun w' hg => (Below.refl _ _).grown hg hbase fun k hk => by
    rcases hown.2 with ⟨rfl, _⟩ | ⟨g, cap, cur, rfl, hge, _⟩
    · simp [Value.ownBlock] at hk
    · simp [Value.ownBlock] at hk; omega
  obtain ⟨i0, hi, hz0, hz1, hz2⟩ := info_parts byteInfo
  obtain ⟨A, c, hv, hc1, hc2, hc3, hc4⟩ := hr
  have hlen : (xs ++ ys).length = xs.length + ys.length := by simp
  have hmap : (xs ++ ys).map byt = xs.map byt ++ ys.map byt := by simp
  rw [hlen, hmap] at h
  cases A with
  | none =>
    have h0 := hc3 rfl
    subst h0
    have hy : ys = [] := List.eq_nil_of_length_eq_zero (by omega)
    subst hy
    refine wpList_append_own_none hgd s x 22 ho base 5 i0 1 Tryd.underlying22 hi v xs.length (xs.map byt) hs hown (by rw [hx, hv]; rfl) ?_
    exact h v w (by simpa using hown) (Below.refl _ _)
  | some ad =>
    refine wpList_append_own w hgd s x 22 ho base 5 i0 (.int .u8 0) 1 1 Tryd.underlying22 hi hz0 hz1 hz2 rfl (by decide) v xs.length (xs.map byt) hs hown ad ys.length c (ys.map byt) (by rw [hx, hv]) (by simp) ?_ (byt_one ys)
      (by unfold maxLen; omega) (by omega) hbase (fun v' w' h1 h2 _ => h v' w' h1 (hbel w' h2))
    intro j b hb
    have hj : j < ys.length := by
      have := (List.getElem?_eq_some_iff.1 hb).1
      simpa using this
    obtain ⟨g, o, hA, _, hcell⟩ := hc4 (by omega)
    obtain rfl := Option.some.inj hA
    rw [Addr.add_mid]
    rw [List.getElem?_map, List.getElem?_eq_getElem hj] at hb
    obtain rfl := Option.some.inj hb
    exact hcell j _ (List.getElem?_eq_getElem hj)
end Go.Proofs.YtbbpdcnmoabooaaDoor
