/-
  KLib
  KSeq
-/
import Derived.Laws.AppendOwn
import Derived.Laws.AppendOwnNone
import Derived.OwnWalk
import Derived.WalkSpells
import Derived.Deep.DeepMust
import Derived.StillTailTactics
import Derived.Laws.CopyOwn
import Derived.Deep.RegionHeld3
import Derived.Test.YteekdhcffiaaaaaPk0
import Derived.Lib.AppendZeros
namespace Go.Proofs.Yteekdhcffiaaaaa
open Go Go.RowKit Sh Leaf

end Go.Proofs.Yteekdhcffiaaaaa
namespace Go.Proofs.Yteekdhcffiaaaaa
open Go Go.RowKit Sh Leaf

section
variable {α : Type} {f : α → List Value} {n : Nat}
def fl (f : α → List Value) (l : List α) : List Value := l.flatMap f
theorem fl_nil : fl f [] = [] := rfl
theorem fl_cons (p : α) (t : List α) : fl f (p :: t) = f p ++ fl f t := by rw [fl, List.flatMap_cons]; rfl
theorem fl_one (p : α) : fl f [p] = f p := by rw [fl_cons, fl_nil, List.append_nil]
theorem fl_append (a b : List α) : fl f (a ++ b) = fl f a ++ fl f b := by rw [fl, List.flatMap_append]; rfl
theorem fl_length (hn : ∀ x, (f x).length = n) (l : List α) : (fl f l).length = l.length * n := by
  induction l with
  | nil => simp [fl]
  | cons p t ih => rw [fl_cons, List.length_append, hn, ih, List.length_cons, Nat.succ_mul]; omega
theorem fl_at (hn : ∀ x, (f x).length = n) : ∀ (l : List α) (j : Nat) (p : α), l[j]? = some p → ∀ i v, (f p)[i]? = some v → (fl f l)[j * n + i]? = some v
  | [], j, p, h, _, _, _ => by simp at h
  | q :: t, 0, p, h, i, v, hv => by
    simp at h
    subst h
    rw [fl_cons, Nat.zero_mul, Nat.zero_add, List.getElem?_append_left (by have := (List.getElem?_eq_some_iff.1 hv).1; exact this), hv]
  | q :: t, j + 1, p, h, i, v, hv => by
    rw [fl_cons, List.getElem?_append_right (by rw [hn, Nat.succ_mul]; omega), hn, show (j + 1) * n + i - n = j * n + i by rw [Nat.succ_mul]; omega]
    exact fl_at hn t j p (by simpa using h) i v hv
theorem fl_set (hn : ∀ x, (f x).length = n) (l : List α) (k : Nat) (p : α) (hk : k < l.length) (i : Nat) (v : Value) (q : α) (hp : l[k]? = some p) (hi : i < n) (hq : f q = (f p).set i v) : fl f (l.set k q) = (fl f l).set (k * n + i) v := by
  apply List.ext_getElem?
  intro j
  have hlen : (fl f (l.set k q)).length = l.length * n := by rw [fl_length hn, List.length_set]
  rcases Nat.lt_or_ge j (l.length * n) with hj | hj
  · have hn0 : 0 < n := by omega
    have hjk : j / n < l.length := Nat.div_lt_of_lt_mul (by rw [Nat.mul_comm]; exact hj)
    have hjd : j / n * n + j % n = j := by rw [Nat.mul_comm]; exact Nat.div_add_mod j n
    have hjm : j % n < n := Nat.mod_lt _ hn0
    rw [List.getElem?_set]
    by_cases e : k = j / n
    · subst e
      have hpj : (l.set (j / n) q)[j / n]? = some q := by rw [List.getElem?_set_self hk]
      obtain ⟨u, hu⟩ : ∃ u, (f q)[j % n]? = some u := ⟨_, List.getElem?_eq_getElem (by rw [hn]; exact hjm)⟩
      have h1 := fl_at hn _ (j / n) q hpj (j % n) u hu
      rw [hjd] at h1
      rw [h1]
      rw [hq, List.getElem?_set] at hu
      by_cases e2 : i = j % n
      · subst e2
        rw [if_pos rfl, if_pos (by rw [hn]; exact hjm)] at hu
        rw [if_pos hjd, if_pos (by rw [hjd, fl_length hn]; exact hj), ← hu]
      · rw [if_neg e2] at hu
        rw [if_neg (by omega)]
        have h2 := fl_at hn l (j / n) p hp (j % n) u hu
        rw [hjd] at h2
        exact h2.symm
    · have hne : ¬ k * n + i = j := fun h => e (by
        rw [← h, Nat.mul_comm, Nat.mul_add_div hn0, Nat.div_eq_of_lt hi, Nat.add_zero])
      rw [if_neg hne]
      obtain ⟨r, hr⟩ : ∃ r, l[j / n]? = some r := ⟨_, List.getElem?_eq_getElem hjk⟩
      obtain ⟨u, hu⟩ : ∃ u, (f r)[j % n]? = some u := ⟨_, List.getElem?_eq_getElem (by rw [hn]; exact hjm)⟩
      have h1 := fl_at hn (l.set k q) (j / n) r (by rw [List.getElem?_set, if_neg e]; exact hr) (j % n) u hu
      have h2 := fl_at hn l (j / n) r hr (j % n) u hu
      rw [hjd] at h1 h2
      rw [h1, h2]
  · rw [List.getElem?_eq_none (by rw [hlen]; exact hj), List.getElem?_eq_none (by rw [List.length_set, fl_length hn]; exact hj)]
def Seq (f : α → List Value) (ok : α → Prop) (w : World) (Q : Nat → Prop) (A : Option Addr) (c : Nat) (l : List α) : Prop :=
  l.length ≤ c ∧ c ≤ maxLen ∧ (A = none → c = 0) ∧ (∀ p ∈ l, ok p) ∧ (0 < l.length → ∃ g o, A = some ⟨g, o, none⟩ ∧ Q g ∧ g < w.heap.size ∧ w.rangeAt g o (fl f l))
variable {ok : α → Prop} {w w' : World} {Q Q' : Nat → Prop} {A : Option Addr} {c : Nat} {l : List α}
theorem Seq.keep (h : Seq f ok w Q A c l) (hs : w.heap.size ≤ w'.heap.size) (hk : ∀ g, g < w.heap.size → Q g → w'.heap[g]? = w.heap[g]?) : Seq f ok w' Q A c l := by
  obtain ⟨h1, h2, h3, h4, h5⟩ := h
  refine ⟨h1, h2, h3, h4, fun hl => ?_⟩
  obtain ⟨g, o, hA, hq, hg, hc⟩ := h5 hl
  refine ⟨g, o, hA, hq, by omega, fun j v hj => ?_⟩
  rw [← hc j v hj]
  exact World.cell?_of_block (w := w) (hk g hg hq)
theorem Seq.below {B : Nat} (h : Seq f ok w Q A c l) (hb : Below B w w') (hB : w.heap.size ≤ B) : Seq f ok w' Q A c l := h.keep hb.size fun g hg _ => hb.block g (by omega)
theorem Seq.alloc (h : Seq f ok w Q A c l) (o : Obj) : Seq f ok (w.alloc o) Q A c l := h.below ((Below.refl w.heap.size w).alloc (Nat.le_refl _) o) (Nat.le_refl _)
theorem Seq.drew (h : Seq f ok w Q A c l) : Seq f ok w.drew Q A c l := h
theorem Seq.mono (h : Seq f ok w Q A c l) (hq : ∀ g, g < w.heap.size → Q g → Q' g) : Seq f ok w Q' A c l := by
  obtain ⟨h1, h2, h3, h4, h5⟩ := h
  refine ⟨h1, h2, h3, h4, fun hl => ?_⟩
  obtain ⟨g, o, hA, hg, hlt, hc⟩ := h5 hl
  exact ⟨g, o, hA, hq g hlt hg, hlt, hc⟩
theorem Seq.nil (w : World) (Q : Nat → Prop) : Seq f ok w Q none 0 [] := ⟨by simp, by simp [maxLen], fun _ => rfl, fun p h => by simp at h, fun h => absurd h (by simp)⟩
theorem Seq.get (hn : ∀ x, (f x).length = n) (h : Seq f ok w Q A c l) (j : Nat) (p : α) (hj : l[j]? = some p) : ∃ g o, A = some ⟨g, o, none⟩ ∧ Q g ∧ g < w.heap.size ∧ ∀ i v, (f p)[i]? = some v → w.cell? ⟨g, o + j * n + i, none⟩ = some v := by
  obtain ⟨h1, h2, h3, h4, h5⟩ := h
  have hlt := (List.getElem?_eq_some_iff.1 hj).1
  obtain ⟨g, o, hA, hg, hl, hc⟩ := h5 (by omega)
  exact ⟨g, o, hA, hg, hl, fun i v hv => by rw [Nat.add_assoc]; exact hc (j * n + i) v (fl_at hn l j p hj i v hv)⟩
abbrev OwnS (f : α → List Value) (n : Nat) (e : TypeId) (w : World) (base : Nat) (v : Value) (l : List α) : Prop := w.ownsRow base e n v l.length (fl f l)
variable {e : TypeId} {base : Nat} {v : Value}
theorem owns_nil (w : World) (base : Nat) : OwnS f n e w base (.slice none 0 0) [] := ⟨by simp [fl], .inl ⟨rfl, by simp⟩⟩
theorem OwnS.seq (h : OwnS f n e w base v l) (hl : ∀ p ∈ l, ok p) : ∃ A c, v = .slice A l.length c ∧ Seq f ok w (fun g => base ≤ g) A c l := by
  rcases h.2 with ⟨rfl, h0⟩ | ⟨g, cap, cur, rfl, hg, hh, hc, hm, hs, ht⟩
  · have : l = [] := List.eq_nil_of_length_eq_zero h0
    subst this
    exact ⟨none, 0, rfl, Seq.nil _ _⟩
  · have hlt : g < w.heap.size := by
      rcases Nat.lt_or_ge g w.heap.size with h | h
      · exact h
      · rw [Array.getElem?_eq_none h] at hh; cases hh
    refine ⟨_, cap, rfl, hc, hm, fun h => (by cases h), hl, fun _ => ⟨g, 0, rfl, hg, hlt, fun j v hj => ?_⟩⟩
    rw [Nat.zero_add, cell_of_row w g j cur _ _ hh]
    rw [← ht, List.getElem?_take] at hj
    split at hj
    · simpa using hj
    · cases hj
theorem OwnS.cell (hn : ∀ x, (f x).length = n) (h : OwnS f n e w base v l) (k : Nat) (p : α) (hp : l[k]? = some p) :
    ∃ g cap, v = .slice (some ⟨g, 0, none⟩) l.length cap ∧ base ≤ g ∧ g < w.heap.size ∧ l.length ≤ cap ∧ cap ≤ maxLen ∧ (∀ i u, (f p)[i]? = some u → w.cell? ⟨g, k * n + i, none⟩ = some u ∧ w.frozen? ⟨g, k * n + i, none⟩ = false) ∧
      ∀ i u q, i < n → f q = (f p).set i u → OwnS f n e (w.setCell ⟨g, k * n + i, none⟩ u) base v (l.set k q) := by
  have hk := (List.getElem?_eq_some_iff.1 hp).1
  rcases h.2 with ⟨rfl, h0⟩ | ⟨g, cap, cur, rfl, hg, hh, hc, hm, hs, ht⟩
  · omega
  · have hW : Whole w g e cur := hh
    refine ⟨g, cap, rfl, hg, hW.lt, hc, hm, fun i u hi => ⟨?_, hW.frozen _⟩, fun i u q hi hq => ?_⟩
    · have h1 := fl_at hn l k p hp i u hi
      rw [hW.cell]
      rw [← ht, List.getElem?_take] at h1
      split at h1
      · simpa using h1
      · cases h1
    · have hset := hW.set (k * n + i) u
      have e1 := fl_set hn l k p hk i u q hp hi hq
      have hlen := fl_length hn (l.set k q)
      refine ⟨by rw [hlen], .inr ⟨g, cap, _, by rw [List.length_set], hg, hset, by rw [List.length_set]; exact hc, hm, by rw [Array.size_setIfInBounds]; exact hs, ?_⟩⟩
      rw [Array.toList_setIfInBounds, List.take_set, List.length_set, ht, ← e1]
end
section
variable {P : Program} {α : Type} {f : α → List Value} {n : Nat} {ok : α → Prop}
theorem run_append_seq {w : World} (t ty e : TypeId) (z : Value) (bytes : Nat) (ht : P.underlying t = some (.slice e)) (hinfo : (P.info? e).map (fun i => (i.zero, i.size, i.bytes)) = some (some z, n, bytes)) (hz : z.cells.size = n) (hn0 : 0 < n) (hby : bytes ≤ 1000)
    (hn : ∀ x, (f x).length = n) (hone : ∀ x, ∀ v ∈ f x, v.oneCell' = true)
    (base : Nat) (v : Value) (l : List α) (hown : OwnS f n e w base v l) {Q : Nat → Prop} {A : Option Addr} {c : Nat} {ys : List α} (hr : Seq f ok w Q A c ys) (h47 : l.length + ys.length ≤ 100000000) (hbase : base ≤ w.heap.size) :
    ∃ v' w', (Builtin.append_ #[t, t] ty #[v, .slice A ys.length c]).run P w = .ok v' w' ∧ OwnS f n e w' base v' (l ++ ys) ∧ Below base w w' ∧ w.grownBy w' v.ownBlock := by
  obtain ⟨i0, hi, hz0, hz1, hz2⟩ := info_parts hinfo
  obtain ⟨h1, h2, h3, h4, h5⟩ := hr
  cases A with
  | none =>
    have h0 := h3 rfl
    subst h0
    have hy : ys = [] := List.eq_nil_of_length_eq_zero (by omega)
    subst hy
    have hrun := run_append_owned_none (P := P) (w := w) base t ty e i0 n ht hi v l.length (fl f l) hown
    exact ⟨v, w, hrun, by simpa using hown, Below.refl _ _, ⟨rfl, rfl, rfl, Nat.le_refl _, fun _ _ _ => rfl⟩⟩
  | some ad =>
    have hcells : ∀ j u, (fl f ys)[j]? = some u → w.cell? (ad.add j) = some u := fun j u hj => by
      have hlt := (List.getElem?_eq_some_iff.1 hj).1
      rw [fl_length hn] at hlt
      have hpos : 0 < ys.length := Nat.pos_of_ne_zero fun h0 => by rw [h0] at hlt; omega
      obtain ⟨g, o', e', _, _, hcell⟩ := h5 hpos
      injection e' with e'
      subst e'
      rw [Addr.add_mid]
      exact hcell j u hj
    have hbytes : (l.length + ys.length) * bytes ≤ 140737488355328 := Nat.le_trans (Nat.mul_le_mul h47 hby) (by decide)
    obtain ⟨v', w', hrun, k1, k2⟩ := run_append_own w base t ty e i0 z n bytes ht hi hz0 hz1 hz2 hz hn0 v l.length (fl f l) hown ad ys.length c (fl f ys) (fl_length hn ys) hcells (fun u hu => by
      obtain ⟨x, _, hx⟩ := List.mem_flatMap.1 hu
      exact hone x u hx) (by unfold maxLen; omega) hbytes hbase
    refine ⟨v', w', hrun, ?_, (Below.refl _ _).grown k2.1 hbase (fun k hk => (hown.lt k hk).1), k2.1⟩
    show w'.ownsRow base _ n v' (l ++ ys).length (fl f (l ++ ys))
    rw [List.length_append, fl_append]
    exact k1
theorem step_append_seq {w : World} {ops : Array Oper} {o : Oper} {a : Act} {K : Act → World → Prop} {R : Exit → Act → World → Prop} {E : Prop} (hw : Region.wanted o (yielded ops a.tmps) = true) (s x : Operand) (t e : TypeId) (z : Value) (bytes : Nat)
    (ho : o.op = .call { callee := .builtin .append, args := #[s, x], argTypes := #[t, t] }) (ht : P.underlying t = some (.slice e)) (hinfo : (P.info? e).map (fun i => (i.zero, i.size, i.bytes)) = some (some z, n, bytes)) (hz : z.cells.size = n) (hn0 : 0 < n) (hby : bytes ≤ 1000)
    (hn : ∀ x, (f x).length = n) (hone : ∀ x, ∀ v ∈ f x, v.oneCell' = true)
    (base : Nat) (v : Value) (l : List α) (hs : a.eval s = v) (hown : OwnS f n e w base v l) (Q : Nat → Prop) (A : Option Addr) (m c : Nat) (ys : List α) (hm : ys.length = m) (hx : a.eval x = .slice A m c) (hv : Seq f ok w Q A c ys) (h47 : l.length + ys.length ≤ 100000000) (hbase : base ≤ w.heap.size)
    (h : ∀ v' w', OwnS f n e w' base v' (l ++ ys) → Below base w w' → w.grownBy w' v.ownBlock → K (a.put o.dst v') w') :
    if Region.wanted o (yielded ops a.tmps) = true then Oper.wp P o a w K R else E := by
  subst hm
  rw [if_pos hw]
  obtain ⟨v', w', hrun, h1, h2, h3⟩ := run_append_seq (ty := o.type) t e z bytes ht hinfo hz hn0 hby hn hone base v l hown hv h47 hbase
  unfold Oper.wp
  simp [execOp, ho, resolve, invoke, builtin, hs, hx, hrun, Result.andThen]
  exact h v' w' h1 h2 h3
theorem seq_one {w : World} {g : Nat} {e : TypeId} {cs : Array Value} {p : α} (h : w.heap[g]? = some (.cells cs e (0, 0))) (hcs : cs = (f p).toArray) (hp : ok p) : Seq f ok w (fun b => b = g) (some ⟨g, 0, none⟩) 1 [p] := by
  subst hcs
  refine ⟨by simp, by unfold maxLen; omega, fun h => (by cases h), fun q hq => by rw [List.mem_singleton.1 hq]; exact hp, fun _ => ⟨g, 0, rfl, rfl, (Array.getElem?_eq_some_iff.1 h).1, fun j v hj => ?_⟩⟩
  rw [fl_one] at hj
  have hW : Whole w g e (f p).toArray := h
  rw [Nat.zero_add, hW.cell]
  simpa using hj
end
end Go.Proofs.Yteekdhcffiaaaaa
