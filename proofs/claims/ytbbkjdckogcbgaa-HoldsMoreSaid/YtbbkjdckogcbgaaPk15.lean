/-
  A slice of predicates: its cells.
  The reference's ContextOk.
-/
import Derived.Test.YtbbkjdckogcbgaaPk6
namespace Go.Proofs.Ytbbkjdckogcbgaa
open Go Go.RowKit Sh Leaf

/-- A predicate's cells. -/
def pcl (p : Prd) : List Value := [.int .i64 p.kind, .int .u64 (p.mask : Int), .int .i64 p.lo, .int .i64 p.hi, .string (sof p.name), .int .i64 p.num]
/-- The cells of a list of predicates. -/
def pcs (l : List Prd) : List Value := l.flatMap pcl
theorem pcl_length (p : Prd) : (pcl p).length = 6 := rfl
theorem pcs_length (l : List Prd) : (pcs l).length = l.length * 6 := by
  induction l with
  | nil => rfl
  | cons p t ih => rw [pcs, List.flatMap_cons, List.length_append, pcl_length]; rw [pcs] at ih; rw [ih, List.length_cons]; omega
theorem pcs_cons (p : Prd) (t : List Prd) : pcs (p :: t) = pcl p ++ pcs t := by rw [pcs, List.flatMap_cons]; rfl
theorem pcs_append (a b : List Prd) : pcs (a ++ b) = pcs a ++ pcs b := by rw [pcs, List.flatMap_append]; rfl
theorem pcs_at : ∀ (l : List Prd) (j : Nat) (p : Prd), l[j]? = some p → ∀ i v, (pcl p)[i]? = some v → (pcs l)[j * 6 + i]? = some v
  | [], j, p, h, _, _, _ => by simp at h
  | q :: t, 0, p, h, i, v, hv => by
    simp at h
    subst h
    rw [pcs_cons, Nat.zero_mul, Nat.zero_add, List.getElem?_append_left (by have := (List.getElem?_eq_some_iff.1 hv).1; exact this), hv]
  | q :: t, j + 1, p, h, i, v, hv => by
    rw [pcs_cons, List.getElem?_append_right (by rw [pcl_length]; omega), pcl_length, show (j + 1) * 6 + i - 6 = j * 6 + i by omega]
    exact pcs_at t j p (by simpa using h) i v hv
theorem pok_name_le {p : Prd} (h : pok p) : p.name.length ≤ 16 := by
  unfold pok at h
  rcases h with h | h | h | h | h | h | h
  · simp [h.2.2.2.2.1]
  · simp [h.2.2.2.2.2.1]
  · simp [h.2.2.2.2.2.1]
  · simp [h.2.2.2.2.2.1]
  · simp [h.2.2.2.2.2.2.1]
  · exact h.2.2.2.2.1.2.1
  · simp [h.2.2.2.2.1]
/-- A predicate of a program: its mask is a word, its name a string. -/
def pbd (p : Prd) : Prop := p.mask < 18446744073709551616 ∧ p.name.length ≤ 9223372036854775807
/-- The slice value .slice A l.length c reads as the predicates l; its cells lie in a block of which Q holds. -/
def Prds (w : World) (Q : Nat → Prop) (A : Option Addr) (c : Nat) (l : List Prd) : Prop :=
  l.length ≤ c ∧ c ≤ maxLen ∧ (A = none → c = 0) ∧ (∀ p ∈ l, pbd p) ∧ (0 < l.length → ∃ g o, A = some ⟨g, o, none⟩ ∧ Q g ∧ g < w.heap.size ∧ w.rangeAt g o (pcs l))
section
variable {w w' : World} {Q Q' : Nat → Prop} {A : Option Addr} {c : Nat} {l : List Prd}
theorem Prds.keep (h : Prds w Q A c l) (hs : w.heap.size ≤ w'.heap.size) (hk : ∀ g, g < w.heap.size → Q g → w'.heap[g]? = w.heap[g]?) : Prds w' Q A c l := by
  obtain ⟨h1, h2, h3, h4, h5⟩ := h
  refine ⟨h1, h2, h3, h4, fun hl => ?_⟩
  obtain ⟨g, o, hA, hq, hg, hc⟩ := h5 hl
  refine ⟨g, o, hA, hq, by omega, fun j v hj => ?_⟩
  rw [← hc j v hj]
  exact World.cell?_of_block (w := w) (hk g hg hq)
theorem Prds.below {B : Nat} (h : Prds w Q A c l) (hb : Below B w w') (hB : w.heap.size ≤ B) : Prds w' Q A c l := h.keep hb.size fun g hg _ => hb.block g (by omega)
theorem Prds.alloc (h : Prds w Q A c l) (o : Obj) : Prds (w.alloc o) Q A c l := h.below ((Below.refl w.heap.size w).alloc (Nat.le_refl _) o) (Nat.le_refl _)
theorem Prds.mono (h : Prds w Q A c l) (hq : ∀ g, g < w.heap.size → Q g → Q' g) : Prds w Q' A c l := by
  obtain ⟨h1, h2, h3, h4, h5⟩ := h
  refine ⟨h1, h2, h3, h4, fun hl => ?_⟩
  obtain ⟨g, o, hA, hg, hlt, hc⟩ := h5 hl
  exact ⟨g, o, hA, hq g hlt hg, hlt, hc⟩
theorem Prds.nil (w : World) (Q : Nat → Prop) : Prds w Q none 0 [] := ⟨by simp, by simp [maxLen], fun _ => rfl, fun p h => by simp at h, fun h => absurd h (by simp)⟩
/-- Element j: its six cells. -/
theorem Prds.get (h : Prds w Q A c l) (j : Nat) (p : Prd) (hj : l[j]? = some p) : ∃ g o, A = some ⟨g, o, none⟩ ∧ Q g ∧ g < w.heap.size ∧ w.cell? ⟨g, o + j * 6, none⟩ = some (.int .i64 p.kind) ∧ w.cell? ⟨g, o + j * 6 + 1, none⟩ = some (.int .u64 (p.mask : Int)) ∧ w.cell? ⟨g, o + j * 6 + 2, none⟩ = some (.int .i64 p.lo) ∧ w.cell? ⟨g, o + j * 6 + 3, none⟩ = some (.int .i64 p.hi) ∧ w.cell? ⟨g, o + j * 6 + 4, none⟩ = some (.string (sof p.name)) ∧ w.cell? ⟨g, o + j * 6 + 5, none⟩ = some (.int .i64 p.num) := by
  obtain ⟨h1, h2, h3, h4, h5⟩ := h
  have hlt := (List.getElem?_eq_some_iff.1 hj).1
  obtain ⟨g, o, hA, hg, hl, hc⟩ := h5 (by omega)
  have e := pcs_at l j p hj
  have f := fun i v hv => hc (j * 6 + i) v (e i v hv)
  refine ⟨g, o, hA, hg, hl, f 0 _ rfl, ?_, ?_, ?_, ?_, ?_⟩
  · rw [Nat.add_assoc]; exact f 1 _ rfl
  · rw [Nat.add_assoc]; exact f 2 _ rfl
  · rw [Nat.add_assoc]; exact f 3 _ rfl
  · rw [Nat.add_assoc]; exact f 4 _ rfl
  · rw [Nat.add_assoc]; exact f 5 _ rfl
end
end Go.Proofs.Ytbbkjdckogcbgaa
namespace Go.Proofs.Ytbbkjdckogcbgaa
open Go Go.RowKit Sh Leaf

set_option maxRecDepth 100000 in
set_option maxHeartbeats 1000000 in
theorem rctx (c : Ctx) (hn : c.holder.length ≤ 9223372036854775807) (w : World) : Calls Try.prog 12 #[cv c] w fun e w' => e = .returned (.bool (decide (cok c))) ∧ Below w.heap.size w w' := by
  obtain ⟨z, l, m, nm⟩ := c
  unfold cv
  simp only at hn ⊢
  obtain ⟨D, hD⟩ : ∃ D, D = decide (cok ⟨z, l, m, nm⟩) := ⟨_, rfl⟩
  rw [← hD]
  unfold cok at hD
  simp only at hD
  have hnm := fun W => name_ok nm W hn
  have hb1 : ∀ o, Below w.heap.size w (w.alloc o) := fun o => (Below.refl w.heap.size w).alloc (Nat.le_refl _) o
  clear hn
  by_cases h0 : 0 ≤ z
  case neg =>
    obtain rfl := hD.trans (decide_eq_false fun h => h0 h.1.1)
    clear hD hnm
    go_enter Try.func12, Try.ntmps12
    go_wp2_with (fail)
    go_ret
    exact ⟨rfl, hb1 _⟩
  by_cases h1 : z ≤ 63
  case neg =>
    obtain rfl := hD.trans (decide_eq_false fun h => h1 h.1.2)
    clear hD hnm
    go_enter Try.func12, Try.ntmps12
    go_wp2_with (fail)
    go_ret
    exact ⟨rfl, hb1 _⟩
  by_cases h2 : 0 ≤ l
  case neg =>
    obtain rfl := hD.trans (decide_eq_false fun h => h2 h.2.1.1)
    clear hD hnm
    go_enter Try.func12, Try.ntmps12
    go_wp2_with (fail)
    go_ret
    exact ⟨rfl, hb1 _⟩
  by_cases h3 : l ≤ 31
  case neg =>
    obtain rfl := hD.trans (decide_eq_false fun h => h3 h.2.1.2)
    clear hD hnm
    go_enter Try.func12, Try.ntmps12
    go_wp2_with (fail)
    go_ret
    exact ⟨rfl, hb1 _⟩
  by_cases h4 : 0 ≤ m
  case neg =>
    obtain rfl := hD.trans (decide_eq_false fun h => h4 h.2.2.1.1)
    clear hD hnm
    go_enter Try.func12, Try.ntmps12
    go_wp2_with (fail)
    go_ret
    exact ⟨rfl, hb1 _⟩
  by_cases h5 : m ≤ 67108864
  case neg =>
    obtain rfl := hD.trans (decide_eq_false fun h => h5 h.2.2.1.2)
    clear hD hnm
    go_enter Try.func12, Try.ntmps12
    go_wp2_with (fail)
    go_ret
    exact ⟨rfl, hb1 _⟩
  have hd : D = decide (nmok nm) := hD.trans (decide_eq_decide.2 ⟨fun h => h.2.2.2, fun h => ⟨⟨h0, h1⟩, ⟨h2, h3⟩, ⟨h4, h5⟩, h⟩⟩)
  rw [← hd] at hnm
  clear hD hd
  go_enter Try.func12, Try.ntmps12
  go_wp2_with (go_at_call 26; refine (hnm _).mono ?_; rintro e w' ⟨rfl, rfl⟩)
  go_ret
  exact ⟨rfl, hb1 _⟩
end Go.Proofs.Ytbbkjdckogcbgaa
