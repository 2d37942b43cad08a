/-
  Slices of slices of bytes: a slice value that reads as a list of lists; a row of slices of the call's own; append to it.
  Regions that lay and append slices of slices in any order: blocks that lie as they lay, append of a slice of slices.
-/
import Derived.Test.YteglmfimgdgchaaDoorPk3
namespace Go.Proofs.YteglmfimgdgchaaDoor
open Go Go.RowKit Sh Leaf

/-- The slice value u reads as the bytes x; its cells, if there are any, lie below B or in a block of bytes. -/
def Elem (w : World) (B : Nat) (u : Value) (x : List B8) : Prop := Bytes w (fun g => g < B ∨ ∃ cs fr, w.heap[g]? = some (.cells cs 5 fr)) u x
/-- Blocks of bytes are kept. -/
def Kb (w w' : World) : Prop := ∀ (g : Nat) (cs : Array Value) (fr : Nat × Nat), w.heap[g]? = some (.cells cs 5 fr) → w'.heap[g]? = some (.cells cs 5 fr)
theorem Kb.refl (w : World) : Kb w w := fun _ _ _ h => h
theorem Kb.trans {a b c : World} (h : Kb a b) (k : Kb b c) : Kb a c := fun g cs fr e => k g cs fr (h g cs fr e)
theorem Kb.below {w w' : World} (h : Below w.heap.size w w') : Kb w w' := fun g cs fr e => by
  have hlt : g < w.heap.size := by
    rcases Nat.lt_or_ge g w.heap.size with hl | hl
    · exact hl
    · rw [Array.getElem?_eq_none hl] at e; cases e
  rw [h.block g hlt]; exact e
theorem Kb.alloc (w : World) (o : Obj) : Kb w (w.alloc o) := Kb.below ((Below.refl _ w).alloc (Nat.le_refl _) o)
theorem Kb.drew (w : World) : Kb w w.drew := fun _ _ _ h => h
theorem Kb.grown {w w' : World} {row : Option Nat} (h : w.grownBy w' row) (hr : ∀ g, row = some g → ∀ cs fr, w.heap[g]? ≠ some (.cells cs 5 fr)) : Kb w w' := fun g cs fr e => by
  have hlt : g < w.heap.size := by
    rcases Nat.lt_or_ge g w.heap.size with hl | hl
    · exact hl
    · rw [Array.getElem?_eq_none hl] at e; cases e
  rw [h.block g hlt (fun e' => hr g e'.symm cs fr e)]; exact e
theorem Elem.keep {w w' : World} {B : Nat} {u : Value} {x : List B8} (h : Elem w B u x) (hb : Below B w w') (hk : Kb w w') : Elem w' B u x := by
  have h1 : Bytes w' (fun g => g < B ∨ ∃ cs fr, w.heap[g]? = some (.cells cs 5 fr)) u x := Bytes.keep h fun g _ hq => by
    rcases hq with hq | ⟨cs, fr, hq⟩
    · exact hb.block g hq
    · rw [hk g cs fr hq, hq]
  obtain ⟨A, c, hv, h2, h3, h4, h5⟩ := h1
  refine ⟨A, c, hv, h2, h3, h4, fun hl => ?_⟩
  obtain ⟨g, o, e, hq, hc⟩ := h5 hl
  refine ⟨g, o, e, ?_, hc⟩
  rcases hq with hq | ⟨cs, fr, hq⟩
  · exact .inl hq
  · exact .inr ⟨cs, fr, hk g cs fr hq⟩
theorem Elem.bytes {w : World} {B : Nat} {u : Value} {x : List B8} (h : Elem w B u x) : Bytes w (fun _ => True) u x := Bytes.mono h fun _ _ _ => trivial
theorem Elem.of_low {w : World} {B : Nat} {u : Value} {x : List B8} (h : Bytes w (fun g => g < B) u x) : Elem w B u x := Bytes.mono h fun _ _ hq => .inl hq
theorem Elem.of_own {w : World} {base B : Nat} {v : Value} {l : List B8} (h : w.ownsRow base 5 1 v l.length (l.map byt)) : Elem w B v l := by
  have hb := Bytes.of_own h
  rcases h.2 with ⟨rfl, hn⟩ | ⟨g, cap, cur, rfl, hg, hh, -⟩
  · have : l = [] := List.eq_nil_of_length_eq_zero hn
    subst this
    exact Bytes.nil _ _
  · obtain ⟨A, c, hv, h2, h3, h4, h5⟩ := hb
    refine ⟨A, c, hv, h2, h3, h4, fun hl => ?_⟩
    obtain ⟨g', o, e, hq, hc⟩ := h5 hl
    injection hv with e1 _ _
    rw [e] at e1
    injection e1 with e1
    injection e1 with e1 _ _
    subst e1
    exact ⟨g, o, e, .inr ⟨cur, (0, 0), hh⟩, hc⟩
theorem Elem.whole {w : World} {B g : Nat} {l : List B8} (h : Whole w g 5 (l.map byt).toArray) (hl : l.length ≤ 1000000) : Elem w B (.slice (some ⟨g, 0, none⟩) l.length l.length) l :=
  Bytes.mono (h.bytes hl) fun _ _ e => .inr ⟨_, _, e ▸ h.eq⟩
theorem Elem.nil (w : World) (B : Nat) : Elem w B (.slice none 0 0) [] := Bytes.nil _ _
theorem Elem.one {w : World} {B : Nat} {u : Value} {x : List B8} (h : Elem w B u x) : u.oneCell' = true := by
  obtain ⟨A, c, rfl, -⟩ := h; rfl

/-- The values us read as the lists ll, one by one. -/
def Each (w : World) (B : Nat) (us : List Value) (ll : List (List B8)) : Prop := us.length = ll.length ∧ ∀ (j : Nat) (u : Value) (x : List B8), us[j]? = some u → ll[j]? = some x → Elem w B u x
theorem Each.keep {w w' : World} {B : Nat} {us : List Value} {ll : List (List B8)} (h : Each w B us ll) (hb : Below B w w') (hk : Kb w w') : Each w' B us ll := ⟨h.1, fun j u x h1 h2 => (h.2 j u x h1 h2).keep hb hk⟩
theorem Each.nil (w : World) (B : Nat) : Each w B [] [] := ⟨rfl, fun j u x h => by simp at h⟩
theorem Each.snoc {w : World} {B : Nat} {us : List Value} {ll : List (List B8)} {u : Value} {x : List B8} (h : Each w B us ll) (hu : Elem w B u x) : Each w B (us ++ [u]) (ll ++ [x]) := by
  refine ⟨by simp [h.1], fun j v y h1 h2 => ?_⟩
  rw [List.getElem?_append] at h1 h2
  by_cases hj : j < us.length
  · rw [if_pos hj] at h1
    rw [if_pos (by rw [← h.1]; exact hj)] at h2
    exact h.2 j v y h1 h2
  · rw [if_neg hj] at h1
    rw [if_neg (by rw [← h.1]; exact hj)] at h2
    have e1 : j - us.length = 0 := by
      have := (List.getElem?_eq_some_iff.1 h1).1
      simp at this; omega
    rw [← h.1, e1] at h2
    rw [e1] at h1
    simp at h1 h2
    subst h1 h2
    exact hu
theorem Each.one {w : World} {B : Nat} {us : List Value} {ll : List (List B8)} (h : Each w B us ll) : ∀ u ∈ us, u.oneCell' = true := by
  intro u hu
  obtain ⟨j, hj, rfl⟩ := List.getElem_of_mem hu
  exact (h.2 j _ _ (List.getElem?_eq_getElem hj) (List.getElem?_eq_getElem (by rw [← h.1]; exact hj))).one

/-- The slice value v reads as the list of lists ll. -/
def Lists (w : World) (v : Value) (ll : List (List B8)) : Prop :=
  ∃ A c us, v = .slice A ll.length c ∧ ll.length ≤ c ∧ c ≤ maxLen ∧ (A = none → c = 0) ∧ Each w w.heap.size us ll ∧ (0 < ll.length → ∃ g o, A = some ⟨g, o, none⟩ ∧ ∀ j u, us[j]? = some u → w.cell? ⟨g, o + j, none⟩ = some u)
theorem Lists.below {w w' : World} {B : Nat} {v : Value} {ll : List (List B8)} (h : Lists w v ll) (hb : Below B w w') (hB : w.heap.size ≤ B) : Lists w' v ll := by
  obtain ⟨A, c, us, hv, h1, h2, h3, h4, h5⟩ := h
  have hb' := hb.mono hB
  refine ⟨A, c, us, hv, h1, h2, h3, ⟨h4.1, fun j u x e1 e2 => Bytes.mono ((h4.2 j u x e1 e2).keep hb' (Kb.below hb')) fun g hg _ => .inl hg⟩, fun hl => ?_⟩
  obtain ⟨g, o, e, hc⟩ := h5 hl
  refine ⟨g, o, e, fun j u hj => ?_⟩
  have := hc j u hj
  rw [hb'.cell (p := ⟨g, o + j, none⟩) (block_lt_of_cell this)]
  exact this
theorem Lists.nil (w : World) : Lists w (.slice none 0 0) [] := ⟨none, 0, [], rfl, by simp, by simp [maxLen], fun _ => rfl, Each.nil _ _, fun h => absurd h (by simp)⟩
theorem Lists.alloc {w : World} {v : Value} {ll : List (List B8)} (h : Lists w v ll) (o : Obj) : Lists (w.alloc o) v ll := h.below ((Below.refl w.heap.size w).alloc (Nat.le_refl _) o) (Nat.le_refl _)
theorem Lists.drew {w : World} {v : Value} {ll : List (List B8)} (h : Lists w v ll) : Lists w.drew v ll := h
theorem Lists.drewN {w : World} {v : Value} {ll : List (List B8)} (h : Lists w v ll) (n : Nat) : Lists (w.drewN n) v ll := h
/-- The element at j: its cell, and what it reads as. -/
theorem Lists.get {w : World} {A : Option Addr} {n c : Nat} {ll : List (List B8)} (h : Lists w (.slice A n c) ll) : n = ll.length ∧ ll.length ≤ c ∧ c ≤ maxLen ∧ (∀ j (hj : j < ll.length), ∃ g o A' c', A = some ⟨g, o, none⟩ ∧ w.cell? ⟨g, o + j, none⟩ = some (.slice A' ll[j].length c') ∧ Bytes w (fun _ => True) (.slice A' ll[j].length c') ll[j] ∧ g < w.heap.size) := by
  obtain ⟨A0, c0, us, hv, h1, h2, h3, h4, h5⟩ := h
  injection hv with e1 e2 e3
  subst e1 e2 e3
  refine ⟨rfl, h1, h2, fun j hj => ?_⟩
  obtain ⟨g, o, e, hc⟩ := h5 (by omega)
  have hj' : j < us.length := by rw [h4.1]; exact hj
  have hu := h4.2 j us[j] ll[j] (List.getElem?_eq_getElem hj') (List.getElem?_eq_getElem hj)
  have hcj := hc j us[j] (List.getElem?_eq_getElem hj')
  obtain ⟨A', c', hv', -⟩ := id hu
  rw [hv'] at hcj hu
  exact ⟨g, o, A', c', e, hcj, hu.bytes, block_lt_of_cell (a := ⟨g, o + j, none⟩) hcj⟩
/-- A row of the call's own whose values read as lists. -/
theorem Lists.of_own {w : World} {base B : Nat} {v : Value} {us : List Value} {ll : List (List B8)} (h : w.ownsRow base 40 1 v us.length us) (he : Each w B us ll) : Lists w v ll := by
  have he' : Each w w.heap.size us ll := ⟨he.1, fun j u x e1 e2 => Bytes.mono (he.2 j u x e1 e2) fun g hg _ => .inl hg⟩
  rcases h.2 with ⟨rfl, hn⟩ | ⟨g, cap, cur, rfl, hg, hh, hc, hm, hs, ht⟩
  · have : us = [] := List.eq_nil_of_length_eq_zero hn
    subst this
    have : ll = [] := List.eq_nil_of_length_eq_zero he.1.symm
    subst this
    exact Lists.nil _
  · refine ⟨_, cap, us, by rw [he.1], by rw [← he.1]; exact hc, hm, fun h => (by cases h), he', fun _ => ⟨g, 0, rfl, fun j u hj => ?_⟩⟩
    rw [cell_of_row w g (0 + j) cur _ _ hh, Nat.zero_add]
    rw [← ht, List.getElem?_take] at hj
    split at hj
    · simpa using hj
    · cases hj

theorem sliceInfo : (Tryd.prog.info? 40).map (fun i => (i.zero, i.size, i.bytes)) = some (some (.slice none 0 0), 1, 24) := by kernel_rfl
/-- append(own, values...) -/
theorem run_append_vals {w : World} (ty : TypeId) (base : Nat) (v : Value) (us : List Value) (hown : w.ownsRow base 40 1 v us.length us)
    (ad : Addr) (n c : Nat) (ys : List Value) (hn : ys.length = n) (hcells : ∀ j u, ys[j]? = some u → w.cell? (ad.add j) = some u) (hone : ∀ u ∈ ys, u.oneCell' = true) (h47 : us.length + ys.length ≤ 1000000000) (hbase : base ≤ w.heap.size) :
    ∃ v' w', (Builtin.append_ #[44, 44] ty #[v, .slice (some ad) n c]).run Tryd.prog w = .ok v' w' ∧ w'.ownsRow base 40 1 v' (us ++ ys).length (us ++ ys) ∧ Below base w w' ∧ Kb w w' ∧ w.grownBy w' v.ownBlock := by
  subst hn
  obtain ⟨i0, hi, hz0, hz1, hz2⟩ := info_parts sliceInfo
  obtain ⟨v', w', hrun, h1, h2⟩ := run_append_own w base 44 ty 40 i0 (.slice none 0 0) 1 24 Tryd.underlying44 hi hz0 hz1 hz2 rfl (by decide) v us.length us hown ad ys.length c ys (by simp) hcells hone (by unfold maxLen; omega) (by omega) hbase
  refine ⟨v', w', hrun, by rw [List.length_append]; exact h1, (Below.refl _ _).grown h2.1 hbase (fun k hk => (hown.lt k hk).1), Kb.grown h2.1 fun g hg cs fr => ?_, h2.1⟩
  rcases hown.2 with ⟨rfl, _⟩ | ⟨g', cap, cur, rfl, hge, hh, _⟩
  · simp [Value.ownBlock] at hg
  · simp [Value.ownBlock] at hg
    subst hg
    rw [hh]
    intro e
    injection e with e
    injection e with _ e _
    exact absurd e (by decide)
/-- append(own, u), u laid in a block of its own. -/
theorem wpList_append_elem {w : World} {ops : Array Oper} {rest : List Oper} {o : Oper} {a : Act} {R : Exit → Act → World → Prop} (hw : Region.wanted o (yielded ops a.tmps) = true) (s x : Operand)
    (ho : o.op = .call { callee := .builtin .append, args := #[s, x], argTypes := #[44, 44] })
    (base : Nat) (v : Value) (us : List Value) (hs : a.eval s = v) (hown : w.ownsRow base 40 1 v us.length us) (u : Value) (hu : u.oneCell' = true)
    (g c : Nat) (hx : a.eval x = .slice (some ⟨g, 0, none⟩) 1 c) (hg : w.cell? ⟨g, 0, none⟩ = some u) (h47 : us.length ≤ 900000000) (hbase : base ≤ w.heap.size)
    (h : ∀ v' w', w'.ownsRow base 40 1 v' (us ++ [u]).length (us ++ [u]) → Below base w w' → Kb w w' → w.grownBy w' v.ownBlock → wpList Tryd.prog ops R rest (a.put o.dst v') w') : wpList Tryd.prog ops R (o :: rest) a w := by
  obtain ⟨v', w', hrun, h1, h2, h3, h4⟩ := run_append_vals o.type base v us hown ⟨g, 0, none⟩ 1 c [u] rfl (fun j y hj => by
    match j, hj with
    | 0, hj => simp at hj; subst hj; rw [Addr.add_mid]; exact hg
    | j + 1, hj => simp at hj) (fun y hy => by simp at hy; subst hy; exact hu) (by simp; omega) hbase
  show if Region.wanted o (yielded ops a.tmps) then _ else _
  rw [if_pos hw]
  left
  unfold Oper.wp
  simp [execOp, ho, resolve, invoke, builtin, hs, hx, hrun, Result.andThen]
  exact h v' w' h1 h2 h3 h4
/-- .. as a step of a drawn region. -/
theorem step_append_elem {w : World} {ops : Array Oper} {o : Oper} {a : Act} {K : Act → World → Prop} {R : Exit → Act → World → Prop} {E : Prop} (hw : Region.wanted o (yielded ops a.tmps) = true) (s x : Operand)
    (ho : o.op = .call { callee := .builtin .append, args := #[s, x], argTypes := #[44, 44] })
    (base : Nat) (v : Value) (us : List Value) (hs : a.eval s = v) (hown : w.ownsRow base 40 1 v us.length us) (u : Value) (hu : u.oneCell' = true)
    (g c : Nat) (hx : a.eval x = .slice (some ⟨g, 0, none⟩) 1 c) (hg : w.cell? ⟨g, 0, none⟩ = some u) (h47 : us.length ≤ 900000000) (hbase : base ≤ w.heap.size)
    (h : ∀ v' w', w'.ownsRow base 40 1 v' (us ++ [u]).length (us ++ [u]) → Below base w w' → Kb w w' → w.grownBy w' v.ownBlock → K (a.put o.dst v') w') :
    if Region.wanted o (yielded ops a.tmps) = true then Oper.wp Tryd.prog o a w K R else E := by
  rw [if_pos hw]
  obtain ⟨v', w', hrun, h1, h2, h3, h4⟩ := run_append_vals o.type base v us hown ⟨g, 0, none⟩ 1 c [u] rfl (fun j y hj => by
    match j, hj with
    | 0, hj => simp at hj; subst hj; rw [Addr.add_mid]; exact hg
    | j + 1, hj => simp at hj) (fun y hy => by simp at hy; subst hy; exact hu) (by simp; omega) hbase
  unfold Oper.wp
  simp [execOp, ho, resolve, invoke, builtin, hs, hx, hrun, Result.andThen]
  exact h v' w' h1 h2 h3 h4
/-- The length of a slice value. -/
def vlen : Value → Nat
  | .slice _ n _ => n
  | _ => 0
end Go.Proofs.YteglmfimgdgchaaDoor
namespace Go.Proofs.YteglmfimgdgchaaDoor
open Go Go.RowKit Sh Leaf

/-- What lay in w lies in W, and blocks of bytes are kept. -/
structure Ctx (w W : World) : Prop where
  low : Below w.heap.size w W
  kb : Kb w W
theorem Ctx.refl (w : World) : Ctx w w := ⟨Below.refl _ _, Kb.refl _⟩
theorem Ctx.alloc {w W : World} (h : Ctx w W) (o : Obj) : Ctx w (W.alloc o) := ⟨h.low.alloc h.low.size o, h.kb.trans (Kb.alloc _ _)⟩
theorem Ctx.drew {w W : World} (h : Ctx w W) : Ctx w W.drew := ⟨h.low.drew, h.kb⟩
theorem Ctx.trans {w W X : World} (h : Ctx w W) (h1 : Below w.heap.size W X) (h2 : Kb W X) : Ctx w X := ⟨h.low.trans h1, h.kb.trans h2⟩
theorem blk_new (W : World) (o : Obj) (g : Nat) (hg : g = W.heap.size) : (W.alloc o).heap[g]? = some o := by subst hg; exact heap_alloc_new W o
theorem blk_alloc {W : World} {g : Nat} {o' : Obj} (h : W.heap[g]? = some o') (o : Obj) : (W.alloc o).heap[g]? = some o' := (Below.heap_alloc W o g (Array.getElem?_eq_some_iff.1 h).1).trans h
theorem blk_drew {W : World} {g : Nat} {o' : Obj} (h : W.heap[g]? = some o') : W.drew.heap[g]? = some o' := h
theorem blk_grown {W w1 : World} {v : Value} {g : Nat} {o : Obj} (hg : W.grownBy w1 v.ownBlock) (h : W.heap[g]? = some o) (hn : v.ownBlock ≠ some g) : w1.heap[g]? = some o :=
  (hg.block g (Array.getElem?_eq_some_iff.1 h).1 (fun e => hn e.symm)).trans h
theorem cell_of_blk {W : World} {g : Nat} {u : Value} {t : TypeId} (h : W.heap[g]? = some (.cells #[u] t (0, 0))) : W.cell? ⟨g, 0, none⟩ = some u := by rw [cell_of_row W g 0 _ t (0, 0) h]; rfl
theorem own_empty {W : World} {base g : Nat} (h : W.heap[g]? = some (.cells #[] 40 (0, 0))) (hb : base ≤ g) : W.ownsRow base 40 1 (.slice (some ⟨g, 0, none⟩) 0 0) 0 [] :=
  ⟨rfl, .inr ⟨g, 0, #[], rfl, hb, h, Nat.le_refl _, by unfold maxLen; omega, rfl, rfl⟩⟩
theorem own_not_bytes {W : World} {base : Nat} {v : Value} {n : Nat} {us : List Value} (h : W.ownsRow base 40 1 v n us) : ∀ g, v.ownBlock = some g → ∀ cs fr, W.heap[g]? ≠ some (.cells cs 5 fr) := by
  intro g hg cs fr
  rcases h.2 with ⟨rfl, _⟩ | ⟨g', cap, cur, rfl, hge, hh, _⟩
  · simp [Value.ownBlock] at hg
  · simp [Value.ownBlock] at hg
    subst hg
    rw [hh]
    intro e
    injection e with e
    injection e with _ e _
    exact absurd e (by decide)

/-- The slice value v has the values us. -/
def Vals (W : World) (v : Value) (us : List Value) : Prop :=
  ∃ A c, v = .slice A us.length c ∧ us.length ≤ c ∧ (A = none → c = 0) ∧ (∀ u ∈ us, u.oneCell' = true) ∧ (0 < us.length → ∃ g o, A = some ⟨g, o, none⟩ ∧ ∀ (j : Nat) (u : Value), us[j]? = some u → W.cell? ⟨g, o + j, none⟩ = some u)
theorem Vals.ctx {w W : World} {v : Value} {us : List Value} (h : Vals w v us) (hc : Ctx w W) : Vals W v us := by
  obtain ⟨A, c, h1, h2, h3, h4, h5⟩ := h
  refine ⟨A, c, h1, h2, h3, h4, fun h0 => ?_⟩
  obtain ⟨g, o, e, hcell⟩ := h5 h0
  exact ⟨g, o, e, fun j u hj => by rw [hc.low.cell (p := ⟨g, o + j, none⟩) (block_lt_of_cell (hcell j u hj))]; exact hcell j u hj⟩
theorem Lists.vals {w : World} {v : Value} {ll : List (List B8)} (h : Lists w v ll) : ∃ us, Vals w v us ∧ Each w w.heap.size us ll := by
  obtain ⟨A, c, us, h1, h2, h3, h4, h5, h6⟩ := h
  refine ⟨us, ⟨A, c, by rw [h5.1]; exact h1, by rw [h5.1]; exact h2, h4, h5.one, fun h0 => h6 (by rw [← h5.1]; exact h0)⟩, h5⟩
/-- append(own, src...) -/
theorem step_append_vals {w : World} {ops : Array Oper} {o : Oper} {a : Act} {K : Act → World → Prop} {R : Exit → Act → World → Prop} {E : Prop} (hw : Region.wanted o (yielded ops a.tmps) = true) (s x : Operand)
    (ho : o.op = .call { callee := .builtin .append, args := #[s, x], argTypes := #[44, 44] })
    (base : Nat) (v : Value) (us : List Value) (hs : a.eval s = v) (hown : w.ownsRow base 40 1 v us.length us) (vs : Value) (ys : List Value)
    (hx : a.eval x = vs) (hv : Vals w vs ys) (h47 : us.length + ys.length ≤ 900000000) (hbase : base ≤ w.heap.size)
    (h : ∀ v' w', w'.ownsRow base 40 1 v' (us ++ ys).length (us ++ ys) → Below base w w' → Kb w w' → w.grownBy w' v.ownBlock → K (a.put o.dst v') w') :
    if Region.wanted o (yielded ops a.tmps) = true then Oper.wp Tryd.prog o a w K R else E := by
  rw [if_pos hw]
  obtain ⟨A, c, rfl, h2, h3, h4, h5⟩ := hv
  unfold Oper.wp
  cases A with
  | none =>
    have h0 := h3 rfl
    subst h0
    have hy : ys = [] := List.eq_nil_of_length_eq_zero (by omega)
    subst hy
    obtain ⟨i0, hi, hz0, hz1, hz2⟩ := info_parts sliceInfo
    have hrun := run_append_owned_none (P := Tryd.prog) (w := w) base 44 o.type 40 i0 1 Tryd.underlying44 hi v us.length us hown
    simp [execOp, ho, resolve, invoke, builtin, hs, hx, hrun, Result.andThen]
    exact h v w (by simpa using hown) (Below.refl _ _) (Kb.refl _) ⟨rfl, rfl, rfl, Nat.le_refl _, fun _ _ _ => rfl⟩
  | some ad =>
    have hcells : ∀ j u, ys[j]? = some u → w.cell? (ad.add j) = some u := fun j u hj => by
      have hlt := (List.getElem?_eq_some_iff.1 hj).1
      obtain ⟨g, o', e, hcell⟩ := h5 (by omega)
      injection e with e
      subst e
      rw [Addr.add_mid]
      exact hcell j u hj
    obtain ⟨v', w', hrun, h1, h2, h3, h4⟩ := run_append_vals o.type base v us hown ad ys.length c ys rfl hcells h4 (by omega) hbase
    simp [execOp, ho, resolve, invoke, builtin, hs, hx, hrun, Result.andThen]
    exact h v' w' h1 h2 h3 h4
/-- append(own, u), the value u found in its block. -/
theorem step_append_found {w : World} {ops : Array Oper} {o : Oper} {a : Act} {K : Act → World → Prop} {R : Exit → Act → World → Prop} {E : Prop} (hw : Region.wanted o (yielded ops a.tmps) = true) (s x : Operand)
    (ho : o.op = .call { callee := .builtin .append, args := #[s, x], argTypes := #[44, 44] })
    (base : Nat) (v : Value) (us : List Value) (hs : a.eval s = v) (hown : w.ownsRow base 40 1 v us.length us)
    (g c : Nat) (hx : a.eval x = .slice (some ⟨g, 0, none⟩) 1 c) (u : Value) (t : TypeId) (hg : w.heap[g]? = some (.cells #[u] t (0, 0))) (hu : u.oneCell' = true) (h47 : us.length ≤ 900000000) (hbase : base ≤ w.heap.size)
    (h : ∀ v' w', w'.ownsRow base 40 1 v' (us ++ [u]).length (us ++ [u]) → Below base w w' → Kb w w' → w.grownBy w' v.ownBlock → K (a.put o.dst v') w') :
    if Region.wanted o (yielded ops a.tmps) = true then Oper.wp Tryd.prog o a w K R else E :=
  step_append_elem hw s x ho base v us hs hown u hu g c hx (cell_of_blk hg) h47 hbase h
end Go.Proofs.YteglmfimgdgchaaDoor
