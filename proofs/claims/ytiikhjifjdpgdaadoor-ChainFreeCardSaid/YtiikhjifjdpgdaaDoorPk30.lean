/-
  KPop
-/
import Derived.Great.BuildSlice
import Derived.Deep.MidRow
import Derived.Test.YtiikhjifjdpgdaaDoorPk29
import Derived.Test.YtiikhjifjdpgdaaDoorPk3
namespace Go.Proofs.YtiikhjifjdpgdaaDoor
open Go Go.RowKit

theorem tup3 {a b c a' b' c' : Value} (h : Value.tuple #[a, b, c] = Value.tuple #[a', b', c']) : a = a' ∧ b = b' ∧ c = c' := by
  injection h with h
  have := congrArg Array.toList h
  simpa using this
section
variable {P : Program} {ops : Array Oper} {Q : Exit → Act → World → Prop} {i : Nat} {o : Oper} {A : Act} {K : Act → World → Prop} {w : World}
theorem wpOp_none (ho : ops[i]? = some o) (hg : o.guard = none) (h : o.wp P A w K Q) : wpOp P ops Q i K A w := by
  unfold wpOp
  simp only [ho]
  rw [if_pos (by unfold Region.wanted; rw [hg])]
  exact .inl h
theorem wpOp_val (ho : ops[i]? = some o) (hg : o.guard = none) {x : Value} {w' : World} (hx : (execOp A.eval o).run P w = .ok (.value x) w') (h : K (A.put o.dst x) w') : wpOp P ops Q i K A w :=
  wpOp_none ho hg (by unfold Oper.wp; rw [hx]; exact h)
theorem wpOp_move {x : Operand} (ho : ops[i]? = some o) (hg : o.guard = none) (hop : o.op = .move x ∨ o.op = .assign x) {v : Value} (hv : A.eval x = v) (h : K (A.put o.dst v) w) : wpOp P ops Q i K A w := by
  subst hv
  refine wpOp_val ho hg ?_ h
  unfold execOp
  rcases hop with hop | hop <;> rw [hop] <;> rfl
theorem wpOp_extract {x : Operand} {k : Nat} (ho : ops[i]? = some o) (hg : o.guard = none) (hop : o.op = .extract x k) {vs : Array Value} {v : Value} (hv : A.eval x = .tuple vs) (hk : vs[k]? = some v) (h : K (A.put o.dst v) w) : wpOp P ops Q i K A w := by
  refine wpOp_val ho hg (x := v) ?_ h
  unfold execOp
  simp [hop, hv, Instr.extract, hk]
theorem wpOp_row {x : Operand} {ty : TypeId} (ho : ops[i]? = some o) (hg : o.guard = none) (hop : o.op = .load ty x) {b f : Nat} (hx : A.eval x = .pointer (some ⟨b, f, none⟩)) {cs : List Value} {d : TypeDesc} (hc : w.rangeAt b f cs)
    (hu : P.underlying ty = some d) (hd : d.isRow = true) (hi : (P.info? ty).map (·.size) = some cs.length) (h : K (A.put o.dst (.agg cs.toArray)) w) : wpOp P ops Q i K A w :=
  wpOp_none ho hg (wp_load_mid ty x hop b f hx cs d hc hu hd hi h)
theorem wpOp_call {f : FuncId} {args : Array Operand} {tys : Array TypeId} (ho : ops[i]? = some o) (hg : o.guard = none) (hop : o.op = .call { callee := .value (.func f), args := args, argTypes := tys }) {fn : Func} (hf : P.funcs[f]? = some fn) (hname : (fn.name == "runtime.NumGoroutine") = false) (hb : fn.body.isNone = false)
    {vs : Array Value} (hv : args.map A.eval = vs) (h : Calls P f vs w fun e w' => ∃ x, e = .returned x ∧ K (A.put o.dst x) w') : wpOp P ops Q i K A w := by
  refine wpOp_none ho hg ?_
  unfold Oper.wp
  have h1 : fn.name ≠ "runtime.NumGoroutine" := by simpa using hname
  have : (execOp A.eval o).run P w = .ok (.enter f vs) w := by
    unfold execOp
    have hb1 : ¬ fn.body = none := fun q => by rw [q] at hb; cases hb
    simp [hop, resolve, invoke, Act.eval, hv, Deferred.ofValue, callFunc, hf, h1, hb1]
  rw [this, Oper.upon_enter]
  refine h.mono ?_
  rintro e w' ⟨x, rfl, hx⟩
  exact hx
theorem wpOp_store {ty : TypeId} {x y : Operand} (ho : ops[i]? = some o) (hgd : o.guard = none) (hop : o.op = .store ty x y) {g : Nat} {cells : Array Value} (hx : A.eval x = .pointer (some ⟨g, 0, none⟩)) (hy : A.eval y = .agg cells)
    {t : TypeId} {old : Array Value} (hg : w.heap[g]? = some (.cells old t (0, 0))) (hi : (P.info? ty).map (·.size) = some cells.size) (hold : old.size = cells.size) (h1 : cells.all (·.oneCell') = true)
    (h : K (A.put o.dst undef) (w.setRow g cells)) : wpOp P ops Q i K A w :=
  wpOp_none ho hgd (wp_store_row ty x y hop g cells hx hy t old hg hi hold h1 h)
end
section
variable {P : Program} {α : Type} {f : α → List Value} {n : Nat} {ok : α → Prop}
theorem run_append_at {w : World} (t ty e : TypeId) (z : Value) (bytes : Nat) (ht : P.underlying t = some (.slice e)) (hinfo : (P.info? e).map (fun i => (i.zero, i.size, i.bytes)) = some (some z, n, bytes)) (hz : z.cells.size = n) (hn0 : 0 < n) (hby : bytes ≤ 1000)
    (hn : ∀ x, (f x).length = n) (hone : ∀ x, ∀ v ∈ f x, v.oneCell' = true)
    (v : Value) (l : List α) (hown : OwnS f n e w 0 v l) {Q : Nat → Prop} {A : Option Addr} {c : Nat} {ys : List α} (hr : Seq f ok w Q A c ys) (h47 : l.length + ys.length ≤ 100000000) :
    ∃ v' w', (Builtin.append_ #[t, t] ty #[v, .slice A ys.length c]).run P w = .ok v' w' ∧ OwnS f n e w' 0 v' (l ++ ys) ∧ Below 0 w w' ∧ w.grownBy w' v.ownBlock ∧ ∀ g, v'.ownBlock = some g → g < w'.heap.size ∧ (v.ownBlock = some g ∨ w.heap.size ≤ g) := by
  rcases id hown.2 with ⟨rfl, hl0⟩ | ⟨g, cap, cur, rfl, hg0, hh, hnc, hcm, hcs, htk⟩
  · have hl : l = [] := List.eq_nil_of_length_eq_zero hl0
    subst hl
    obtain ⟨v', w', h1, h2, h3, h4⟩ := run_append_seq (ty := ty) t e z bytes ht hinfo hz hn0 hby hn hone w.heap.size (.slice none 0 0) [] (owns_nil w _) hr h47 (Nat.le_refl _)
    refine ⟨v', w', h1, ?_, h3.mono (Nat.zero_le _), h4, fun g hg => ?_⟩
    · refine ⟨h2.1, h2.2.imp id ?_⟩
      rintro ⟨g, a, b, c, -, r⟩
      exact ⟨g, a, b, c, Nat.zero_le _, r⟩
    · have := World.ownsRow.lt h2 g hg
      exact ⟨this.2, .inr this.1⟩
  · obtain ⟨v', w', h1, h2, h3, h4⟩ := run_append_seq (ty := ty) t e z bytes ht hinfo hz hn0 hby hn hone 0 _ l hown hr h47 (Nat.zero_le _)
    refine ⟨v', w', h1, h2, h3, h4, fun k hk => ⟨(World.ownsRow.lt h2 k hk).2, ?_⟩⟩
    obtain ⟨i0, hi, hz0, hz1, hz2⟩ := info_parts hinfo
    obtain ⟨r1, r2, r3, r4, r5⟩ := hr
    cases A with
    | none =>
      have hc := r3 rfl
      subst hc
      have hy : ys.length = 0 := by omega
      rw [hy, run_append_owned_none (P := P) (w := w) 0 t ty e i0 n ht hi _ l.length (fl f l) hown] at h1
      injection h1 with e1 e2
      subst e1
      exact .inl hk
    | some ad =>
      have hcells : ∀ j u, (fl f ys)[j]? = some u → w.cell? (ad.add j) = some u := fun j u hj => by
        have hlt := (List.getElem?_eq_some_iff.1 hj).1
        rw [fl_length hn] at hlt
        have hpos : 0 < ys.length := Nat.pos_of_ne_zero fun h0 => by rw [h0] at hlt; omega
        obtain ⟨g, o', e', _, _, hcell⟩ := r5 hpos
        injection e' with e'
        subst e'
        rw [Addr.add_mid]
        exact hcell j u hj
      have hones : ∀ u ∈ fl f ys, u.oneCell' = true := fun u hu => by
        obtain ⟨x, _, hx⟩ := List.mem_flatMap.1 hu
        exact hone x u hx
      by_cases hroom : l.length + ys.length ≤ cap
      · have hfit : l.length * i0.size + (fl f ys).length ≤ cur.size := by
          rw [fl_length hn, hz1, hcs, ← Nat.add_mul]
          exact Nat.mul_le_mul_right _ hroom
        rw [run_append_room (P := P) w t ty e i0 ht hi g l.length cap cur hh ad ys.length c (fl f ys) (by rw [fl_length hn, hz1]) hcells hones hroom hfit] at h1
        injection h1 with e1 e2
        subst e1
        exact .inl hk
      · have holds : ∀ j u, (fl f l)[j]? = some u → w.cell? ((⟨g, 0, none⟩ : Addr).add j) = some u := fun j u hj => by
          have hW : Whole w g e cur := hh
          rw [Addr.add_mid, Nat.zero_add, hW.cell]
          have hlt := (List.getElem?_eq_some_iff.1 hj).1
          rw [← htk, List.getElem?_take, ] at hj
          split at hj
          · simpa using hj
          · cases hj
        have hbytes : (l.length + ys.length) * i0.bytes ≤ 140737488355328 := by rw [hz2]; exact Nat.le_trans (Nat.mul_le_mul h47 hby) (by decide)
        rw [run_append_grow (P := P) w t ty e i0 z ht hi hz0 ⟨g, 0, none⟩ l.length cap (fl f l) (by rw [fl_length hn, hz1]) holds ad ys.length c (fl f ys) (by rw [fl_length hn, hz1]) hcells (by omega) (by omega) (growslice_fits (by omega) hbytes)] at h1
        injection h1 with e1 e2
        subst e1
        injection hk with hk
        exact .inr (by rw [← hk]; exact Nat.le_refl _)
theorem OwnS.keep {w w' : World} {e : TypeId} {v : Value} {l : List α} {B : Nat} (h : OwnS f n e w B v l) (hk : ∀ g, v.ownBlock = some g → w'.heap[g]? = w.heap[g]?) : OwnS f n e w' B v l := by
  refine ⟨h.1, h.2.imp id ?_⟩
  rintro ⟨g, cap, cur, rfl, a, hh, r⟩
  exact ⟨g, cap, cur, rfl, a, (hk g rfl).trans hh, r⟩
theorem OwnS.src {w : World} {e : TypeId} {v : Value} {l : List α} {B : Nat} (h : OwnS f n e w B v l) (hl : ∀ p ∈ l, ok p) : ∃ A c, v = .slice A l.length c ∧ Seq f ok w (fun g => v.ownBlock = some g) A c l := by
  have h0 := h
  rcases h.2 with ⟨rfl, h1⟩ | ⟨g, cap, cur, rfl, hg, r⟩
  · have : l = [] := List.eq_nil_of_length_eq_zero h1
    subst this
    exact ⟨none, 0, rfl, Seq.nil _ _⟩
  · obtain ⟨A, c, e1, h2⟩ := h0.seq hl
    injection e1 with e1 e2 e3
    subst e1 e3
    refine ⟨_, _, rfl, h2.1, h2.2.1, h2.2.2.1, h2.2.2.2.1, fun hp => ?_⟩
    obtain ⟨g', o', q, -, r2⟩ := h2.2.2.2.2 hp
    injection q with q
    injection q with q1 q2
    subst q1 q2
    exact ⟨g, 0, rfl, rfl, r2⟩
end
end Go.Proofs.YtiikhjifjdpgdaaDoor
