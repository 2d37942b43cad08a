/-
  KAtF
  ChnGrw
-/
import Derived.Test.YtiikhjifjdpgdaaDoorPk30
import Derived.Test.YtiikhjifjdpgdaaDoorPk22
import Derived.Deep.CutBlock
import Derived.Deep.DeepCutAuto
import Derived.Test.YtiikhjifjdpgdaaDoorPk35
import Derived.Test.YtiikhjifjdpgdaaDoorPk34
import Derived.Test.YtiikhjifjdpgdaaDoorPk24
namespace Go.Proofs.YtiikhjifjdpgdaaDoor
open Go Go.RowKit Sh Leaf

def AtB : Nat → Option Nat
  | _ => none
def AtS : Nat → List Nat
  | 0 => [0]
  | 1 => [1]
  | 2 => [2]
  | 3 => [3]
  | 4 => [4]
  | 5 => [5]
  | 6 => [6]
  | 7 => [7]
  | 8 => [8, 7]
  | 9 => [9, 8]
  | 10 => [10, 8]
  | 11 => [11, 8]
  | 12 => [12, 9]
  | 13 => [13, 10]
  | 14 => [14, 11]
  | _ => []
def AtF (Ga Gp : Nat) (va vp vl vc : Value) (g0 o ix Gx : Nat) (N : Nat) (Q : Nat → Prop) (R : Alg × Pss × Int) : Nat → (Nat → Value) → (Nat → Prop) → World → Prop
  | 0, v, _, _ => v 0 = va
  | 1, v, _, _ => v 1 = vp
  | 2, v, _, _ => v 2 = .pointer (some ⟨Gx, 2, none⟩)
  | 3, v, _, _ => v 3 = vl
  | 4, v, _, _ => v 4 = .int .i64 (ix : Int)
  | 5, v, _, _ => v 5 = .pointer (some ⟨g0, o + ix * 10, none⟩)
  | 6, v, _, _ => v 6 = vc
  | 7, v, T, w => ∃ x y, v 7 = .tuple #[x, y, .int .i64 R.2.2] ∧ AlV w (fun g => (g < N ∧ Q g) ∨ T g) x R.1 ∧ PssV w (fun g => (g < N ∧ Q g) ∨ T g) y R.2.1
  | 8, v, _, _ => v 8 = v 7
  | 9, v, _, _ => ∃ y e, v 8 = .tuple #[v 9, y, e]
  | 10, v, _, _ => ∃ x e, v 8 = .tuple #[x, v 10, e]
  | 11, v, _, _ => ∃ x y, v 8 = .tuple #[x, y, v 11]
  | 12, v, T, w => ∃ c, v 9 = .agg c ∧ (∀ k, k = Ga → T k) ∧ Whole w Ga 32 c
  | 13, v, T, w => ∃ c, v 10 = .agg c ∧ (∀ k, k = Gp → T k) ∧ Whole w Gp 51 c
  | 14, v, _, _ => v 14 = v 11
  | _, _, _, _ => True
def AtZ (Ga Gp : Nat) : Nat → Option Nat
  | 12 => some Ga
  | 13 => some Gp
  | _ => none
theorem AtZ_is {Ga Gp k g : Nat} (h : AtZ Ga Gp k = some g) : (k = 12 ∧ g = Ga) ∨ (k = 13 ∧ g = Gp) := by
  unfold AtZ at h
  split at h
  · injection h with h; exact .inl ⟨rfl, h.symm⟩
  · injection h with h; exact .inr ⟨rfl, h.symm⟩
  · cases h
theorem AtF_sup (Ga Gp : Nat) (va vp vl vc : Value) (g0 o ix Gx : Nat) (N : Nat) (Q : Nat → Prop) (R : Alg × Pss × Int) : ∀ i v v' T w, i < 15 → (∀ j, j ∈ AtS i → v j = v' j) → AtF Ga Gp va vp vl vc g0 o ix Gx N Q R i v T w → AtF Ga Gp va vp vl vc g0 o ix Gx N Q R i v' T w := by
  intro i v v' T w hi h hf
  have e : ∀ j, j ∈ AtS i → v' j = v j := fun j hj => (h j hj).symm
  obtain rfl | rfl | rfl | rfl | rfl | rfl | rfl | rfl | rfl | rfl | rfl | rfl | rfl | rfl | rfl : i = 0 ∨ i = 1 ∨ i = 2 ∨ i = 3 ∨ i = 4 ∨ i = 5 ∨ i = 6 ∨ i = 7 ∨ i = 8 ∨ i = 9 ∨ i = 10 ∨ i = 11 ∨ i = 12 ∨ i = 13 ∨ i = 14 := by have : i < 15 := hi; omega
  · change v 0 = va at hf
    change v' 0 = va
    rw [e 0 (by decide)]
    exact hf
  · change v 1 = vp at hf
    change v' 1 = vp
    rw [e 1 (by decide)]
    exact hf
  · change v 2 = .pointer (some ⟨Gx, 2, none⟩) at hf
    change v' 2 = .pointer (some ⟨Gx, 2, none⟩)
    rw [e 2 (by decide)]
    exact hf
  · change v 3 = vl at hf
    change v' 3 = vl
    rw [e 3 (by decide)]
    exact hf
  · change v 4 = .int .i64 (ix : Int) at hf
    change v' 4 = .int .i64 (ix : Int)
    rw [e 4 (by decide)]
    exact hf
  · change v 5 = .pointer (some ⟨g0, o + ix * 10, none⟩) at hf
    change v' 5 = .pointer (some ⟨g0, o + ix * 10, none⟩)
    rw [e 5 (by decide)]
    exact hf
  · change v 6 = vc at hf
    change v' 6 = vc
    rw [e 6 (by decide)]
    exact hf
  · change ∃ x y, v 7 = .tuple #[x, y, .int .i64 R.2.2] ∧ AlV w (fun g => (g < N ∧ Q g) ∨ T g) x R.1 ∧ PssV w (fun g => (g < N ∧ Q g) ∨ T g) y R.2.1 at hf
    change ∃ x y, v' 7 = .tuple #[x, y, .int .i64 R.2.2] ∧ AlV w (fun g => (g < N ∧ Q g) ∨ T g) x R.1 ∧ PssV w (fun g => (g < N ∧ Q g) ∨ T g) y R.2.1
    rw [e 7 (by decide)]
    exact hf
  · change v 8 = v 7 at hf
    change v' 8 = v' 7
    rw [e 8 (by decide), e 7 (by decide)]
    exact hf
  · change ∃ y e, v 8 = .tuple #[v 9, y, e] at hf
    change ∃ y e, v' 8 = .tuple #[v' 9, y, e]
    rw [e 9 (by decide), e 8 (by decide)]
    exact hf
  · change ∃ x e, v 8 = .tuple #[x, v 10, e] at hf
    change ∃ x e, v' 8 = .tuple #[x, v' 10, e]
    rw [e 10 (by decide), e 8 (by decide)]
    exact hf
  · change ∃ x y, v 8 = .tuple #[x, y, v 11] at hf
    change ∃ x y, v' 8 = .tuple #[x, y, v' 11]
    rw [e 11 (by decide), e 8 (by decide)]
    exact hf
  · change ∃ c, v 9 = .agg c ∧ (∀ k, k = Ga → T k) ∧ Whole w Ga 32 c at hf
    change ∃ c, v' 9 = .agg c ∧ (∀ k, k = Ga → T k) ∧ Whole w Ga 32 c
    rw [e 9 (by decide)]
    exact hf
  · change ∃ c, v 10 = .agg c ∧ (∀ k, k = Gp → T k) ∧ Whole w Gp 51 c at hf
    change ∃ c, v' 10 = .agg c ∧ (∀ k, k = Gp → T k) ∧ Whole w Gp 51 c
    rw [e 10 (by decide)]
    exact hf
  · change v 14 = v 11 at hf
    change v' 14 = v' 11
    rw [e 14 (by decide), e 11 (by decide)]
    exact hf
theorem AtF_keep (Ga Gp : Nat) (va vp vl vc : Value) (g0 o ix Gx : Nat) (N : Nat) (Q : Nat → Prop) (R : Alg × Pss × Int) (hz : ∀ g, Q g → ∀ k, AtZ Ga Gp k ≠ some g) : ∀ i v T w w', i < 15 → AtF Ga Gp va vp vl vc g0 o ix Gx N Q R i v T w → w.heap.size ≤ w'.heap.size → (∀ g, g < w.heap.size → ((g < N ∧ ∀ k, AtZ Ga Gp k ≠ some g) ∨ T g) → w'.heap[g]? = w.heap[g]?) → AtF Ga Gp va vp vl vc g0 o ix Gx N Q R i v T w' := by
  intro i v T w w' hi hf hs hk
  obtain rfl | rfl | rfl | rfl | rfl | rfl | rfl | rfl | rfl | rfl | rfl | rfl | rfl | rfl | rfl : i = 0 ∨ i = 1 ∨ i = 2 ∨ i = 3 ∨ i = 4 ∨ i = 5 ∨ i = 6 ∨ i = 7 ∨ i = 8 ∨ i = 9 ∨ i = 10 ∨ i = 11 ∨ i = 12 ∨ i = 13 ∨ i = 14 := by have : i < 15 := hi; omega
  · exact hf
  · exact hf
  · exact hf
  · exact hf
  · exact hf
  · exact hf
  · exact hf
  · obtain ⟨x, y, h1, h2, h3⟩ := hf
    exact ⟨x, y, h1, h2.keep hs fun g hg hq => hk g hg (hq.imp (fun q => ⟨q.1, hz g q.2⟩) id), h3.keep hs fun g hg hq => hk g hg (hq.imp (fun q => ⟨q.1, hz g q.2⟩) id)⟩
  · exact hf
  · exact hf
  · exact hf
  · exact hf
  · obtain ⟨c, h1, h2, h3⟩ := hf
    exact ⟨c, h1, h2, (hk _ h3.lt (.inr (h2 _ rfl))).trans h3⟩
  · obtain ⟨c, h1, h2, h3⟩ := hf
    exact ⟨c, h1, h2, (hk _ h3.lt (.inr (h2 _ rfl))).trans h3⟩
  · exact hf
end Go.Proofs.YtiikhjifjdpgdaaDoor
namespace Go.Proofs.YtiikhjifjdpgdaaDoor
open Go Go.RowKit Sh Leaf

theorem wpList_append_at {P : Program} {α : Type} {f : α → List Value} {n : Nat} {ok : α → Prop} {w : World} {ops : Array Oper} {rest : List Oper} {o : Oper} {a : Act} {R : Exit → Act → World → Prop} (hw : Region.wanted o (yielded ops a.tmps) = true) (s x : Operand) (t e : TypeId) (z : Value) (bytes : Nat)
    (ho : o.op = .call { callee := .builtin .append, args := #[s, x], argTypes := #[t, t] }) (ht : P.underlying t = some (.slice e)) (hinfo : (P.info? e).map (fun i => (i.zero, i.size, i.bytes)) = some (some z, n, bytes)) (hz : z.cells.size = n) (hn0 : 0 < n) (hby : bytes ≤ 1000)
    (hn : ∀ x, (f x).length = n) (hone : ∀ x, ∀ v ∈ f x, v.oneCell' = true)
    (v : Value) (l : List α) (hs : a.eval s = v) (hown : OwnS f n e w 0 v l) (Q : Nat → Prop) (A : Option Addr) (m c : Nat) (ys : List α) (hm : ys.length = m) (hx : a.eval x = .slice A m c) (hv : Seq f ok w Q A c ys) (h47 : l.length + ys.length ≤ 100000000)
    (h : ∀ v' w', OwnS f n e w' 0 v' (l ++ ys) → Below 0 w w' → w.grownBy w' v.ownBlock → (∀ g, v'.ownBlock = some g → g < w'.heap.size ∧ (v.ownBlock = some g ∨ w.heap.size ≤ g)) → wpList P ops R rest (a.put o.dst v') w') : wpList P ops R (o :: rest) a w := by
  subst hm
  obtain ⟨v', w', hrun, h1, h2, h3, h4⟩ := run_append_at (ty := o.type) t e z bytes ht hinfo hz hn0 hby hn hone v l hown hv h47
  show if Region.wanted o (yielded ops a.tmps) then _ else _
  rw [if_pos hw]
  left
  unfold Oper.wp
  simp [execOp, ho, resolve, invoke, builtin, hs, hx, hrun, Result.andThen]
  exact h v' w' h1 h2 h3 h4
def GrQ (w : World) (N : Nat → Prop) (v : Value) (b : Nat) : Prop := w.heap.size < b ∧ ¬ N b ∧ v.ownBlock ≠ some b
def GrL (w : World) (N : Nat → Prop) (v : Value) (L : List CvM) (W : World) : Prop := OwnS cvl 10 59 W 0 v L ∧ (∀ b, v.ownBlock = some b → w.heap.size < b ∧ ¬ N b) ∧
  ∀ x ∈ L, cvok x.e ∧ Cwf x.e ∧ Bytes W (GrQ w N v) (.slice x.A1 x.e.ticket.length x.c1) x.e.ticket ∧ Bytes W (GrQ w N v) (.slice x.A2 x.e.box.length x.c2) x.e.box
section
variable {w W W' W1 : World} {N : Nat → Prop} {v v' : Value} {L : List CvM}
theorem GrL.keep (h : GrL w N v L W) (hk : ∀ b, b < W.heap.size → w.heap.size < b → ¬ N b → W'.heap[b]? = W.heap[b]?) : GrL w N v L W' :=
  ⟨h.1.keep fun g hg => hk g (World.ownsRow.lt h.1 g hg).2 (h.2.1 g hg).1 (h.2.1 g hg).2, h.2.1, fun x hx => ⟨(h.2.2 x hx).1, (h.2.2 x hx).2.1, (h.2.2 x hx).2.2.1.keep fun b hb q => hk b hb q.1 q.2.1, (h.2.2 x hx).2.2.2.keep fun b hb q => hk b hb q.1 q.2.1⟩⟩
theorem GrL.below (h : GrL w N v L W) (hb : Below W.heap.size W W') : GrL w N v L W' := h.keep fun b hl _ _ => hb.block b hl
theorem GrL.turn {g : Nat} (h : GrL w N v L W) (ht : Turn g W W') (hg : g < w.heap.size) : GrL w N v L W' := by
  refine ⟨⟨h.1.1, h.1.2.imp id ?_⟩, h.2.1, fun x hx => ⟨(h.2.2 x hx).1, (h.2.2 x hx).2.1, (h.2.2 x hx).2.2.1.oth ht.2.2 fun b hb => by have := hb.1; omega, (h.2.2 x hx).2.2.2.oth ht.2.2 fun b hb => by have := hb.1; omega⟩⟩
  rintro ⟨b, cap, cur, rfl, a, hh, r⟩
  exact ⟨b, cap, cur, rfl, a, ht.2.2 b _ cur (by have := (h.2.1 b rfl).1; omega) hh, r⟩
theorem GrL.more {b5 : Nat} (h : GrL w N v L W) (hb : W.heap.size ≤ b5) : GrL w (fun b => N b ∨ b = b5) v L W := by
  refine ⟨h.1, fun b q => ⟨(h.2.1 b q).1, fun e => e.elim (h.2.1 b q).2 fun e => by have := (World.ownsRow.lt h.1 b q).2; omega⟩, fun x hx => ⟨(h.2.2 x hx).1, (h.2.2 x hx).2.1, (h.2.2 x hx).2.2.1.mono fun _ hl q => ⟨q.1, fun e => e.elim q.2.1 fun e => by omega, q.2.2⟩, (h.2.2 x hx).2.2.2.mono fun _ hl q => ⟨q.1, fun e => e.elim q.2.1 fun e => by omega, q.2.2⟩⟩⟩
theorem GrL.less {b5 : Nat} (h : GrL w (fun b => N b ∨ b = b5) v L W) : GrL w N v L W :=
  ⟨h.1, fun b q => ⟨(h.2.1 b q).1, fun e => (h.2.1 b q).2 (.inl e)⟩, fun x hx => ⟨(h.2.2 x hx).1, (h.2.2 x hx).2.1, (h.2.2 x hx).2.2.1.mono fun _ _ q => ⟨q.1, fun e => q.2.1 (.inl e), q.2.2⟩, (h.2.2 x hx).2.2.2.mono fun _ _ q => ⟨q.1, fun e => q.2.1 (.inl e), q.2.2⟩⟩⟩
theorem GrL.add {X : CvM} (h : GrL w N v L W) (hX : cvok X.e ∧ Cwf X.e) (hb1 : Bytes W (GrQ w N v) (.slice X.A1 X.e.ticket.length X.c1) X.e.ticket) (hb2 : Bytes W (GrQ w N v) (.slice X.A2 X.e.box.length X.c2) X.e.box)
    (hw : Below W.heap.size W W1) (hN : ∀ b, N b → b < W.heap.size) (hwW : w.heap.size < W.heap.size) (ho : OwnS cvl 10 59 W' 0 v' (L ++ [X])) (hg : W1.grownBy W' v.ownBlock) (hl : ∀ g, v'.ownBlock = some g → g < W'.heap.size ∧ (v.ownBlock = some g ∨ W1.heap.size ≤ g)) : GrL w N v' (L ++ [X]) W' := by
  have hs := hw.size
  have up : ∀ {V : Value} {l : List B8}, Bytes W (GrQ w N v) V l → Bytes W' (GrQ w N v') V l := fun {V l} hB => by
    have h5 : Bytes W (fun b => GrQ w N v b ∧ b < W.heap.size) V l := hB.mono fun b hb q => ⟨q, hb⟩
    have h6 := h5.below hw (Nat.le_refl _)
    have h7 : Bytes W' (fun b => GrQ w N v b ∧ b < W.heap.size) V l := h6.keep fun b hb q => hg.block b hb fun e => q.1.2.2 e.symm
    refine h7.mono fun b _ q => ⟨q.1.1, q.1.2.1, fun e => ?_⟩
    rcases (hl b e).2 with e2 | e2
    · exact q.1.2.2 e2
    · have := q.2; omega
  refine ⟨ho, fun b hb => ?_, fun x hx => ?_⟩
  · rcases (hl b hb).2 with e | e
    · exact h.2.1 b e
    · exact ⟨by omega, fun q => by have := hN b q; omega⟩
  · rcases List.mem_append.1 hx with hx | hx
    · exact ⟨(h.2.2 x hx).1, (h.2.2 x hx).2.1, up (h.2.2 x hx).2.2.1, up (h.2.2 x hx).2.2.2⟩
    · rw [List.mem_singleton.1 hx]
      exact ⟨hX.1, hX.2, up hb1, up hb2⟩
end
theorem mintInfo : (Tryd.prog.info? 46).map (·.size) = some 3 := by kernel_rfl
section
variable {w : World} {g : Nat} {ops : Array Oper} {rest : List Oper} {o : Oper} {a : Act} {Q : Exit → Act → World → Prop}
theorem wpList_load_mint (hgd : o.guard = none) (x : Operand) (ho : o.op = .load 46 x) (hx : a.eval x = .pointer (some ⟨g, 0, none⟩)) {x1 x2 x3 : Value} (hg : Whole w g 46 #[x1, x2, x3]) (h : wpList Tryd.prog ops Q rest (a.put o.dst (.agg #[x1, x2, x3])) w) : wpList Tryd.prog ops Q (o :: rest) a w :=
  wpList_load_row hgd 46 x ho g hx 46 _ (0, 0) _ hg Tryd.underlying46 rfl (by rw [mintInfo]; rfl) h
theorem wpList_store_mint (hgd : o.guard = none) (x y : Operand) (ho : o.op = .store 46 x y) (hx : a.eval x = .pointer (some ⟨g, 0, none⟩)) {z1 z2 : Int} {A : Option Addr} {n c : Nat} {x1 x2 x3 : Value} (hy : a.eval y = .agg #[.int .i64 z1, .int .i64 z2, .slice A n c]) (hg : Whole w g 46 #[x1, x2, x3])
    (h : wpList Tryd.prog ops Q rest (a.put o.dst undef) (w.setRow g #[.int .i64 z1, .int .i64 z2, .slice A n c])) : wpList Tryd.prog ops Q (o :: rest) a w :=
  wpList_store_row hgd 46 x y ho g _ hx hy 46 _ hg (by rw [mintInfo]; rfl) rfl (by simp [Value.oneCell']) h
end
set_option linter.unusedSimpArgs false in
set_option linter.unusedVariables false in
set_option maxRecDepth 100000 in
set_option maxHeartbeats 4000000 in
theorem cgrown (g : Nat) (w : World) (h : Deck g w) :
    Calls Tryd.prog 18 #[.pointer (some ⟨g, 0, none⟩)] w fun e w' => (∃ (s : Int) (A : Option Addr) (c : Nat) (l : List Cav), e = .returned (.agg #[.int .i64 s, .int .i64 0, .slice A l.length c]) ∧ 1 ≤ s ∧ s ≤ 3 ∧ l.length ≤ 4 ∧ (∀ x ∈ l, cvok x ∧ Cwf x) ∧ Cavs w' (fun b => w.heap.size ≤ b) A c l) ∧ Turn g w w' := by
  have hgw := h.lt
  obtain ⟨p, hp⟩ : ∃ p, p = w.alloc (.cells #[.int .i64 0, .int .i64 0, .slice none 0 0] 46) := ⟨_, rfl⟩
  have hm2 : Whole p w.heap.size 46 #[.int .i64 0, .int .i64 0, .slice none 0 0] := by rw [hp]; exact Whole.here _ _ _
  have hbp : Below w.heap.size w p := by rw [hp]; exact (Below.refl _ _).alloc (Nat.le_refl _) _
  have hsp : w.heap.size < p.heap.size := hm2.lt
  have HT0 : Hid (Turn g w p) := Lib.hid (h.here hbp)
  have HM2 := Lib.hid hm2
  have hcl := drange 1 3 (by omega) (by omega) (by omega) g p HT0.out.1
  clear hm2 hbp h
  go_enter Tryd.func18, Tryd.ntmps18
  go_upto_region 1 with fail
  rw [← hp]
  clear hp
  go_wp2_with fail
  refine hcl.mono ?_
  rintro e w1 ⟨s, hs13, rfl, ht1⟩
  clear hcl
  have hsw1 : p.heap.size ≤ w1.heap.size := ht1.2.1.size
  have HT1 := Lib.hid (HT0.out.trans ht1)
  have HM21 : Hid (Whole w1 w.heap.size 46 #[.int .i64 0, .int .i64 0, .slice none 0 0]) := Lib.hid (ht1.2.2.oth _ _ _ (by omega) HM2.out)
  have HS := Lib.hid hs13
  clear ht1 HT0 HM2 hs13
  go_upto_region 2 with fail
  obtain ⟨q1, hq1⟩ : ∃ q, q = w1.alloc (.cells #[.int .i64 s, .int .i64 0, .slice none 0 0] 46) := ⟨_, rfl⟩
  have hm3 : Whole q1 w1.heap.size 46 #[.int .i64 s, .int .i64 0, .slice none 0 0] := by rw [hq1]; exact Whole.here _ _ _
  have hbq : Below w1.heap.size w1 q1 := by rw [hq1]; exact (Below.refl _ _).alloc (Nat.le_refl _) _
  rw [← hq1]
  have HT2 : Hid (Turn g w q1) := Lib.hid (Turn.below HT1.out hbq (by omega) (by omega))
  have HM22 : Hid (Whole q1 w.heap.size 46 #[.int .i64 0, .int .i64 0, .slice none 0 0]) := Lib.hid (Whole.below HM21.out hbq (by omega))
  have hsq1 : w1.heap.size < q1.heap.size := hm3.lt
  have HM3 := Lib.hid hm3
  clear hm3 hbq hq1 HT1 HM21
  generalize w1.heap.size = b3 at *
  have hcl := dnext 5 (by omega) (by omega) g q1 HT2.out.1
  go_wp2_with fail
  refine hcl.mono ?_
  rintro e w2 ⟨k0, hk0, rfl, ht2⟩
  clear hcl
  have hsw2 : q1.heap.size ≤ w2.heap.size := ht2.2.1.size
  have HT3 := Lib.hid (HT2.out.trans ht2)
  have HM31 : Hid (Whole w2 b3 46 #[.int .i64 s, .int .i64 0, .slice none 0 0]) := Lib.hid (ht2.2.2.oth _ _ _ (by omega) HM3.out)
  have HM23 : Hid (Whole w2 w.heap.size 46 #[.int .i64 0, .int .i64 0, .slice none 0 0]) := Lib.hid (ht2.2.2.oth _ _ _ (by omega) HM22.out)
  have hk4 : k0 ≤ 4 := by omega
  clear ht2 HT2 HM3 HM22 hk0
  go_wp2_with fail
  go_loopw [4] (fun v4 wr => ∃ (k : Nat) (L : List CvM) (v : Value), v4 = .int .i64 k ∧ L.length + k ≤ 4 ∧ GrL w (fun b => b = b3) v L wr ∧ Whole wr b3 46 #[.int .i64 s, .int .i64 0, v] ∧ Whole wr w.heap.size 46 #[.int .i64 0, .int .i64 0, .slice none 0 0] ∧ Turn g w wr) (fun v4 _ => (intOf v4).toNat)
  case atStart => exact ⟨k0, [], .slice none 0 0, rfl, by simp; omega, ⟨owns_nil _ 0, (fun b h => nomatch h), fun x h => nomatch h⟩, HM31.out, HM23.out, HT3.out⟩
  case round =>
    obtain ⟨k, L, v, rfl, hk, hgr, hm3, hm2, ht⟩ := hrel
    have hswr : b3 < wr.heap.size := hm3.lt
    have HG := Lib.hid hgr
    have HM3 := Lib.hid hm3
    have HM2 := Lib.hid hm2
    have HT := Lib.hid ht
    clear hgr hm3 hm2 ht HM31 HM23 HT3 hk4
    by_cases hk1 : 0 < k
    case neg =>
      have h0 : ¬ (0 : Int) < (k : Int) := by omega
      obtain ⟨A, c, rfl, hS⟩ := OwnS.src (ok := cmok) HG.out.1 (fun x hx => (HG.out.2.2 x hx).2.1)
      go_wp2_with (first
        | (with_reducible refine wpList_load_mint rfl _ rfl rfl HM3.out ?_)
        | (with_reducible refine wpList_store_mint rfl _ _ rfl (g := w.heap.size) rfl rfl HM2.out ?_))
      have hr := Whole.setRow HM2.out #[.int .i64 s, .int .i64 0, .slice A L.length c]
      refine bodyPost_ret (results_cell_row Tryd.results18 _ _ w.heap.size 46 _ (0, 0) _ rfl hr Tryd.underlying46 rfl (by rw [mintInfo]; rfl)) rfl ?_
      have hbs : Below w.heap.size wr (wr.setRow w.heap.size #[.int .i64 s, .int .i64 0, .slice A L.length c]) := below_setRow (Below.refl _ _) (Nat.le_refl _) _
      obtain ⟨wf, hwf⟩ : ∃ x, x = wr.setRow w.heap.size #[.int .i64 s, .int .i64 0, .slice A L.length c] := ⟨_, rfl⟩
      have hgf : GrL w (fun b => b = b3) (.slice A L.length c) L wf := by rw [hwf]; exact HG.out.keep fun b _ h _ => setRow_other _ _ _ _ (by omega)
      rw [← hwf] at hbs ⊢
      obtain ⟨A', c', e1, hS2⟩ := OwnS.src (ok := cmok) hgf.1 (fun x hx => (hgf.2.2 x hx).2.1)
      injection e1 with e1 _ e2
      subst e1 e2
      exact ⟨⟨s, A, c, L.map (·.e), by rw [List.length_map], HS.out.1, HS.out.2, by rw [List.length_map]; omega, fun x hx => (by obtain ⟨y, hy, rfl⟩ := List.mem_map.1 hx; exact ⟨(hgf.2.2 y hy).1, (hgf.2.2 y hy).2.1⟩), L, rfl, hS2.mono fun b _ q => Nat.le_of_lt (hgf.2.1 b q).1, fun x hx => ⟨(hgf.2.2 x hx).2.2.1.mono fun b _ q => Nat.le_of_lt q.1, (hgf.2.2 x hx).2.2.2.mono fun b _ q => Nat.le_of_lt q.1⟩⟩, Turn.below HT.out hbs hgw (Nat.le_refl _)⟩
    have h0 : (0 : Int) < (k : Int) := by omega
    have hcl := dnext 3 (by omega) (by omega) g wr HT.out.1
    go_wp2_with fail
    refine hcl.mono ?_
    rintro e w3 ⟨i, hi, rfl, ht3⟩
    clear hcl
    have hsw3 : wr.heap.size ≤ w3.heap.size := ht3.2.1.size
    have HT4 := Lib.hid (HT.out.trans ht3)
    have HG4 := Lib.hid (HG.out.turn ht3 hgw)
    have HM34 : Hid (Whole w3 b3 46 #[.int .i64 s, .int .i64 0, v]) := Lib.hid (ht3.2.2.oth _ _ _ (by omega) HM3.out)
    have HM24 : Hid (Whole w3 w.heap.size 46 #[.int .i64 0, .int .i64 0, .slice none 0 0]) := Lib.hid (ht3.2.2.oth _ _ _ (by omega) HM2.out)
    have hi3 : (i : Int) < 3 := hi
    clear ht3 HT HG HM3 HM2 hi
    have hcl := crides i w3 (fun b => w3.heap.size ≤ b)
    go_wp2_with fail
    refine hcl.mono ?_
    rintro e w4 ⟨⟨x, rfl, hx⟩, hb4⟩
    clear hcl
    obtain ⟨A1, c1, A2, c2, rfl, hB1, hB2, hwf⟩ := hx
    have hsw4 : w3.heap.size ≤ w4.heap.size := hb4.size
    go_upto_region 6 with fail
    obtain ⟨X, hX⟩ : ∃ X : CvM, X = ⟨rcv i, A1, c1, A2, c2⟩ := ⟨_, rfl⟩
    obtain ⟨q5, hq5⟩ : ∃ q, q = w4.alloc (.cells (cvl X).toArray 59) := ⟨_, rfl⟩
    have hlit : w4.alloc (.cells #[.bool false, .int .i64 7, .int .u64 0, .int .i64 0, .int .i64 0, .string (sof []), .int .i64 (i : Int), .int .i64 0, .slice A1 0 c1, .slice A2 0 c2] 59) = q5 := by rw [hq5, hX]; rfl
    have hr5 : Whole q5 w4.heap.size 59 (cvl X).toArray := by rw [hq5]; exact Whole.here _ _ _
    have hbq : Below w4.heap.size w4 q5 := by rw [hq5]; exact (Below.refl _ _).alloc (Nat.le_refl _) _
    rw [hlit]
    have hb35 : Below w3.heap.size w3 q5 := hb4.trans (hbq.mono hsw4)
    have hsq5 : w4.heap.size < q5.heap.size := hr5.lt
    have HT5 : Hid (Turn g w q5) := Lib.hid (Turn.below HT4.out hb35 (by omega) (by omega))
    have HG5 := Lib.hid (((HG4.out.below hb4).more (Nat.le_refl _)).below hbq)
    have HM35 : Hid (Whole q5 b3 46 #[.int .i64 s, .int .i64 0, v]) := Lib.hid (Whole.below HM34.out hb35 (by omega))
    have HM25 : Hid (Whole q5 w.heap.size 46 #[.int .i64 0, .int .i64 0, .slice none 0 0]) := Lib.hid (Whole.below HM24.out hb35 (by omega))
    have HR5 := Lib.hid hr5
    have HX5 : Hid (cvok X.e ∧ Cwf X.e) := Lib.hid (by rw [hX]; exact ⟨rcv_ok i (by omega) (by omega), hwf⟩)
    have hfr : ∀ b, w3.heap.size ≤ b ∧ b < w4.heap.size → GrQ w (fun b => b = b3 ∨ b = w4.heap.size) v b := fun b hb => ⟨by omega, by omega, fun q => by have := (World.ownsRow.lt HG4.out.1 b q).2; omega⟩
    have HB1 : Hid (Bytes q5 (GrQ w (fun b => b = b3 ∨ b = w4.heap.size) v) (.slice X.A1 X.e.ticket.length X.c1) X.e.ticket) := Lib.hid (by rw [hX]; exact (hB1.mono fun b hl hb => hfr b ⟨hb, hl⟩).below hbq (Nat.le_refl _))
    have HB2 : Hid (Bytes q5 (GrQ w (fun b => b = b3 ∨ b = w4.heap.size) v) (.slice X.A2 X.e.box.length X.c2) X.e.box) := Lib.hid (by rw [hX]; exact (hB2.mono fun b hl hb => hfr b ⟨hb, hl⟩).below hbq (Nat.le_refl _))
    have hb54 : b3 < w4.heap.size := by omega
    clear hr5 hbq hb35 hq5 hlit hX hB1 hB2 hwf hfr hb4 HT4 HG4 HM34 HM24
    generalize w4.heap.size = b5 at *
    have hcl := dnext 3 (by omega) (by omega) g q5 HT5.out.1
    go_wp2_with fail
    refine hcl.mono ?_
    rintro e w6 ⟨j, hj, rfl, ht6⟩
    clear hcl
    have hsw6 : q5.heap.size ≤ w6.heap.size := ht6.2.1.size
    have HT6 := Lib.hid (HT5.out.trans ht6)
    have HG6 := Lib.hid (HG5.out.turn ht6 hgw)
    have HM36 : Hid (Whole w6 b3 46 #[.int .i64 s, .int .i64 0, v]) := Lib.hid (ht6.2.2.oth _ _ _ (by omega) HM35.out)
    have HM26 : Hid (Whole w6 w.heap.size 46 #[.int .i64 0, .int .i64 0, .slice none 0 0]) := Lib.hid (ht6.2.2.oth _ _ _ (by omega) HM25.out)
    have HR6 : Hid (Whole w6 b5 59 (cvl X).toArray) := Lib.hid (ht6.2.2.oth _ _ _ (by omega) HR5.out)
    have HB16 : Hid (Bytes w6 (GrQ w (fun b => b = b3 ∨ b = b5) v) (.slice X.A1 X.e.ticket.length X.c1) X.e.ticket) := Lib.hid (HB1.out.oth ht6.2.2 fun b hb => by have := hb.1; omega)
    have HB26 : Hid (Bytes w6 (GrQ w (fun b => b = b3 ∨ b = b5) v) (.slice X.A2 X.e.box.length X.c2) X.e.box) := Lib.hid (HB2.out.oth ht6.2.2 fun b hb => by have := hb.1; omega)
    clear ht6 HT5 HG5 HM35 HM25 HR5 HB1 HB2 hj
    obtain ⟨E, hE⟩ : ∃ E, ((j : Int) == 0) = E := ⟨_, rfl⟩
    go_upto_if 20 with fail
    go_cut [] (fun wx => ∃ X : CvM, Whole wx b5 59 (cvl X).toArray ∧ (cvok X.e ∧ Cwf X.e) ∧ Bytes wx (GrQ w (fun b => b = b3 ∨ b = b5) v) (.slice X.A1 X.e.ticket.length X.c1) X.e.ticket ∧ Bytes wx (GrQ w (fun b => b = b3 ∨ b = b5) v) (.slice X.A2 X.e.box.length X.c2) X.e.box ∧ GrL w (fun b => b = b3 ∨ b = b5) v L wx ∧ Whole wx b3 46 #[.int .i64 s, .int .i64 0, v] ∧ Whole wx w.heap.size 46 #[.int .i64 0, .int .i64 0, .slice none 0 0] ∧ Turn g w wx)
    case first =>
      cases E with
      | false =>
        go_wp2_with fail
        go_meet
        exact ⟨X, HR6.out, HX5.out, HB16.out, HB26.out, HG6.out, HM36.out, HM26.out, HT6.out⟩
      | true =>
        have hcl := dcav g w6 HT6.out.1
        go_wp2_with fail
        refine hcl.mono ?_
        rintro e w7 ⟨⟨x, Y, rfl, hY, hx⟩, ht7⟩
        clear hcl
        obtain ⟨B1, d1, B2, d2, rfl, hC1, hC2, hwf⟩ := hx
        have hsw7 : w6.heap.size ≤ w7.heap.size := ht7.2.1.size
        have HM37 : Hid (Whole w7 b3 46 #[.int .i64 s, .int .i64 0, v]) := Lib.hid (ht7.2.2.oth _ _ _ (by omega) HM36.out)
        have HM27 : Hid (Whole w7 w.heap.size 46 #[.int .i64 0, .int .i64 0, .slice none 0 0]) := Lib.hid (ht7.2.2.oth _ _ _ (by omega) HM26.out)
        have HR7 : Hid (Whole w7 b5 59 (cvl X).toArray) := Lib.hid (ht7.2.2.oth _ _ _ (by omega) HR6.out)
        have HG7 := Lib.hid (HG6.out.turn ht7 hgw)
        have HT7 := Lib.hid (HT6.out.trans ht7)
        have HY := Lib.hid (And.intro hY (And.intro hwf (And.intro hC1 hC2)))
        have hfr : ∀ b, w6.heap.size ≤ b → GrQ w (fun b => b = b3 ∨ b = b5) v b := fun b hb => ⟨by omega, by omega, fun q => by have := (World.ownsRow.lt HG6.out.1 b q).2; omega⟩
        have HFR := Lib.hid hfr
        clear ht7 hY hwf hC1 hC2 hfr
        go_wp2_with (first
          | (with_reducible refine wpList_store_cav rfl _ _ rfl (g := b5) rfl rfl HR7.out rfl ?_))
        go_meet
        have hk8 : ∀ b, b < w7.heap.size → w.heap.size < b → ¬ (b = b3 ∨ b = b5) → (w7.setRow b5 (cvrow Y.third Y.first Y.party (.slice B1 Y.ticket.length d1) (.slice B2 Y.box.length d2))).heap[b]? = w7.heap[b]? := fun b _ _ h => setRow_other _ _ _ _ fun q => h (.inr q)
        exact ⟨⟨Y, B1, d1, B2, d2⟩, Whole.setRow HR7.out _, ⟨HY.out.1, HY.out.2.1⟩, (HY.out.2.2.1.mono fun b _ hb => HFR.out b hb).keep fun b hl q => hk8 b hl q.1 q.2.1, (HY.out.2.2.2.mono fun b _ hb => HFR.out b hb).keep fun b hl q => hk8 b hl q.1 q.2.1, HG7.out.keep hk8, Whole.setRow_far HM37.out (by omega) _, Whole.setRow_far HM27.out (by omega) _, Turn.below HT7.out (below_setRow (B := b5) (Below.refl _ _) (Nat.le_refl _) _) (by omega) (by omega)⟩
    case rest =>
      rename_i hcut
      obtain ⟨Y, hr, hY, hc1, hc2, hg, hm3, hm2, ht⟩ := hcut
      obtain ⟨A, c, rfl, hS⟩ := OwnS.src (ok := cmok) hg.1 (fun x hx => (hg.2.2 x hx).2.1)
      have hc2m := hm3.cell 2
      have hswc : b5 < wc.heap.size := hr.lt
      have HR := Lib.hid hr
      have HO := Lib.hid (hg.1.keep (w' := wc.alloc (.cells (cvl Y).toArray 59)) fun b hb => Below.heap_alloc _ _ _ (World.ownsRow.lt hg.1 b hb).2)
      have HSq : Hid (Seq cvl cmok (wc.alloc (.cells (cvl Y).toArray 59)) (fun b => b = wc.heap.size) (some ⟨wc.heap.size, 0, none⟩) 1 [Y]) := Lib.hid (seq_one (heap_alloc_new wc _) rfl hY.2)
      have HG := Lib.hid hg
      have HY := Lib.hid (And.intro hY (And.intro hc1 hc2))
      have HM := Lib.hid (And.intro hm3 (And.intro hm2 ht))
      clear hr hS hg hY hc1 hc2 hm3 hm2 ht HR6 HX5 HB16 HB26 HG6 HM36 HM26 HT6 hE E
      have hLl : L.length ≤ 4 := by omega
      have HK : Hid (∀ w' : World, World.grownBy (wc.alloc (.cells (cvl Y).toArray 59)) w' (Value.slice A L.length c).ownBlock → ∀ b, b < wc.heap.size → (b = b3 ∨ b ≤ w.heap.size) → w'.heap[b]? = wc.heap[b]?) := Lib.hid fun w' hg b hb hq => (hg.block b (by simp; omega) fun e => by have := HG.out.2.1 b e.symm; have h2 := this.1; have h3 := this.2; rcases hq with hq | hq; exact h3 (.inl hq); omega).trans (Below.heap_alloc _ _ _ hb)
      go_wp2_with (first
        | (with_reducible refine wpList_load_cvl rfl _ rfl rfl HR.out ?_)
        | (with_reducible refine wpList_buildSlice_cav rfl _ rfl wc.heap.size rfl _ rfl rfl ?_)
        | (at_builtin; refine wpList_append_at rfl _ _ 44 59 zcav 120 rfl Tryd.underlying44 cavInfo zcav_size (by omega) (by omega) cvl_len cvl_one _ L rfl HO.out _ _ _ _ [Y] rfl rfl HSq.out (by simp; omega) ?_; intro v' w' ho hb0 hgb hl; obtain ⟨A9, c9, e9, hS9⟩ := OwnS.src (ok := cmok) ho (fun x hx => (List.mem_append.1 hx).elim (fun h => (HG.out.2.2 x h).2.1) fun h => by rw [List.mem_singleton.1 h]; exact HY.out.1.2); subst e9; have hm9 : Whole w' b3 46 #[.int .i64 s, .int .i64 0, .slice A L.length c] := (HK.out w' hgb b3 (by omega) (.inl rfl)).trans HM.out.1; have hm92 := hm9.cell 2; have hf9 := hm9.frozen 2))
      have hg9 : GrL w (fun b => b = b3) (.slice A9 (L ++ [Y]).length c9) (L ++ [Y]) w' := (HG.out.add HY.out.1 HY.out.2.1 HY.out.2.2 ((Below.refl _ _).alloc (Nat.le_refl _) _) (fun b q => by omega) (by omega) ho hgb hl).less
      have hsw' : wc.heap.size ≤ w'.heap.size := by have := hb0.size; simp at this; omega
      have hbl : Below (w.heap.size + 1) wc w' := ⟨hb0.os, hb0.tape, hb0.output, hsw', fun b hb => HK.out w' hgb b (by omega) (.inr (by omega))⟩
      have HE := Lib.hid (And.intro hg9 (And.intro hm9 hbl))
      clear ho hb0 hgb hl hS9 hm9 hm92 hf9 hg9 hbl HSq HO HK
      have hwk : IntKind.i64.wrap ((k : Int) - 1) = ((k - 1 : Nat) : Int) := by rw [IntKind.wrap_i64]; omega
      go_wp2_with fail
      obtain ⟨hg9, hm9, hbl⟩ := HE.out
      have e9 : (L ++ [Y]).length = L.length + 1 := by simp
      have hs1 := Whole.set hm9 2 (.slice A9 (L.length + 1) c9)
      rw [e9] at hg9
      refine ⟨⟨k - 1, L ++ [Y], .slice A9 (L.length + 1) c9, by rw [show ((k : Int) - 1) = ((k - 1 : Nat) : Int) by omega], by simp; omega, hg9.keep fun b _ _ h2 => Below.heap_setCell _ _ _ _ h2, hs1, ?_, ?_⟩, by simp [intOf]; omega⟩
      · exact (Below.heap_setCell w' ⟨b3, 2, none⟩ _ w.heap.size (by show w.heap.size ≠ b3; omega)).trans ((hbl.block _ (by omega)).trans HM.out.2.1)
      · exact Turn.below HM.out.2.2 (Below.setCell hbl (p := ⟨b3, 2, none⟩) (by show w.heap.size + 1 ≤ b3; omega) _) (by omega) (by omega)
end Go.Proofs.YtiikhjifjdpgdaaDoor
