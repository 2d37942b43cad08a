/-
  fields and All of package field.
-/
import Derived.Test.YtfokedbipicmoaaFldAll
import Derived.Test.YtfokedbipicmoaaKRows2
import Derived.Maps.AppendAt
import Derived.Deep.DeepMust
namespace Go.Proofs.Ytfokedbipicmoaa
open Go Go.RowKit Sh Leaf
open Go.Shelf
attribute [local go_sem] Oper.semAt_some

theorem fields_ (n : Nat) (A : Option Addr) (len c : Nat) (w : World) :
    CallsIn Fence.wide n Try.prog 28 #[.slice A len c] w fun e w' => e = .returned (.func (.func 31) #[] #[.pointer (some ⟨w.heap.size, 0, none⟩)]) ∧ w' = w.alloc (.cells #[.slice A len c] 22) := by
  refine callsIn_of_wp Try.func28 rfl trivial ?_ rfl
  simp only [Try.ntmps28, List.size_toArray, List.length_cons, List.length_nil, Nat.reduceAdd, Nat.reduceSub, Array.replicate_succ, Array.replicate_zero, List.push_toArray, List.append_toArray, List.nil_append, List.cons_append]
  gi_wp2
  go_ret
  exact ⟨rfl, rfl⟩

/-- What All knows between two fields. -/
def allI (w : World) (pre : List Fe) (W : World) : Prop :=
  (∃ v, Boxed W (w.heap.size + 1 + 1) 32 v ∧ W.ownsRow w.heap.size 22 1 v (pre.map (·.v)).length (pre.map (·.v))) ∧ Each W w.heap.size (pre.map (·.v)) (pre.map (·.x)) ∧ (∀ y ∈ pre, y.e = 0) ∧ Below w.heap.size w W ∧
    Boxed W w.heap.size 32 (.slice none 0 0) ∧ Boxed W (w.heap.size + 1) 24 (.int .i64 0)
def allX (w : World) (pre : List Fe) (W : World) : Prop :=
  ∃ p y, pre = p ++ [y] ∧ y.e ≠ 0 ∧ Below w.heap.size w W ∧ Boxed W w.heap.size 32 (.slice none 0 0) ∧ Boxed W (w.heap.size + 1) 24 (.int .i64 (y.e : Int))
theorem boxed_put {W : World} {B l : Nat} {t : TypeId} {v : Value} {o : Obj} (o' : Obj) (h : Boxed W B t v) (hl : W.heap[l]? = some o) (hc : o.isCells = false) : Boxed (W.putObj l o') B t v := by
  refine h.kept (grownBy_putObj' W l o') fun e => ?_
  injection e with e
  subst e
  rw [show W.heap[B]? = _ from h] at hl
  cases hl
  cases hc
theorem boxed_other {W : World} {B B' : Nat} {t : TypeId} {v : Value} (h : Boxed W B t v) (hn : B ≠ B') (u : Value) : Boxed (W.setCell ⟨B', 0, none⟩ u) B t v := (heap_setCell_other W ⟨B', 0, none⟩ B u hn).trans h
theorem boxed_below {W W' : World} {B : Nat} {t : TypeId} {v : Value} (h : Boxed W B t v) (hb : Below W.heap.size W W') : Boxed W' B t v := (hb.block B h.lt).trans h
theorem kb_put {W : World} {l : Nat} {o : Obj} (o' : Obj) (hl : W.heap[l]? = some o) (hc : o.isCells = false) : Kb W (W.putObj l o') := fun g cs fr h => by
  rw [World.putObj_heap_other (fun e => by subst e; rw [hl] at h; cases h; cases hc)]
  exact h
theorem below_put {W : World} {B l : Nat} {o : Obj} (o' : Obj) (hl : W.heap[l]? = some o) (hB : B ≤ l) : Below B W (W.putObj l o') :=
  (Below.refl B W).grown (grownBy_putObj' W l o') (by have := (Array.getElem?_eq_some_iff.1 hl).1; omega) (fun k e => by cases e; exact hB)
theorem allI_stays (w : World) (D : Nat) (hD : w.heap.size ≤ D) : Stays D (allI w) := by
  rintro s W l o o' ⟨⟨v, h1, h2⟩, h3, h4, h5, h6, h7⟩ hl ho hc
  have hb := below_put (B := w.heap.size) o' ho (by omega)
  exact ⟨⟨v, boxed_put o' h1 ho hc, ownsRow_putObj h2 o' ho hc⟩, h3.keep hb (kb_put o' ho hc), h4, h5.trans hb, boxed_put o' h6 ho hc, boxed_put o' h7 ho hc⟩
theorem allX_stays (w : World) (D : Nat) (hD : w.heap.size ≤ D) : Stays D (allX w) := by
  rintro s W l o o' ⟨p, y, h1, h2, h5, h6, h7⟩ hl ho hc
  have hb := below_put (B := w.heap.size) o' ho (by omega)
  exact ⟨p, y, h1, h2, h5.trans hb, boxed_put o' h6 ho hc, boxed_put o' h7 ho hc⟩
theorem allI_grows (w : World) : Grows (allI w) := by
  rintro s W W' ⟨⟨v, h1, h2⟩, h3, h4, h5, h6, h7⟩ hb
  have hb' := hb.mono h5.size
  exact ⟨⟨v, boxed_below h1 hb, own_below h2 hb (Nat.le_refl _)⟩, h3.keep hb' (Kb.below hb), h4, h5.trans hb', boxed_below h6 hb, boxed_below h7 hb⟩
theorem allX_grows (w : World) : Grows (allX w) := by
  rintro s W W' ⟨p, y, h1, h2, h5, h6, h7⟩ hb
  exact ⟨p, y, h1, h2, h5.trans (hb.mono h5.size), boxed_below h6 hb, boxed_below h7 hb⟩
theorem known_stays (B D : Nat) (hD : B ≤ D) : Stays D (known B) := by
  rintro s W l o o' h hl ho hc
  exact Elem.keep h (below_put o' ho (by omega)) (kb_put o' ho hc)

theorem kb_box {W : World} {B : Nat} {t : TypeId} {v : Value} (h : Boxed W B t v) (ht : t ≠ 5) (u : Value) : Kb W (W.setCell ⟨B, 0, none⟩ u) := fun g cs fr hg => by
  have hne : g ≠ B := by
    rintro rfl
    rw [show W.heap[g]? = _ from h] at hg
    injection hg with hg
    injection hg with _ e _
    exact ht e
  exact (heap_setCell_other W ⟨B, 0, none⟩ g u hne).trans hg

set_option maxRecDepth 100000 in
set_option maxHeartbeats 4000000 in
theorem fall (v : Value) (b : List B8) (Q : Nat → Prop) (w : World) (hr : Bytes w Q v b) (hbl : b.length ≤ 1000000) :
    Calls Try.prog 19 #[v] w fun e w' => ∃ v', e = .returned (.tuple #[v', .int .i64 ((alls b).2 : Int)]) ∧ Lists w' v' (alls b).1 ∧ Below w.heap.size w w' := by
  obtain ⟨A, c, rfl, -⟩ := id hr
  have hlow := hr.mono (Q' := fun g => g < w.heap.size) fun g hg _ => hg
  clear hr
  refine (callsIn_wide (n := 3)).1 ?_
  refine callsIn_of_wp_marks Try.func19 rfl trivial ?_ rfl
  simp only [Try.ntmps19, List.size_toArray, List.length_cons, List.length_nil, Nat.reduceAdd, Nat.reduceSub, Array.replicate_succ, Array.replicate_zero, List.push_toArray, List.append_toArray, List.nil_append, List.cons_append]
  gi_wp2_with (refine ⟨trivial, ?_⟩; gi_at_call 28; refine (fields_ _ A b.length c _).mono ?_; rintro e w' ⟨rfl, rfl⟩)
  have b0 := Boxed.new w 32 (.slice none 0 0)
  have b1 := Boxed.new (w.alloc (.cells #[.slice none 0 0] 32)) 24 (.int .i64 0)
  have b2 := Boxed.new ((w.alloc (.cells #[.slice none 0 0] 32)).alloc (.cells #[.int .i64 0] 24)) 32 (.slice none 0 0)
  have b3 := Boxed.new (((w.alloc (.cells #[.slice none 0 0] 32)).alloc (.cells #[.int .i64 0] 24)).alloc (.cells #[.slice none 0 0] 32)) 22 (.slice A b.length c)
  have hB0 : Below w.heap.size w ((((w.alloc (.cells #[.slice none 0 0] 32)).alloc (.cells #[.int .i64 0] 24)).alloc (.cells #[.slice none 0 0] 32)).alloc (.cells #[.slice A b.length c] 22)) :=
    (((((Below.refl _ w).alloc (Nat.le_refl _) _).alloc (by simp) _).alloc (by simp; omega) _).alloc (by simp; omega) _)
  simp only [World.size_alloc] at b1 b2 b3
  have b0' := (((b0.alloc (.cells #[.int .i64 0] 24)).alloc (.cells #[.slice none 0 0] 32)).alloc (.cells #[.slice A b.length c] 22))
  have b1' := ((b1.alloc (.cells #[.slice none 0 0] 32)).alloc (.cells #[.slice A b.length c] 22))
  have b2' := (b2.alloc (.cells #[.slice A b.length c] 22))
  have hsz : ((((w.alloc (.cells #[.slice none 0 0] 32)).alloc (.cells #[.int .i64 0] 24)).alloc (.cells #[.slice none 0 0] 32)).alloc (.cells #[.slice A b.length c] 22)).heap.size = w.heap.size + 4 := by simp
  clear b0 b1 b2
  generalize ((((w.alloc (.cells #[.slice none 0 0] 32)).alloc (.cells #[.int .i64 0] 24)).alloc (.cells #[.slice none 0 0] 32)).alloc (.cells #[.slice A b.length c] 22)) = W0 at *
  have hlt3 := b3.lt
  have hsz4 : w.heap.size + 4 ≤ W0.heap.size := by omega
  clear hsz
  refine wpIn_range_known (by omega) (gf := 31) (lb := #[.pointer (some ⟨w.heap.size + 1 + 1 + 1, 0, none⟩)]) rfl (enters_of Try.func31 (by kernel_rfl) rfl) (encs := Fe.encs) (fun _ => rfl) (Mx := known w.heap.size) (Kp := kept w.heap.size) (S := doneS b) (Sp := stopS b) (N := b.length)
    (fun l J Jx W hW gJ _ hY h0 => fields1 2 (by omega) l (w.heap.size + 1 + 1 + 1) w.heap.size A c b J Jx gJ hY W (by have := hW.size; omega) ((hW.cell (p := ⟨w.heap.size + 1 + 1 + 1, 0, none⟩) hlt3).trans b3.cell) ((hlow.below hB0 (Nat.le_refl _)).below hW (Nat.le_refl _)) h0)
    (fun A B C h k => ⟨h.1.trans k.1, h.2.trans k.2⟩) (fun W l o o' hl ho hc => ⟨below_put o' ho (by omega), kb_put o' ho hc⟩)
    (known_stays _ _ (by omega)) (allI w) (allX w) (allI_stays w _ (by omega)) (allX_stays w _ (by omega)) (allI_grows w) (allX_grows w)
    ⟨⟨_, b2', World.ownsRow_nil _ _ _ _⟩, Each.nil _ _, by simp, hB0, b0', b1'⟩
    (fun y => { tmps := #[.slice A b.length c, undef, .pointer (some ⟨w.heap.size, 0, none⟩), .pointer (some ⟨w.heap.size + 1, 0, none⟩), .pointer (some ⟨w.heap.size + 1 + 1, 0, none⟩), y.v, .int .i64 (y.e : Int), .slice A b.length c, .func (.func 31) #[] #[.pointer (some ⟨w.heap.size + 1 + 1 + 1, 0, none⟩)], y.v, .int .i64 (y.e : Int), undef, undef, undef, undef, undef, undef, undef, undef], defers := [] }) ?assign ?body ?done ?stop
  case assign =>
    intro l y W K hK
    gi_wp2
    exact hK
  case body =>
    rintro l pre y W ⟨⟨v, hv, hrow⟩, hea, hz, hB, h0, h1⟩ hk hN
    obtain ⟨yv, x, e⟩ := y
    have hc0 := h0.cell
    have hf0 := h0.frozen
    have hc1 := h1.cell
    have hf1 := h1.frozen
    have hc2 := hv.cell
    have hf2 := hv.frozen
    have hle : w.heap.size ≤ w.heap.size + 1 + 1 := by omega
    have HZ := Lib.hid hz
    have HK := Lib.hid (show Elem W w.heap.size yv x from hk)
    obtain ⟨A1, c1, rfl, -⟩ := id (show Elem W w.heap.size yv x from hk)
    clear hz hk
    dsimp only
    by_cases he : e = 0
    · subst he
      have hpl : (pre.map (fun z : Fe => z.v)).length ≤ 1000000 := by simp; omega
      obtain ⟨i0, hi, hz0, hz1, hz2⟩ := info_parts sliceInfo
      have hBs := hB.size
      gi_wp2_with (gi_at_builtin; go_must (refine wpListIn_append_own _ rfl _ _ 32 rfl w.heap.size 22 i0 (.slice none 0 0) 1 24 Try.underlying32 hi hz0 hz1 hz2 rfl (by decide) _ _ _ rfl (hrow.alloc _) ⟨W.heap.size, 0, none⟩ 1 1 [.slice A1 x.length c1] rfl rfl (Go.cell_one_new _ _ _) (by simp [Value.oneCell']) (by unfold maxLen; omega) (by omega) (by simp; omega) ?_; intro v' w1 hown' hgrow _; obtain ⟨g', cap', rfl⟩ := ownsRow_succ hown'; obtain ⟨hv1, hv2, hr2, hk2, hb2⟩ := hv.appended (by decide) hrow hB.size hle hown' hgrow; have hcb := hv1.cell; have hfb := hv1.frozen))
      have hg1 : (W.alloc (.cells #[.slice A1 x.length c1] 22)).grownBy w1 v.ownBlock := hgrow
      have hkb : Kb W (w1.setCell ⟨w.heap.size + 1 + 1, 0, none⟩ (.slice (some ⟨g', 0, none⟩) ((pre.map (fun z : Fe => z.v)).length + 1) cap')) :=
        ((Kb.alloc W _).trans (Kb.grown hg1 (own_not_bytes (hrow.alloc _)))).trans (kb_box hv1 (by decide) _)
      have h0' := boxed_other ((h0.alloc (.cells #[.slice A1 x.length c1] 22)).kept hg1 (h0.not_row (by decide) hrow)) (show w.heap.size ≠ w.heap.size + 1 + 1 by omega) (.slice (some ⟨g', 0, none⟩) ((pre.map (fun z : Fe => z.v)).length + 1) cap')
      have h1' := boxed_other ((h1.alloc (.cells #[.slice A1 x.length c1] 22)).kept hg1 (h1.not_row (by decide) hrow)) (show w.heap.size + 1 ≠ w.heap.size + 1 + 1 by omega) (.slice (some ⟨g', 0, none⟩) ((pre.map (fun z : Fe => z.v)).length + 1) cap')
      have he2 := (hea.keep hb2 hkb).snoc (HK.out.keep hb2 hkb)
      simp only [List.length_map] at hv2 hr2 hk2 hb2 hkb h0' h1' he2
      refine ⟨hk2.from _, ⟨hb2, hkb⟩, ⟨_, hv2, ?_⟩, ?_, ?_, hB.trans hb2, h0', h1'⟩
      · simp only [List.map_append, List.map_cons, List.map_nil, List.length_append, List.length_map, List.length_cons, List.length_nil, Nat.zero_add]
        exact hr2
      · simp only [List.map_append, List.map_cons, List.map_nil]
        exact he2
      · intro z hz'
        rcases List.mem_append.1 hz' with h | h
        · exact HZ.out z h
        · simp at h; rw [h]
    · have he' : ¬ (e : Int) = 0 := by omega
      gi_wp2
      refine ⟨((KeepsOthers.setCell _ _ _).trans (KeepsOthers.setCell _ _ _)).from _, pre, _, rfl, he, (hB.setCell (p := ⟨w.heap.size, 0, none⟩) (Nat.le_refl _) _).setCell (p := ⟨w.heap.size + 1, 0, none⟩) (by simp) _, boxed_other (h0.set _) (by omega) _, (boxed_other h1 (by omega) _).set _⟩
  case done =>
    rintro D xs W hD hS ⟨⟨v, hv, hrow⟩, hea, hz, hB, h0, h1⟩ hK
    have hc0 := h0.cell
    have hf0 := h0.frozen
    have hc1 := h1.cell
    have hf1 := h1.frozen
    have hc2 := hv.cell
    have hf2 := hv.frozen
    obtain ⟨A1, n1, c1, rfl⟩ : ∃ A n c, v = .slice A n c := by
      rcases hrow.2 with ⟨rfl, _⟩ | ⟨g, cap, cur, rfl, _⟩
      · exact ⟨_, _, _, rfl⟩
      · exact ⟨_, _, _, rfl⟩
    have HL := Lib.hid (Lists.of_own hrow hea)
    have HS := Lib.hid (hS hz)
    have HBL := Lib.hid hB
    have H0 := Lib.hid h0
    have H1 := Lib.hid h1
    have HOWN := Lib.hid hrow
    have HEA := Lib.hid hea
    gi_wp2
    have hK2 := ((KeepsOthers.setCell W ⟨w.heap.size, 0, none⟩ (.slice A1 n1 c1)).trans (KeepsOthers.setCell _ ⟨w.heap.size + 1, 0, none⟩ (.int .i64 0))).same D _ hK rfl
    refine ⟨by simp, .inl ⟨_, _, rfl, run_takeDeferred hK2, ?_⟩⟩
    have r0 := boxed_other (H0.out.set (.slice A1 n1 c1)) (show w.heap.size ≠ w.heap.size + 1 by omega) (.int .i64 0)
    have r1' := boxed_other H1.out (show w.heap.size + 1 ≠ w.heap.size by omega) (.slice A1 n1 c1)
    have r1 := r1'.set (.int .i64 0)
    have o1 := HOWN.out.kept (grownBy_setCell' W w.heap.size (.slice A1 n1 c1)) (.inr (H0.out.not_row (by decide) HOWN.out).symm)
    have o2 := o1.kept (grownBy_setCell' _ (w.heap.size + 1) (.int .i64 0)) (.inr (r1'.not_row (by decide) o1).symm)
    have o3 := ownsRow_putObj o2 (.deferred none) hK2 rfl
    have k3 := ((kb_box H0.out (by decide) (.slice A1 n1 c1)).trans (kb_box r1' (by decide) (.int .i64 0))).trans (kb_put (.deferred none) hK2 rfl)
    have q2 := ((Below.refl w.heap.size W).setCell (p := ⟨w.heap.size, 0, none⟩) (Nat.le_refl _) (.slice A1 n1 c1)).setCell (p := ⟨w.heap.size + 1, 0, none⟩) (by simp) (.int .i64 0)
    have q3 := q2.trans (below_put (B := w.heap.size) (.deferred none) hK2 (by omega))
    have e0 := (boxed_put (.deferred none) r0 hK2 rfl).cell
    have e1 := (boxed_put (.deferred none) r1 hK2 rfl).cell
    refine ⟨.tuple #[.slice A1 n1 c1, .int .i64 0], ?_, .slice A1 n1 c1, ?_, ?_, HBL.out.trans q3⟩
    · simp [results, Try.results19, go_sem, e0, e1]
    · rw [HS.out]; rfl
    · rw [HS.out]; exact Lists.of_own o3 (HEA.out.keep q3 k3)
  case stop =>
    rintro D pre W hD hS ⟨p, y, rfl, hy, hB, h0, h1⟩ hK
    have HS := Lib.hid (hS p y rfl hy)
    have HBL := Lib.hid hB
    have H0 := Lib.hid h0
    have H1 := Lib.hid h1
    gi_wp2
    refine ⟨by simp, .inl ⟨_, _, rfl, run_takeDeferred hK, ?_⟩⟩
    have r0 := (boxed_put (.deferred none) H0.out hK rfl).cell
    have r1 := (boxed_put (.deferred none) H1.out hK rfl).cell
    refine ⟨.tuple #[.slice none 0 0, .int .i64 (y.e : Int)], ?_, .slice none 0 0, ?_, ?_, HBL.out.trans (below_put (.deferred none) hK (by omega))⟩
    · simp [results, Try.results19, go_sem, r0, r1]
    · rw [HS.out]
    · rw [HS.out]; exact Lists.nil _
end Go.Proofs.Ytfokedbipicmoaa
