/-
  The laws' helper spoilt: an authority with one thing changed.
  What the region of spoilt leaves.
-/
import Derived.Deep.DeepCutAuto
import Derived.Deep.CutBlock
import Derived.Test.YtedjbjplnjnnlaaPk37
import Derived.Test.YtedjbjplnjnnlaaKAnyG
import Derived.Test.YtedjbjplnjnnlaaPk7
import Derived.Test.YtedjbjplnjnnlaaPk26
namespace Go.Proofs.Ytedjbjplnjnnlaa
open Go Go.RowKit Sh Leaf

abbrev zaut : Array Value := #[.bool false, .int .u64 0, .int .u64 0, .int .u64 0, .int .i64 0, .int .i64 0, .slice none 0 0, .string { data := #[] }]
/-- What the change leaves: an authority at block w.heap.size; the result's cell is still zero. -/
def SpA (g : Nat) (Q : Nat → Prop) (w wx : World) : Prop := ∃ (b : Aut) (A : Option Addr) (c : Nat), ARow wx w.heap.size b.none b.zones b.lines b.days b.lo b.hi (.slice A b.daily.length c) b.holder ∧ Spn wx (fun k => k ≠ w.heap.size + 1 ∧ ((k < w.heap.size ∧ Q k) ∨ w.heap.size ≤ k)) A c b.daily ∧ abd b ∧ Below g w wx ∧ Oth g w wx ∧ Whole wx (w.heap.size + 1) 25 zaut
theorem Oth.from_ {g : Nat} {w w1 W : World} (h : Oth g w w1) (hg : g < w.heap.size) (hb : Below w.heap.size w1 W) : Oth g w W :=
  ⟨fun b t cs hn _ hw => (hb.block b (lt_of_heap hw)).trans (h.oth b t cs hn hw), fun v hv => (hb.cell (p := ⟨g, 0, none⟩) hg).trans (h.zero v hv)⟩
theorem SpA.mk_ {g : Nat} {Q : Nat → Prop} {w w1 W : World} {A : Option Addr} {c : Nat} {dy : List (Int × Int)} (hgl : g < w.heap.size) (hB : Below g w w1) (hO : Oth g w w1) (hb : Below w.heap.size w1 W) (hs : Spn w1 (fun b => (b < w.heap.size ∧ Q b) ∧ b ≠ g) A c dy) (no : Bool) (z l d : Nat) (lo hi : Int) (h : List B8) (n : Nat) (hn : n = dy.length)
    (hr : ARow W w.heap.size no z l d lo hi (.slice A n c) h) (hab : abd ⟨no, z, l, d, lo, hi, dy, h⟩) (hz : Whole W (w.heap.size + 1) 25 zaut) : SpA g Q w W := by
  subst hn
  exact ⟨⟨no, z, l, d, lo, hi, dy, h⟩, A, c, hr, (hs.keep hb.size fun k _ hk => hb.block k hk.1.1).mono fun k _ hk => ⟨by have := hk.1.1; omega, .inl hk.1⟩, hab, hB.trans (hb.mono (Nat.le_of_lt hgl)), hO.from_ hgl hb, hz⟩
theorem aset_below (w : World) (B i : Nat) (v : Value) : Below B w (w.setCell ⟨B, i, none⟩ v) := (Below.refl _ _).setCell (p := ⟨B, i, none⟩) (Nat.le_refl _) v
theorem aset_far {w : World} {g : Nat} {t : TypeId} {cs : Array Value} (h : Whole w (g + 1) t cs) (i : Nat) (v : Value) : Whole (w.setCell ⟨g, i, none⟩ v) (g + 1) t cs := h.far (a := ⟨g, i, none⟩) (by show g + 1 ≠ g; omega) v
abbrev strRow : Array Value := #[.string { data := #[] }, .string { data := #[97, 110, 110] }, .string { data := #[65] }]
theorem strRow_at (i : Nat) (hi : i < 3) : ∃ l : List B8, strRow[i]? = some (.string (sof l)) ∧ l.length ≤ 9223372036854775807 := by
  rcases (by omega : i = 0 ∨ i = 1 ∨ i = 2) with rfl | rfl | rfl
  · exact ⟨[], by unfold sof; rfl, by decide⟩
  · exact ⟨[97, 110, 110], by unfold sof; rfl, by decide⟩
  · exact ⟨[65], by unfold sof; rfl, by decide⟩
set_option linter.unusedSimpArgs false in
set_option maxRecDepth 100000 in
set_option maxHeartbeats 4000000 in
theorem aspoilt {w : World} {g : Nat} (hg : Deck g w) {Q : Nat → Prop} {x : Value} {a : Aut} (hx : Av w Q x a) (hq : ∀ b, b < w.heap.size → Q b → b ≠ g) (hlen : a.daily.length ≤ 1000) (hlo : -1 ≤ a.lo ∧ a.lo ≤ 100000000) (hhi : -1 ≤ a.hi ∧ a.hi ≤ 100000000) :
    Calls Try.prog 10 #[x, .pointer (some ⟨g, 0, none⟩)] w fun e w' => (∃ z b, e = .returned z ∧ Av w' (fun k => (k < w.heap.size ∧ Q k) ∨ w.heap.size ≤ k) z b) ∧ Below g w w' ∧ Oth g w w' := by
  have hgl := hg.lt
  obtain ⟨A, c, rfl, hS, hab⟩ := hx
  obtain ⟨no, z, l, d, lo, hi, dy, h⟩ := a
  simp only at hS hab hlen hlo hhi
  show Calls Try.prog 10 #[.agg (arow no z l d lo hi (.slice A dy.length c) h), .pointer (some ⟨g, 0, none⟩)] w _
  obtain ⟨n, hn⟩ : ∃ n, n = dy.length := ⟨_, rfl⟩
  rw [← hn] at hlen ⊢
  obtain ⟨w0, hw0⟩ : ∃ w0, w0 = (w.alloc (.cells (arow no z l d lo hi (.slice A n c) h) 25)).alloc (.cells zaut 25) := ⟨_, rfl⟩
  have hsz : w0.heap.size = w.heap.size + 2 := by rw [hw0]; simp
  have hb0 : Below w.heap.size w w0 := by rw [hw0]; exact ab_below w _ _
  have HR : Hid (ARow w0 w.heap.size no z l d lo hi (.slice A n c) h) := Lib.hid (by rw [hw0]; exact (Whole.here _ _ _).alloc _)
  have HZ : Hid (Whole w0 (w.heap.size + 1) 25 zaut) := Lib.hid (by rw [hw0]; exact Whole.at_ _ _ _ _ (by simp))
  have hd0 : Deck g w0 := hg.below hb0 hgl
  have HS : Hid (Spn w0 (fun b => (b < w.heap.size ∧ Q b) ∧ b ≠ g) A c dy) := Lib.hid ((hS.mono fun b hb hk => ⟨⟨hb, hk⟩, hq b hb hk⟩).below hb0 (Nat.le_refl _))
  have HB := Lib.hid hb0
  have HN := Lib.hid hn
  have HAB := Lib.hid hab
  have hgl0 : g < w0.heap.size := by omega
  clear hg hS hab hb0 hn hq
  go_enter Try.func10, Try.ntmps10
  go_upto_region 1 with fail
  rw [← hw0]
  clear hw0
  go_wp2_with fail
  refine (dnext 8 (by omega) (by omega) g _ hd0).mono ?_
  rintro e w1 ⟨i, hi8, rfl, ht1⟩
  have HR1 : Hid (ARow w1 w.heap.size no z l d lo hi (.slice A n c) h) := Lib.hid (ht1.2.2.oth _ _ _ (by omega) HR.out)
  have HZ1 : Hid (Whole w1 (w.heap.size + 1) 25 zaut) := Lib.hid (ht1.2.2.oth _ _ _ (by omega) HZ.out)
  have HS1 : Hid (Spn w1 (fun b => (b < w.heap.size ∧ Q b) ∧ b ≠ g) A c dy) := Lib.hid (seq_oth HS.out ht1.2.2 ht1.2.1.size fun b _ hb => hb.2)
  have HB1 : Hid (Below g w w1) := Lib.hid ((HB.out.mono (by omega)).trans ht1.2.1)
  have HO1 : Hid (Oth g w w1) := Lib.hid ((Oth.below g HB.out).trans ht1.2.2)
  have hd1 := ht1.1
  have hs1 : w.heap.size + 2 ≤ w1.heap.size := by have := ht1.2.1.size; omega
  clear ht1 hd0 HR HZ HS HB hsz hgl0
  go_upto_block 0 with fail
  go_cut [] (fun wx => SpA g Q w wx)
  case first =>
    rcases (by omega : i = 0 ∨ i = 1 ∨ i = 2 ∨ i = 3 ∨ i = 4 ∨ i = 5 ∨ i = 6 ∨ i = 7) with rfl | rfl | rfl | rfl | rfl | rfl | rfl | rfl
    · obtain ⟨c0, c1, c2, c3, c4, c5, c6, c7⟩ := ARow.cells HR1.out
      have f0 := HR1.out.frozen 0
      have HX : Hid (SpA g Q w (w1.setCell ⟨w.heap.size, 0, none⟩ (.bool !no))) := Lib.hid (SpA.mk_ hgl HB1.out HO1.out (aset_below _ _ _ _) HS1.out (!no) z l d lo hi h n HN.out (HR1.out.set0 _) HAB.out (aset_far HZ1.out _ _))
      clear hd1
      go_wp2_with fail
      go_meet
      exact HX.out
    · obtain ⟨c0, c1, c2, c3, c4, c5, c6, c7⟩ := ARow.cells HR1.out
      have f4 := HR1.out.frozen 4
      go_upto_region 5 with fail
      refine wp_region_G (fun W : World => W.cell? ⟨w.heap.size, 4, none⟩ = some (.int .i64 lo)) (fun _ => True) [6] (by kernel_rfl) ?_
      have hHeld : (fun W : World => W.cell? ⟨w.heap.size, 4, none⟩ = some (.int .i64 lo)) (w1.drew) := c4
      have hBeld : (fun _ => True) (w1.drew) := trivial
      apply AnyG_pure (i := 0) rfl (by kernel_rfl) (by kernel_rfl) (by kernel_rfl) (by kernel_rfl)
      case hQ => exact fun _ _ _ h => h
      case hB => exact hBeld
      case hC => exact .inr hHeld
      case hy => (refine Or.inl ⟨by rfl, ?_⟩; intro w hSw; (try go_split_ands); go_simp; (try with_reducible rfl))
      (try simp only [List.getElem_toArray, List.getElem_cons_zero, Act.put, List.setIfInBounds_toArray, List.set_cons_zero, List.set_cons_succ])
      apply AnyG_take (i := 1) rfl (by kernel_rfl) (by kernel_rfl) (by kernel_rfl) (by kernel_rfl)
      case hQ => exact fun _ _ _ h => h
      case hB => exact hBeld
      case hC => exact hHeld
      case hy => (refine Or.inl ⟨by rfl, ?_⟩; intro w hSw; (try go_split_ands); go_simp; (try with_reducible rfl))
      (try simp only [List.getElem_toArray, List.getElem_cons_succ, List.getElem_cons_zero, Act.put, List.setIfInBounds_toArray, List.set_cons_zero, List.set_cons_succ])
      apply AnyG_pure (i := 2) rfl (by kernel_rfl) (by kernel_rfl) (by kernel_rfl) (by kernel_rfl)
      case hQ => exact fun _ _ _ h => h
      case hB => exact hBeld
      case hC => exact .inr hHeld
      case hy => (refine Or.inl ⟨by rfl, ?_⟩; intro w hSw; (try go_split_ands); go_simp; (try with_reducible rfl))
      (try simp only [List.getElem_toArray, List.getElem_cons_succ, List.getElem_cons_zero, Act.put, List.setIfInBounds_toArray, List.set_cons_zero, List.set_cons_succ])
      refine AnyG_one (i := 3) (by kernel_rfl) rfl (fun K hK => ?_)
      (try simp only [List.getElem_toArray, List.getElem_cons_succ, List.getElem_cons_zero])
      go_simp
      go_at_call 26
      refine (drange (-1) 1 (by omega) (by omega) (by omega) g _ hd1.drew).mono ?_
      rintro e w5 ⟨v5, ⟨hv0, hv1⟩, rfl, ht5⟩
      have hr5 : ARow w5 w.heap.size no z l d lo hi (.slice A n c) h := ht5.2.2.oth _ _ _ (by omega) HR1.out.drew
      have hz5 : Whole w5 (w.heap.size + 1) 25 zaut := ht5.2.2.oth _ _ _ (by omega) HZ1.out.drew
      have hs5 : Spn w5 (fun b => (b < w.heap.size ∧ Q b) ∧ b ≠ g) A c dy := seq_oth HS1.out.drew ht5.2.2 ht5.2.1.size fun b _ hb => hb.2
      have hb5 : Below g w w5 := HB1.out.drew.trans ht5.2.1
      have ho5 : Oth g w w5 := HO1.out.drew.trans ht5.2.2
      have hcl : w5.cell? ⟨w.heap.size, 4, none⟩ = some (.int .i64 lo) := hr5.cell 4
      have hfr := hr5.frozen 4
      have hwv : IntKind.i64.wrap (lo + v5) = lo + v5 := by rw [IntKind.wrap_i64]; omega
      clear ht5 hd1
      clear hHeld
      have hHeld : (fun W : World => W.cell? ⟨w.heap.size, 4, none⟩ = some (.int .i64 lo)) (w5) := hcl
      refine hK.out _ _ (.inr hHeld) (trivial) ?_
      clear hK K
      (try simp only [List.getElem_toArray, List.getElem_cons_succ, List.getElem_cons_zero, Act.put, List.setIfInBounds_toArray, List.set_cons_zero, List.set_cons_succ])
      apply AnyG_pure (i := 4) rfl (by kernel_rfl) (by kernel_rfl) (by kernel_rfl) (by kernel_rfl)
      case hQ => exact fun _ _ _ h => h
      case hB => exact hBeld
      case hC => exact .inr hHeld
      case hy => (refine Or.inl ⟨by rfl, ?_⟩; intro w hSw; (try go_split_ands); go_simp; (try with_reducible rfl))
      (try simp only [List.getElem_toArray, List.getElem_cons_succ, List.getElem_cons_zero, Act.put, List.setIfInBounds_toArray, List.set_cons_zero, List.set_cons_succ])
      apply AnyG_pure (i := 5) rfl (by kernel_rfl) (by kernel_rfl) (by kernel_rfl) (by kernel_rfl)
      case hQ => exact fun _ _ _ h => h
      case hB => exact hBeld
      case hC => exact .inr hHeld
      case hy => (refine Or.inl ⟨by rfl, ?_⟩; intro w hSw; (try go_split_ands); go_simp; (try with_reducible rfl))
      (try simp only [List.getElem_toArray, List.getElem_cons_succ, List.getElem_cons_zero, Act.put, List.setIfInBounds_toArray, List.set_cons_zero, List.set_cons_succ])
      refine AnyG_one (i := 6) (by kernel_rfl) rfl (fun K hK => ?_)
      (try simp only [List.getElem_toArray, List.getElem_cons_succ, List.getElem_cons_zero])
      go_simp
      clear hHeld
      refine hK.out _ _ (.inl (by kernel_rfl)) (trivial) ?_
      clear hK K
      (try simp only [List.getElem_toArray, List.getElem_cons_succ, List.getElem_cons_zero, Act.put, List.setIfInBounds_toArray, List.set_cons_zero, List.set_cons_succ])
      refine AnyG_done (by kernel_rfl) ?_ _
      clear hBeld
      go_wp2_with fail
      go_meet
      exact SpA.mk_ hgl hb5 ho5 (aset_below _ _ _ _) hs5 no z l d (lo + v5) hi h n HN.out (hr5.set4 _) (by have := HAB.out; exact ⟨this.1, this.2.1, this.2.2.1, ⟨(by show (-9223372036854775808 : Int) ≤ lo + v5; omega), (by show lo + v5 ≤ (9223372036854775807 : Int); omega)⟩, this.2.2.2.2.1, this.2.2.2.2.2⟩) (aset_far hz5 _ _)
    · obtain ⟨c0, c1, c2, c3, c4, c5, c6, c7⟩ := ARow.cells HR1.out
      have f5 := HR1.out.frozen 5
      go_upto_region 7 with fail
      refine wp_region_G (fun W : World => W.cell? ⟨w.heap.size, 5, none⟩ = some (.int .i64 hi)) (fun _ => True) [6] (by kernel_rfl) ?_
      have hHeld : (fun W : World => W.cell? ⟨w.heap.size, 5, none⟩ = some (.int .i64 hi)) (w1.drew) := c5
      have hBeld : (fun _ => True) (w1.drew) := trivial
      apply AnyG_pure (i := 0) rfl (by kernel_rfl) (by kernel_rfl) (by kernel_rfl) (by kernel_rfl)
      case hQ => exact fun _ _ _ h => h
      case hB => exact hBeld
      case hC => exact .inr hHeld
      case hy => (refine Or.inl ⟨by rfl, ?_⟩; intro w hSw; (try go_split_ands); go_simp; (try with_reducible rfl))
      (try simp only [List.getElem_toArray, List.getElem_cons_zero, Act.put, List.setIfInBounds_toArray, List.set_cons_zero, List.set_cons_succ])
      apply AnyG_take (i := 1) rfl (by kernel_rfl) (by kernel_rfl) (by kernel_rfl) (by kernel_rfl)
      case hQ => exact fun _ _ _ h => h
      case hB => exact hBeld
      case hC => exact hHeld
      case hy => (refine Or.inl ⟨by rfl, ?_⟩; intro w hSw; (try go_split_ands); go_simp; (try with_reducible rfl))
      (try simp only [List.getElem_toArray, List.getElem_cons_succ, List.getElem_cons_zero, Act.put, List.setIfInBounds_toArray, List.set_cons_zero, List.set_cons_succ])
      apply AnyG_pure (i := 2) rfl (by kernel_rfl) (by kernel_rfl) (by kernel_rfl) (by kernel_rfl)
      case hQ => exact fun _ _ _ h => h
      case hB => exact hBeld
      case hC => exact .inr hHeld
      case hy => (refine Or.inl ⟨by rfl, ?_⟩; intro w hSw; (try go_split_ands); go_simp; (try with_reducible rfl))
      (try simp only [List.getElem_toArray, List.getElem_cons_succ, List.getElem_cons_zero, Act.put, List.setIfInBounds_toArray, List.set_cons_zero, List.set_cons_succ])
      refine AnyG_one (i := 3) (by kernel_rfl) rfl (fun K hK => ?_)
      (try simp only [List.getElem_toArray, List.getElem_cons_succ, List.getElem_cons_zero])
      go_simp
      go_at_call 26
      refine (drange (-1) 1 (by omega) (by omega) (by omega) g _ hd1.drew).mono ?_
      rintro e w5 ⟨v5, ⟨hv0, hv1⟩, rfl, ht5⟩
      have hr5 : ARow w5 w.heap.size no z l d lo hi (.slice A n c) h := ht5.2.2.oth _ _ _ (by omega) HR1.out.drew
      have hz5 : Whole w5 (w.heap.size + 1) 25 zaut := ht5.2.2.oth _ _ _ (by omega) HZ1.out.drew
      have hs5 : Spn w5 (fun b => (b < w.heap.size ∧ Q b) ∧ b ≠ g) A c dy := seq_oth HS1.out.drew ht5.2.2 ht5.2.1.size fun b _ hb => hb.2
      have hb5 : Below g w w5 := HB1.out.drew.trans ht5.2.1
      have ho5 : Oth g w w5 := HO1.out.drew.trans ht5.2.2
      have hcl : w5.cell? ⟨w.heap.size, 5, none⟩ = some (.int .i64 hi) := hr5.cell 5
      have hfr := hr5.frozen 5
      have hwv : IntKind.i64.wrap (hi + v5) = hi + v5 := by rw [IntKind.wrap_i64]; omega
      clear ht5 hd1
      clear hHeld
      have hHeld : (fun W : World => W.cell? ⟨w.heap.size, 5, none⟩ = some (.int .i64 hi)) (w5) := hcl
      refine hK.out _ _ (.inr hHeld) (trivial) ?_
      clear hK K
      (try simp only [List.getElem_toArray, List.getElem_cons_succ, List.getElem_cons_zero, Act.put, List.setIfInBounds_toArray, List.set_cons_zero, List.set_cons_succ])
      apply AnyG_pure (i := 4) rfl (by kernel_rfl) (by kernel_rfl) (by kernel_rfl) (by kernel_rfl)
      case hQ => exact fun _ _ _ h => h
      case hB => exact hBeld
      case hC => exact .inr hHeld
      case hy => (refine Or.inl ⟨by rfl, ?_⟩; intro w hSw; (try go_split_ands); go_simp; (try with_reducible rfl))
      (try simp only [List.getElem_toArray, List.getElem_cons_succ, List.getElem_cons_zero, Act.put, List.setIfInBounds_toArray, List.set_cons_zero, List.set_cons_succ])
      apply AnyG_pure (i := 5) rfl (by kernel_rfl) (by kernel_rfl) (by kernel_rfl) (by kernel_rfl)
      case hQ => exact fun _ _ _ h => h
      case hB => exact hBeld
      case hC => exact .inr hHeld
      case hy => (refine Or.inl ⟨by rfl, ?_⟩; intro w hSw; (try go_split_ands); go_simp; (try with_reducible rfl))
      (try simp only [List.getElem_toArray, List.getElem_cons_succ, List.getElem_cons_zero, Act.put, List.setIfInBounds_toArray, List.set_cons_zero, List.set_cons_succ])
      refine AnyG_one (i := 6) (by kernel_rfl) rfl (fun K hK => ?_)
      (try simp only [List.getElem_toArray, List.getElem_cons_succ, List.getElem_cons_zero])
      go_simp
      clear hHeld
      refine hK.out _ _ (.inl (by kernel_rfl)) (trivial) ?_
      clear hK K
      (try simp only [List.getElem_toArray, List.getElem_cons_succ, List.getElem_cons_zero, Act.put, List.setIfInBounds_toArray, List.set_cons_zero, List.set_cons_succ])
      refine AnyG_done (by kernel_rfl) ?_ _
      clear hBeld
      go_wp2_with fail
      go_meet
      exact SpA.mk_ hgl hb5 ho5 (aset_below _ _ _ _) hs5 no z l d lo (hi + v5) h n HN.out (hr5.set5 _) (by have := HAB.out; exact ⟨this.1, this.2.1, this.2.2.1, this.2.2.2.1, ⟨(by show (-9223372036854775808 : Int) ≤ hi + v5; omega), (by show hi + v5 ≤ (9223372036854775807 : Int); omega)⟩, this.2.2.2.2.2⟩) (aset_far hz5 _ _)
    · obtain ⟨c0, c1, c2, c3, c4, c5, c6, c7⟩ := ARow.cells HR1.out
      have f3 := HR1.out.frozen 3
      go_upto_region 9 with fail
      refine wp_region_G (fun W : World => W.cell? ⟨w.heap.size, 3, none⟩ = some (.int .u64 (d : Int))) (fun _ => True) [8] (by kernel_rfl) ?_
      have hHeld : (fun W : World => W.cell? ⟨w.heap.size, 3, none⟩ = some (.int .u64 (d : Int))) (w1.drew) := c3
      have hBeld : (fun _ => True) (w1.drew) := trivial
      apply AnyG_pure (i := 0) rfl (by kernel_rfl) (by kernel_rfl) (by kernel_rfl) (by kernel_rfl)
      case hQ => exact fun _ _ _ h => h
      case hB => exact hBeld
      case hC => exact .inr hHeld
      case hy => (refine Or.inl ⟨by rfl, ?_⟩; intro w hSw; (try go_split_ands); go_simp; (try with_reducible rfl))
      (try simp only [List.getElem_toArray, List.getElem_cons_zero, Act.put, List.setIfInBounds_toArray, List.set_cons_zero, List.set_cons_succ])
      apply AnyG_take (i := 1) rfl (by kernel_rfl) (by kernel_rfl) (by kernel_rfl) (by kernel_rfl)
      case hQ => exact fun _ _ _ h => h
      case hB => exact hBeld
      case hC => exact hHeld
      case hy => (refine Or.inl ⟨by rfl, ?_⟩; intro w hSw; (try go_split_ands); go_simp; (try with_reducible rfl))
      (try simp only [List.getElem_toArray, List.getElem_cons_succ, List.getElem_cons_zero, Act.put, List.setIfInBounds_toArray, List.set_cons_zero, List.set_cons_succ])
      apply AnyG_pure (i := 2) rfl (by kernel_rfl) (by kernel_rfl) (by kernel_rfl) (by kernel_rfl)
      case hQ => exact fun _ _ _ h => h
      case hB => exact hBeld
      case hC => exact .inr hHeld
      case hy => (refine Or.inl ⟨by rfl, ?_⟩; intro w hSw; (try go_split_ands); go_simp; (try with_reducible rfl))
      (try simp only [List.getElem_toArray, List.getElem_cons_succ, List.getElem_cons_zero, Act.put, List.setIfInBounds_toArray, List.set_cons_zero, List.set_cons_succ])
      refine AnyG_one (i := 3) (by kernel_rfl) rfl (fun K hK => ?_)
      (try simp only [List.getElem_toArray, List.getElem_cons_succ, List.getElem_cons_zero])
      go_simp
      go_at_call 25
      refine (dnext 8 (by omega) (by omega) g _ hd1.drew).mono ?_
      rintro e w5 ⟨j5, hj5, rfl, ht5⟩
      have hr5 : ARow w5 w.heap.size no z l d lo hi (.slice A n c) h := ht5.2.2.oth _ _ _ (by omega) HR1.out.drew
      have hz5 : Whole w5 (w.heap.size + 1) 25 zaut := ht5.2.2.oth _ _ _ (by omega) HZ1.out.drew
      have hs5 : Spn w5 (fun b => (b < w.heap.size ∧ Q b) ∧ b ≠ g) A c dy := seq_oth HS1.out.drew ht5.2.2 ht5.2.1.size fun b _ hb => hb.2
      have hb5 : Below g w w5 := HB1.out.drew.trans ht5.2.1
      have ho5 : Oth g w w5 := HO1.out.drew.trans ht5.2.2
      have hcl : w5.cell? ⟨w.heap.size, 3, none⟩ = some (.int .u64 (d : Int)) := hr5.cell 3
      have hfr := hr5.frozen 3
      have hwv : IntKind.u64.wrap (j5 : Int) = (j5 : Int) := by rw [IntKind.wrap_u64]; omega
      have hmn : min j5 64 = j5 := by omega
      clear ht5 hd1
      clear hHeld
      have hHeld : (fun W : World => W.cell? ⟨w.heap.size, 3, none⟩ = some (.int .u64 (d : Int))) (w5) := hcl
      refine hK.out _ _ (.inr hHeld) (trivial) ?_
      clear hK K
      (try simp only [List.getElem_toArray, List.getElem_cons_succ, List.getElem_cons_zero, Act.put, List.setIfInBounds_toArray, List.set_cons_zero, List.set_cons_succ])
      apply AnyG_pure (i := 4) rfl (by kernel_rfl) (by kernel_rfl) (by kernel_rfl) (by kernel_rfl)
      case hQ => exact fun _ _ _ h => h
      case hB => exact hBeld
      case hC => exact .inr hHeld
      case hy => (refine Or.inl ⟨by rfl, ?_⟩; intro w hSw; (try go_split_ands); go_simp; (try with_reducible rfl))
      (try simp only [List.getElem_toArray, List.getElem_cons_succ, List.getElem_cons_zero, Act.put, List.setIfInBounds_toArray, List.set_cons_zero, List.set_cons_succ])
      apply AnyG_pure (i := 5) rfl (by kernel_rfl) (by kernel_rfl) (by kernel_rfl) (by kernel_rfl)
      case hQ => exact fun _ _ _ h => h
      case hB => exact hBeld
      case hC => exact .inr hHeld
      case hy => (refine Or.inl ⟨by rfl, ?_⟩; intro w hSw; (try go_split_ands); go_simp; (try with_reducible rfl))
      (try simp only [List.getElem_toArray, List.getElem_cons_succ, List.getElem_cons_zero, Act.put, List.setIfInBounds_toArray, List.set_cons_zero, List.set_cons_succ])
      apply AnyG_pure (i := 6) rfl (by kernel_rfl) (by kernel_rfl) (by kernel_rfl) (by kernel_rfl)
      case hQ => exact fun _ _ _ h => h
      case hB => exact hBeld
      case hC => exact .inr hHeld
      case hy => (refine Or.inl ⟨by rfl, ?_⟩; intro w hSw; (try go_split_ands); go_simp; (try with_reducible rfl))
      (try simp only [List.getElem_toArray, List.getElem_cons_succ, List.getElem_cons_zero, Act.put, List.setIfInBounds_toArray, List.set_cons_zero, List.set_cons_succ])
      apply AnyG_pure (i := 7) rfl (by kernel_rfl) (by kernel_rfl) (by kernel_rfl) (by kernel_rfl)
      case hQ => exact fun _ _ _ h => h
      case hB => exact hBeld
      case hC => exact .inr hHeld
      case hy => (refine Or.inl ⟨by rfl, ?_⟩; intro w hSw; (try go_split_ands); go_simp; (try with_reducible rfl))
      (try simp only [List.getElem_toArray, List.getElem_cons_succ, List.getElem_cons_zero, Act.put, List.setIfInBounds_toArray, List.set_cons_zero, List.set_cons_succ])
      refine AnyG_one (i := 8) (by kernel_rfl) rfl (fun K hK => ?_)
      (try simp only [List.getElem_toArray, List.getElem_cons_succ, List.getElem_cons_zero])
      go_simp
      clear hHeld
      refine hK.out _ _ (.inl (by kernel_rfl)) (trivial) ?_
      clear hK K
      (try simp only [List.getElem_toArray, List.getElem_cons_succ, List.getElem_cons_zero, Act.put, List.setIfInBounds_toArray, List.set_cons_zero, List.set_cons_succ])
      refine AnyG_done (by kernel_rfl) ?_ _
      clear hBeld
      go_wp2_with fail
      go_meet
      obtain ⟨q5, hq5, hql⟩ := u64_bits .xor (d : Int) (IntKind.u64.wrap (2 ^ j5))
      rw [hq5]
      exact SpA.mk_ hgl hb5 ho5 (aset_below _ _ _ _) hs5 no z l q5 lo hi h n HN.out (hr5.set3 _) (⟨HAB.out.1, HAB.out.2.1, hql, HAB.out.2.2.2⟩) (aset_far hz5 _ _)
    · obtain ⟨c0, c1, c2, c3, c4, c5, c6, c7⟩ := ARow.cells HR1.out
      have f6 := HR1.out.frozen 6
      have HE0 : Hid (OwnSp (w1.alloc (.cells #[] 53)) w1.heap.size (.slice (some ⟨w1.heap.size, 0, none⟩) 0 0) []) := Lib.hid (owns_empty (heap_alloc_new w1 _) (Nat.le_refl _))
      have HEB : Hid (Below w1.heap.size w1 (w1.alloc (.cells #[] 53))) := Lib.hid ((Below.refl w1.heap.size w1).alloc (Nat.le_refl _) _)
      have HSE : Hid (Spn (w1.alloc (.cells #[] 53)) (fun b => (b < w.heap.size ∧ Q b) ∧ b ≠ g) A c dy) := Lib.hid (HS1.out.alloc _)
      have hlt : w.heap.size < w1.heap.size := by omega
      have hrE : ARow (w1.alloc (.cells #[] 53)) w.heap.size no z l d lo hi (.slice A n c) h := Whole.alloc HR1.out _
      have k6 : (w1.alloc (.cells #[] 53)).cell? ⟨w.heap.size, 6, none⟩ = some (.slice A n c) := hrE.cell 6
      clear c0 c1 c2 c3 c4 c5 c6 c7 f6 hrE
      go_wp2_with (at_builtin; go_must (refine wpList_append_seq (f := scl) (n := 2) rfl _ _ 23 53 _ 16 rfl Try.underlying23 spanInfo rfl (by decide) (by decide) scl_len scl_one w1.heap.size _ [] rfl HE0.out _ A n c dy HN.out.symm rfl HSE.out (by simp <;> (have := HN.out; omega)) (Below.size HEB.out) ?_; intro v6 w6 ho hb hgr))
      have hb6 : Below w1.heap.size w1 w6 := HEB.out.trans hb
      have HB6 := Lib.hid hb6
      have HO6 := Lib.hid ho
      have hg1 : g < w1.heap.size := hd1.lt
      have hd6 := hd1.below hb6 hg1
      clear HE0 HEB HSE k6 ho hb hgr hb6
      refine (dnext 1440 (by omega) (by omega) g _ hd6).mono ?_
      rintro e w7 ⟨j7, hj7, rfl, ht7⟩
      have hd7 := ht7.1
      have HT7 := Lib.hid ht7
      clear hd6 ht7
      go_wp2_with fail
      refine (dnext 1441 (by omega) (by omega) g _ hd7).mono ?_
      rintro e w8 ⟨j8, hj8, rfl, ht8⟩
      have HT8 := Lib.hid (HT7.out.trans ht8)
      have HO1' : Hid (Oth g w w8) := Lib.hid ((HO1.out.trans (Oth.below g HB6.out)).trans HT8.out.2.2)
      have HO8 : Hid (OwnSp w8 w1.heap.size v6 ([] ++ dy)) := Lib.hid (own_oth HO6.out hg1 HT8.out.2.2)
      have hz8 := HB6.out.size
      have hy8 := HT8.out.2.1.size
      have hb8 : Below g w1 w8 := (HB6.out.mono (Nat.le_of_lt hg1)).trans HT8.out.2.1
      have hr8 : ARow w8 w.heap.size no z l d lo hi (.slice A n c) h := HT8.out.2.2.oth _ _ _ (by omega) (Whole.below HR1.out HB6.out (by omega))
      have hz8' : Whole w8 (w.heap.size + 1) 25 zaut := HT8.out.2.2.oth _ _ _ (by omega) (Whole.below HZ1.out HB6.out (by omega))
      have HR8 := Lib.hid hr8
      have HZ8 := Lib.hid hz8'
      have HB8 := Lib.hid hb8
      have hs8 : Spn w8 (fun b => b = w8.heap.size) (some ⟨w8.heap.size, 0, none⟩) 1 [] := ⟨by simp, by unfold maxLen; omega, fun h => (by cases h), fun q hq => by simp at hq, fun h => by simp at h⟩
      have HSO : Hid (Spn (w8.alloc (.cells #[.int .i64 (j7 : Int), .int .i64 (j8 : Int)] 53)) (fun b => b = w8.heap.size) (some ⟨w8.heap.size, 0, none⟩) 1 [((j7 : Int), (j8 : Int))]) := Lib.hid (seq_one (heap_alloc_new w8 _) rfl ⟨⟨by show (-9223372036854775808 : Int) ≤ (j7 : Int); omega, by show (j7 : Int) ≤ (9223372036854775807 : Int); omega⟩, ⟨by show (-9223372036854775808 : Int) ≤ (j8 : Int); omega, by show (j8 : Int) ≤ (9223372036854775807 : Int); omega⟩⟩)
      have HOA : Hid (OwnSp (w8.alloc (.cells #[.int .i64 (j7 : Int), .int .i64 (j8 : Int)] 53)) w1.heap.size v6 ([] ++ dy)) := Lib.hid (HO8.out.alloc _)
      have hsz8 : w1.heap.size ≤ w8.heap.size := by omega
      clear hd7 ht8 HO6 HT7 HT8 HO8 hr8 hz8' hb8 hs8 hz8 hy8
      have HOK : Hid (∀ p ∈ [] ++ dy ++ [((j7 : Int), (j8 : Int))], sbd p) := Lib.hid (by
        intro p hp
        rcases List.mem_append.1 hp with hp | hp
        · exact HS1.out.2.2.2.1 p (by simpa using hp)
        · rw [List.mem_singleton.1 hp]
          exact ⟨⟨by show (-9223372036854775808 : Int) ≤ (j7 : Int); omega, by show (j7 : Int) ≤ (9223372036854775807 : Int); omega⟩, ⟨by show (-9223372036854775808 : Int) ≤ (j8 : Int); omega, by show (j8 : Int) ≤ (9223372036854775807 : Int); omega⟩⟩)
      have HBA : Hid (Below w8.heap.size w8 (w8.alloc (.cells #[.int .i64 (j7 : Int), .int .i64 (j8 : Int)] 53))) := Lib.hid ((Below.refl w8.heap.size w8).alloc (Nat.le_refl _) _)
      obtain ⟨LL, hLL⟩ : ∃ l, l = [] ++ dy ++ [((j7 : Int), (j8 : Int))] := ⟨_, rfl⟩
      rw [← hLL] at HOK
      obtain ⟨n9, hn9⟩ : ∃ n, n = LL.length := ⟨_, rfl⟩
      have HLL := Lib.hid hLL
      have HN9 := Lib.hid hn9
      clear hLL hn9
      go_upto_region 12 with (at_builtin; go_must (refine wpList_append_seq (f := scl) (n := 2) rfl _ _ 23 53 _ 16 rfl Try.underlying23 spanInfo rfl (by decide) (by decide) scl_len scl_one w1.heap.size _ ([] ++ dy) rfl HOA.out _ (some ⟨w8.heap.size, 0, none⟩) 1 1 [((j7 : Int), (j8 : Int))] rfl rfl HSO.out (by simp <;> (have := HN.out; omega)) (by simp; omega) ?_; intro v9 w9 ho hb hgr; rw [← HLL.out] at ho; obtain ⟨A9, c9, rfl, hS9⟩ := OwnS.seq (ok := sbd) ho HOK.out; rw [← HN9.out]; have hr9 : ARow w9 w.heap.size no z l d lo hi (.slice A n c) h := Whole.below (Whole.alloc HR8.out _) hb (by omega); have hz9 : Whole w9 (w.heap.size + 1) 25 zaut := Whole.below (Whole.alloc HZ8.out _) hb (by omega); have hb9 : Below g w1 w9 := (HB8.out.trans (HBA.out.mono (by omega))).trans (hb.mono (by omega)); have HR9 := Lib.hid hr9; have HZ9 := Lib.hid hz9; have HB9 := Lib.hid hb9; have HO9 : Hid (Oth g w w9) := Lib.hid ((HO1'.out.trans (Oth.alloc g w8 _)).from_ hgl (hb.mono (by omega))); have HS9 := Lib.hid hS9; have k9 := hr9.cell 6; have f9 := hr9.frozen 6; clear ho hb hgr hr9 hz9 hb9 hS9 HOA HSO HR8 HZ8 HB8 HBA))
      go_meet
      refine ⟨⟨no, z, l, d, lo, hi, LL, h⟩, A9, c9, ?_, ((Seq.mono HS9.out (Q' := fun b => w1.heap.size ≤ b) fun _ _ hq => hq).keep (by simp) fun b _ hb => heap_setCell_other w9 ⟨w.heap.size, 6, none⟩ b _ (by show b ≠ w.heap.size; have hb' : w1.heap.size ≤ b := hb; omega)).mono fun k _ hk => ⟨by have hk' : w1.heap.size ≤ k := hk; omega, .inr (by have hk' : w1.heap.size ≤ k := hk; omega)⟩, HAB.out, (HB1.out.trans HB9.out).trans ((aset_below _ _ _ _).mono (Nat.le_of_lt hgl)), HO9.out.from_ hgl (aset_below _ _ _ _), aset_far HZ9.out _ _⟩
      show ARow _ _ no z l d lo hi (.slice A9 LL.length c9) h
      rw [← HN9.out]
      exact HR9.out.set6 _
    · obtain ⟨c0, c1, c2, c3, c4, c5, c6, c7⟩ := ARow.cells HR1.out
      have f2 := HR1.out.frozen 2
      go_upto_region 13 with fail
      refine wp_region_G (fun W : World => W.cell? ⟨w.heap.size, 2, none⟩ = some (.int .u64 (l : Int))) (fun _ => True) [8] (by kernel_rfl) ?_
      have hHeld : (fun W : World => W.cell? ⟨w.heap.size, 2, none⟩ = some (.int .u64 (l : Int))) (w1.drew) := c2
      have hBeld : (fun _ => True) (w1.drew) := trivial
      apply AnyG_pure (i := 0) rfl (by kernel_rfl) (by kernel_rfl) (by kernel_rfl) (by kernel_rfl)
      case hQ => exact fun _ _ _ h => h
      case hB => exact hBeld
      case hC => exact .inr hHeld
      case hy => (refine Or.inl ⟨by rfl, ?_⟩; intro w hSw; (try go_split_ands); go_simp; (try with_reducible rfl))
      (try simp only [List.getElem_toArray, List.getElem_cons_zero, Act.put, List.setIfInBounds_toArray, List.set_cons_zero, List.set_cons_succ])
      apply AnyG_take (i := 1) rfl (by kernel_rfl) (by kernel_rfl) (by kernel_rfl) (by kernel_rfl)
      case hQ => exact fun _ _ _ h => h
      case hB => exact hBeld
      case hC => exact hHeld
      case hy => (refine Or.inl ⟨by rfl, ?_⟩; intro w hSw; (try go_split_ands); go_simp; (try with_reducible rfl))
      (try simp only [List.getElem_toArray, List.getElem_cons_succ, List.getElem_cons_zero, Act.put, List.setIfInBounds_toArray, List.set_cons_zero, List.set_cons_succ])
      apply AnyG_pure (i := 2) rfl (by kernel_rfl) (by kernel_rfl) (by kernel_rfl) (by kernel_rfl)
      case hQ => exact fun _ _ _ h => h
      case hB => exact hBeld
      case hC => exact .inr hHeld
      case hy => (refine Or.inl ⟨by rfl, ?_⟩; intro w hSw; (try go_split_ands); go_simp; (try with_reducible rfl))
      (try simp only [List.getElem_toArray, List.getElem_cons_succ, List.getElem_cons_zero, Act.put, List.setIfInBounds_toArray, List.set_cons_zero, List.set_cons_succ])
      refine AnyG_one (i := 3) (by kernel_rfl) rfl (fun K hK => ?_)
      (try simp only [List.getElem_toArray, List.getElem_cons_succ, List.getElem_cons_zero])
      go_simp
      go_at_call 25
      refine (dnext 34 (by omega) (by omega) g _ hd1.drew).mono ?_
      rintro e w5 ⟨j5, hj5, rfl, ht5⟩
      have hr5 : ARow w5 w.heap.size no z l d lo hi (.slice A n c) h := ht5.2.2.oth _ _ _ (by omega) HR1.out.drew
      have hz5 : Whole w5 (w.heap.size + 1) 25 zaut := ht5.2.2.oth _ _ _ (by omega) HZ1.out.drew
      have hs5 : Spn w5 (fun b => (b < w.heap.size ∧ Q b) ∧ b ≠ g) A c dy := seq_oth HS1.out.drew ht5.2.2 ht5.2.1.size fun b _ hb => hb.2
      have hb5 : Below g w w5 := HB1.out.drew.trans ht5.2.1
      have ho5 : Oth g w w5 := HO1.out.drew.trans ht5.2.2
      have hcl : w5.cell? ⟨w.heap.size, 2, none⟩ = some (.int .u64 (l : Int)) := hr5.cell 2
      have hfr := hr5.frozen 2
      have hwv : IntKind.u64.wrap (j5 : Int) = (j5 : Int) := by rw [IntKind.wrap_u64]; omega
      have hmn : min j5 64 = j5 := by omega
      clear ht5 hd1
      clear hHeld
      have hHeld : (fun W : World => W.cell? ⟨w.heap.size, 2, none⟩ = some (.int .u64 (l : Int))) (w5) := hcl
      refine hK.out _ _ (.inr hHeld) (trivial) ?_
      clear hK K
      (try simp only [List.getElem_toArray, List.getElem_cons_succ, List.getElem_cons_zero, Act.put, List.setIfInBounds_toArray, List.set_cons_zero, List.set_cons_succ])
      apply AnyG_pure (i := 4) rfl (by kernel_rfl) (by kernel_rfl) (by kernel_rfl) (by kernel_rfl)
      case hQ => exact fun _ _ _ h => h
      case hB => exact hBeld
      case hC => exact .inr hHeld
      case hy => (refine Or.inl ⟨by rfl, ?_⟩; intro w hSw; (try go_split_ands); go_simp; (try with_reducible rfl))
      (try simp only [List.getElem_toArray, List.getElem_cons_succ, List.getElem_cons_zero, Act.put, List.setIfInBounds_toArray, List.set_cons_zero, List.set_cons_succ])
      apply AnyG_pure (i := 5) rfl (by kernel_rfl) (by kernel_rfl) (by kernel_rfl) (by kernel_rfl)
      case hQ => exact fun _ _ _ h => h
      case hB => exact hBeld
      case hC => exact .inr hHeld
      case hy => (refine Or.inl ⟨by rfl, ?_⟩; intro w hSw; (try go_split_ands); go_simp; (try with_reducible rfl))
      (try simp only [List.getElem_toArray, List.getElem_cons_succ, List.getElem_cons_zero, Act.put, List.setIfInBounds_toArray, List.set_cons_zero, List.set_cons_succ])
      apply AnyG_pure (i := 6) rfl (by kernel_rfl) (by kernel_rfl) (by kernel_rfl) (by kernel_rfl)
      case hQ => exact fun _ _ _ h => h
      case hB => exact hBeld
      case hC => exact .inr hHeld
      case hy => (refine Or.inl ⟨by rfl, ?_⟩; intro w hSw; (try go_split_ands); go_simp; (try with_reducible rfl))
      (try simp only [List.getElem_toArray, List.getElem_cons_succ, List.getElem_cons_zero, Act.put, List.setIfInBounds_toArray, List.set_cons_zero, List.set_cons_succ])
      apply AnyG_pure (i := 7) rfl (by kernel_rfl) (by kernel_rfl) (by kernel_rfl) (by kernel_rfl)
      case hQ => exact fun _ _ _ h => h
      case hB => exact hBeld
      case hC => exact .inr hHeld
      case hy => (refine Or.inl ⟨by rfl, ?_⟩; intro w hSw; (try go_split_ands); go_simp; (try with_reducible rfl))
      (try simp only [List.getElem_toArray, List.getElem_cons_succ, List.getElem_cons_zero, Act.put, List.setIfInBounds_toArray, List.set_cons_zero, List.set_cons_succ])
      refine AnyG_one (i := 8) (by kernel_rfl) rfl (fun K hK => ?_)
      (try simp only [List.getElem_toArray, List.getElem_cons_succ, List.getElem_cons_zero])
      go_simp
      clear hHeld
      refine hK.out _ _ (.inl (by kernel_rfl)) (trivial) ?_
      clear hK K
      (try simp only [List.getElem_toArray, List.getElem_cons_succ, List.getElem_cons_zero, Act.put, List.setIfInBounds_toArray, List.set_cons_zero, List.set_cons_succ])
      refine AnyG_done (by kernel_rfl) ?_ _
      clear hBeld
      go_wp2_with fail
      go_meet
      obtain ⟨q5, hq5, hql⟩ := u64_bits .xor (l : Int) (IntKind.u64.wrap (2 ^ j5))
      rw [hq5]
      exact SpA.mk_ hgl hb5 ho5 (aset_below _ _ _ _) hs5 no z q5 d lo hi h n HN.out (hr5.set2 _) (⟨HAB.out.1, hql, HAB.out.2.2.1, HAB.out.2.2.2⟩) (aset_far hz5 _ _)
    · have hg1 : g < w1.heap.size := hd1.lt
      have hda := hd1.alloc (.cells strRow 9)
      have hsz9 : w.heap.size < w1.heap.size := by omega
      go_wp2_with fail
      refine (dnext 3 (by omega) (by omega) g _ hda).mono ?_
      rintro e w7 ⟨j, hj, rfl, ht7⟩
      have hst : Whole w7 w1.heap.size 9 strRow := ht7.2.2.oth _ _ _ (by omega) (Whole.here _ _ _)
      obtain ⟨s, hs, hsl⟩ := strRow_at j (by omega)
      have hcell := (hst.cell j).trans hs
      have hr7 : ARow w7 w.heap.size no z l d lo hi (.slice A n c) h := ht7.2.2.oth _ _ _ (by omega) (Whole.alloc HR1.out _)
      have hz7 : Whole w7 (w.heap.size + 1) 25 zaut := ht7.2.2.oth _ _ _ (by omega) (Whole.alloc HZ1.out _)
      have hs7 : Spn w7 (fun b => (b < w.heap.size ∧ Q b) ∧ b ≠ g) A c dy := seq_oth (HS1.out.alloc _) ht7.2.2 ht7.2.1.size fun b _ hb => hb.2
      have hb7 : Below g w w7 := (HB1.out.trans ((Below.refl g w1).alloc (Nat.le_of_lt hg1) _)).trans ht7.2.1
      have ho7 : Oth g w w7 := (HO1.out.trans (Oth.alloc g w1 _)).trans ht7.2.2
      have HX : Hid (SpA g Q w (w7.setCell ⟨w.heap.size, 7, none⟩ (.string (sof s)))) := Lib.hid (SpA.mk_ hgl hb7 ho7 (aset_below _ _ _ _) hs7 no z l d lo hi s n HN.out (hr7.set7 _) ⟨HAB.out.1, HAB.out.2.1, HAB.out.2.2.1, HAB.out.2.2.2.1, HAB.out.2.2.2.2.1, hsl⟩ (aset_far hz7 _ _))
      have f7 := hr7.frozen 7
      have k7 := hr7.cell 7
      have hj0 : (0 : Int) ≤ (j : Int) := by omega
      clear hst hs hr7 hz7 hs7 hb7 ho7 ht7 hda hd1
      go_wp2_with fail
      go_meet
      exact HX.out
    · obtain ⟨c0, c1, c2, c3, c4, c5, c6, c7⟩ := ARow.cells HR1.out
      have f6 := HR1.out.frozen 6
      obtain ⟨k, hk, hkn⟩ : ∃ k : Nat, (if (n : Int) - 1 < 0 then (0 : Int) else (n : Int) - 1) = (k : Int) ∧ k ≤ n := ⟨n - 1, by omega, by omega⟩
      have hnc : n ≤ c := by have := HS1.out.1; have := HN.out; omega
      have hw1 : IntKind.i64.wrap ((n : Int) - 1) = (n : Int) - 1 := by rw [IntKind.wrap_i64]; omega
      have hmx : max ((n : Int) - 1) 0 = (k : Int) := by omega
      have hct := fun W => run_seq_to (P := Try.prog) (t := 23) (by kernel_rfl) (by kernel_rfl : (Try.prog.info? (Try.prog.elem 23)).map (·.size) = some 2) A n c k (by omega) W
      have HX : Hid (SpA g Q w (w1.setCell ⟨w.heap.size, 6, none⟩ (.slice A k c))) := Lib.hid (by
        obtain ⟨e1, e2⟩ := Seq.cut scl_len HS1.out k (by have := HN.out; omega)
        refine ⟨⟨no, z, l, d, lo, hi, dy.take k, h⟩, A, c, ?_, (e2.keep (aset_below _ _ _ _).size fun k _ hk => (aset_below w1 w.heap.size _ _).block k hk.1.1).mono fun k _ hk => ⟨by have := hk.1.1; omega, .inl hk.1⟩, HAB.out, HB1.out.trans ((aset_below _ _ _ _).mono (Nat.le_of_lt hgl)), HO1.out.from_ hgl (aset_below _ _ _ _), aset_far HZ1.out _ _⟩
        show ARow _ _ no z l d lo hi (.slice A (dy.take k).length c) h
        rw [e1]
        exact HR1.out.set6 _)
      clear hd1
      go_wp2_with fail
      go_meet
      exact HX.out
  case rest =>
    obtain ⟨b, A', c', hr, hs, hab', hB, hO, hz⟩ := hcut
    have HB := Lib.hid hB
    have HO := Lib.hid hO
    have HS' := Lib.hid hs
    have HAB' := Lib.hid hab'
    have HR' := Lib.hid hr
    have HZ' := Lib.hid hz
    obtain ⟨c0, c1, c2, c3, c4, c5, c6, c7⟩ := ARow.cells hr
    clear hr hs hab' hB hO hz
    go_wp2_with (with_reducible refine wpList_store_aut rfl _ _ rfl (g := w.heap.size + 1) rfl rfl HZ'.out rfl rfl (by with_unfolding_all rfl) ?_)
    refine bodyPost_ret (results_aut (g := w.heap.size + 1) Try.results10 _ rfl rfl (Whole.setRow HZ'.out _)) rfl ?_
    exact ⟨⟨_, b, rfl, A', c', rfl, (HS'.out.keep (by simp) fun k _ hk => setRow_other _ (w.heap.size + 1) k _ hk.1).mono fun _ _ hk => hk.2, HAB'.out⟩, below_setRow HB.out (by omega) _, HO.out.from_ hgl (below_setRow (Below.refl _ _) (by omega) _)⟩
end Go.Proofs.Ytedjbjplnjnnlaa
namespace Go.Proofs.Ytedjbjplnjnnlaa
open Go Go.RowKit Sh Leaf

/-- What the region of spoilt leaves: an authority at a block of its own. -/
def SplR (P : World) (s : Value) (wx : World) : Prop := ∃ (g : Nat) (m : Aut) (A : Option Addr) (c : Nat), s = .pointer (some ⟨g, 0, none⟩) ∧ ARow wx g m.none m.zones m.lines m.days m.lo m.hi (.slice A m.daily.length c) m.holder ∧ Av wx (fun _ => True) (.agg (avl m A c)) m ∧ Below P.heap.size P wx
theorem aok_small {a : Aut} (h : aok a) : a.daily.length ≤ 1000 ∧ (-1 ≤ a.lo ∧ a.lo ≤ 100000000) ∧ (-1 ≤ a.hi ∧ a.hi ≤ 100000000) := by
  refine ⟨by have := (aok_bd h).1; omega, ?_⟩
  rcases (by cases a.none <;> simp : a.none = false ∨ a.none = true) with hn | hn
  · obtain ⟨_, _, _, _, _, h6, h7, h8, _⟩ := aok_rng h hn
    omega
  · rw [none_aok h hn]
    simp
end Go.Proofs.Ytedjbjplnjnnlaa
