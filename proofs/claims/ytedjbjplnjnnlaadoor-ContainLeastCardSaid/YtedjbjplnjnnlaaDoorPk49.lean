/-
  The reference's AuthorityOk.
-/
import Derived.Deep.RegionHeld3
import Derived.Test.YtedjbjplnjnnlaaDoorPk48
import Derived.Test.YtedjbjplnjnnlaaDoorPk9
import Derived.Test.YtedjbjplnjnnlaaDoorPk27
import Derived.Test.YtedjbjplnjnnlaaDoorPk28
namespace Go.Proofs.YtedjbjplnjnnlaaDoor
open Go Go.RowKit Sh Leaf

/-- What closed leaves: the summary, or the empty one. -/
theorem clo_av {z ln F L D : Nat} {M : Nat → Bool} {nm : List B8} {w : World} {B : Nat} {x : Value} (hz : z ≠ 0) (hz2 : z < 18446744073709551616) (hl : ln ≠ 0) (hl2 : ln < 4294967296) (hL : L ≤ 67108864) (hn : nok nm)
    (h : ((∀ y, ¬ inT F L D (tm M) y) ∧ x = .agg (arow true 0 0 0 0 0 (.slice none 0 0) [])) ∨ ∃ a A c, Canon z ln (inT F L D (tm M)) nm a ∧ x = .agg (avl a A c) ∧ Spn w (fun b => B ≤ b) A c a.daily) :
    ∃ c, Av w (fun b => B ≤ b) x c ∧ (((∀ y, ¬ inT F L D (tm M) y) ∧ c = .never) ∨ Canon z ln (inT F L D (tm M)) nm c) := by
  rcases h with ⟨h0, rfl⟩ | ⟨a, A, c, ha, rfl, hS⟩
  · exact ⟨.never, av_never _ _, .inl ⟨h0, rfl⟩⟩
  · exact ⟨a, ⟨A, c, rfl, hS, aok_abd (canon_set ha hz hz2 hl hl2 hL hn).1⟩, .inr ha⟩
set_option maxRecDepth 100000 in
set_option maxHeartbeats 2000000 in
theorem raok_t (z l d lo hi : Int) (A : Option Addr) (n c : Nat) (nm : List B8) (D : Bool) (w w1 : World) (hw1 : w1 = w.alloc (.cells (arow true z l d lo hi (.slice A n c) nm) 25))
    (k4 : Calls Tryd.prog 14 #[.agg (arow true z l d lo hi (.slice A n c) nm), .agg (arow true 0 0 0 0 0 (.slice none 0 0) [])] w1 fun e w' => e = .returned (.bool D) ∧ Below w1.heap.size w1 w') :
    Calls Tryd.prog 30 #[.agg (arow true z l d lo hi (.slice A n c) nm)] w fun e w' => e = .returned (.bool D) ∧ Below w.heap.size w w' := by
  have HB : Hid (Below w.heap.size w w1) := Lib.hid (by rw [hw1]; exact (Below.refl w.heap.size w).alloc (Nat.le_refl _) _)
  have esn : sof [] = { data := #[] } := by unfold sof; rfl
  unfold arow at k4
  rw [esn] at k4
  clear esn
  subst hw1
  go_enter Tryd.func30, Tryd.ntmps30
  go_wp2_with fail
  refine k4.mono ?_
  rintro e w2 ⟨rfl, hb2⟩
  have HF := Lib.hid (HB.out.trans (hb2.mono HB.out.size))
  clear hb2
  go_wp2_with fail
  go_ret
  exact ⟨rfl, HF.out⟩
set_option maxRecDepth 100000 in
set_option maxHeartbeats 2000000 in
theorem raok_f (z l d lo hi : Int) (A : Option Addr) (n c : Nat) (nm : List B8) (D R : Bool) (w w1 : World) (hw1 : w1 = w.alloc (.cells (arow false z l d lo hi (.slice A n c) nm) 25)) (hRD : R = false → D = false)
    (T : World → Nat → Prop) (C : World → Value → Prop)
    (k1 : ∀ W, Below w1.heap.size w1 W → Calls Tryd.prog 59 #[.agg (arow false z l d lo hi (.slice A n c) nm)] W fun e w' => e = .returned (.bool R) ∧ Below w1.heap.size w1 w')
    (k2 : R = true → ∀ W, Below w1.heap.size w1 W → Calls Tryd.prog 41 #[.agg (arow false z l d lo hi (.slice A n c) nm)] W fun e w' => (∃ g, e = .returned (.pointer (some ⟨g, 0, none⟩)) ∧ T w' g) ∧ Below w1.heap.size w1 w')
    (k3 : R = true → ∀ W g, Below w1.heap.size w1 W → T W g → Calls Tryd.prog 48 #[.agg (arow false z l d lo hi (.slice A n c) nm), .pointer (some ⟨g, 0, none⟩)] W fun e w' => (∃ y, e = .returned y ∧ C w' y) ∧ Below w1.heap.size w1 w')
    (k4 : ∀ W y, Below w1.heap.size w1 W → C W y → Calls Tryd.prog 14 #[.agg (arow false z l d lo hi (.slice A n c) nm), y] W fun e w' => e = .returned (.bool D) ∧ Below w1.heap.size w1 w') :
    Calls Tryd.prog 30 #[.agg (arow false z l d lo hi (.slice A n c) nm)] w fun e w' => e = .returned (.bool D) ∧ Below w.heap.size w w' := by
  have hsz : w1.heap.size = w.heap.size + 1 := by rw [hw1]; simp
  have hR : ARow w1 w.heap.size false z l d lo hi (.slice A n c) nm := by rw [hw1]; exact Whole.here _ _ _
  have HB : Hid (Below w.heap.size w w1) := Lib.hid (by rw [hw1]; exact (Below.refl w.heap.size w).alloc (Nat.le_refl _) _)
  have hcc : ∀ W, Below w1.heap.size w1 W → W.cell? ⟨w.heap.size, 0, none⟩ = some (.bool false) ∧ W.cell? ⟨w.heap.size, 1, none⟩ = some (.int .u64 z) ∧ W.cell? ⟨w.heap.size, 2, none⟩ = some (.int .u64 l) ∧ W.cell? ⟨w.heap.size, 3, none⟩ = some (.int .u64 d) ∧ W.cell? ⟨w.heap.size, 4, none⟩ = some (.int .i64 lo) ∧ W.cell? ⟨w.heap.size, 5, none⟩ = some (.int .i64 hi) ∧ W.cell? ⟨w.heap.size, 6, none⟩ = some (.slice A n c) ∧ W.cell? ⟨w.heap.size, 7, none⟩ = some (.string (sof nm)) := fun W hb => ARow.cells (Whole.below hR hb (by omega))
  have hc0 := hcc w1 (Below.refl _ _)
  have hbr := Below.refl w1.heap.size w1
  clear hR hsz
  go_enter Tryd.func30, Tryd.ntmps30
  go_wp2_with fail
  rw [← hw1]
  clear hw1
  cases R
  · obtain rfl := hRD rfl
    clear k2 k3 k4
    refine wp_region_held_drew (S := fun W => W.cell? ⟨w.heap.size, 0, none⟩ = some (.bool false) ∧ W.cell? ⟨w.heap.size, 1, none⟩ = some (.int .u64 z) ∧ W.cell? ⟨w.heap.size, 2, none⟩ = some (.int .u64 l) ∧ W.cell? ⟨w.heap.size, 3, none⟩ = some (.int .u64 d) ∧ W.cell? ⟨w.heap.size, 4, none⟩ = some (.int .i64 lo) ∧ W.cell? ⟨w.heap.size, 5, none⟩ = some (.int .i64 hi) ∧ W.cell? ⟨w.heap.size, 6, none⟩ = some (.slice A n c) ∧ W.cell? ⟨w.heap.size, 7, none⟩ = some (.string (sof nm))) (by kernel_rfl) (hcc _ (Below.refl _ _).drew) (fun hHeld => ?_)
    apply wpAnyH_take (i := 0) rfl (by kernel_rfl) (by kernel_rfl) (by kernel_rfl)
    case hQ => exact fun _ _ _ h => h
    case hS => exact hHeld
    case hy => (refine Or.inl ⟨by rfl, ?_⟩; intro w hSw; go_split_ands; go_simp; (try with_reducible rfl))
    (try simp only [List.getElem_toArray, List.getElem_cons_zero, Act.put, List.setIfInBounds_toArray, List.set_cons_zero, List.set_cons_succ])
    refine wpAnyH_ready (rs := [1]) (by kernel_rfl) (by simp) ?_
    refine AllReadyH.cons rfl (fun K hK => ?_) AllReadyH.nil
    (try simp only [List.getElem_toArray, List.getElem_cons_succ, List.getElem_cons_zero])
    go_simp
    go_at_call 59
    refine (k1 _ (Below.drew hbr)).mono ?_
    rintro e w2 ⟨rfl, hb2⟩
    refine hK.out _ _ (hcc _ hb2) (fun hHeld => ?_)
    clear hK K
    (try simp only [List.getElem_toArray, List.getElem_cons_succ, List.getElem_cons_zero, Act.put, List.setIfInBounds_toArray, List.set_cons_zero, List.set_cons_succ])
    apply wpAnyH_take (i := 2) rfl (by kernel_rfl) (by kernel_rfl) (by kernel_rfl)
    case hQ => exact fun _ _ _ h => h
    case hS => exact hHeld
    case hy => (refine Or.inl ⟨by rfl, ?_⟩; intro w hSw; go_split_ands; go_simp; (try with_reducible rfl))
    (try simp only [List.getElem_toArray, List.getElem_cons_succ, List.getElem_cons_zero, Act.put, List.setIfInBounds_toArray, List.set_cons_zero, List.set_cons_succ])
    apply wpAnyH_take (i := 3) rfl (by kernel_rfl) (by kernel_rfl) (by kernel_rfl)
    case hQ => exact fun _ _ _ h => h
    case hS => exact hHeld
    case hy => exact Or.inr ⟨by rfl, rfl⟩
    (try simp only [List.getElem_toArray, List.getElem_cons_succ, List.getElem_cons_zero, Act.put, List.setIfInBounds_toArray, List.set_cons_zero, List.set_cons_succ])
    apply wpAnyH_take (i := 4) rfl (by kernel_rfl) (by kernel_rfl) (by kernel_rfl)
    case hQ => exact fun _ _ _ h => h
    case hS => exact hHeld
    case hy => exact Or.inr ⟨by rfl, rfl⟩
    (try simp only [List.getElem_toArray, List.getElem_cons_succ, List.getElem_cons_zero, Act.put, List.setIfInBounds_toArray, List.set_cons_zero, List.set_cons_succ])
    apply wpAnyH_take (i := 5) rfl (by kernel_rfl) (by kernel_rfl) (by kernel_rfl)
    case hQ => exact fun _ _ _ h => h
    case hS => exact hHeld
    case hy => exact Or.inr ⟨by rfl, rfl⟩
    (try simp only [List.getElem_toArray, List.getElem_cons_succ, List.getElem_cons_zero, Act.put, List.setIfInBounds_toArray, List.set_cons_zero, List.set_cons_succ])
    apply wpAnyH_take (i := 6) rfl (by kernel_rfl) (by kernel_rfl) (by kernel_rfl)
    case hQ => exact fun _ _ _ h => h
    case hS => exact hHeld
    case hy => exact Or.inr ⟨by rfl, rfl⟩
    (try simp only [List.getElem_toArray, List.getElem_cons_succ, List.getElem_cons_zero, Act.put, List.setIfInBounds_toArray, List.set_cons_zero, List.set_cons_succ])
    apply wpAnyH_take (i := 7) rfl (by kernel_rfl) (by kernel_rfl) (by kernel_rfl)
    case hQ => exact fun _ _ _ h => h
    case hS => exact hHeld
    case hy => exact Or.inr ⟨by rfl, rfl⟩
    (try simp only [List.getElem_toArray, List.getElem_cons_succ, List.getElem_cons_zero, Act.put, List.setIfInBounds_toArray, List.set_cons_zero, List.set_cons_succ])
    apply wpAnyH_take (i := 8) rfl (by kernel_rfl) (by kernel_rfl) (by kernel_rfl)
    case hQ => exact fun _ _ _ h => h
    case hS => exact hHeld
    case hy => exact Or.inr ⟨by rfl, rfl⟩
    (try simp only [List.getElem_toArray, List.getElem_cons_succ, List.getElem_cons_zero, Act.put, List.setIfInBounds_toArray, List.set_cons_zero, List.set_cons_succ])
    apply wpAnyH_take (i := 9) rfl (by kernel_rfl) (by kernel_rfl) (by kernel_rfl)
    case hQ => exact fun _ _ _ h => h
    case hS => exact hHeld
    case hy => (refine Or.inl ⟨by rfl, ?_⟩; intro w hSw; go_split_ands; go_simp; (try with_reducible rfl))
    (try simp only [List.getElem_toArray, List.getElem_cons_succ, List.getElem_cons_zero, Act.put, List.setIfInBounds_toArray, List.set_cons_zero, List.set_cons_succ])
    apply wpAnyH_take (i := 10) rfl (by kernel_rfl) (by kernel_rfl) (by kernel_rfl)
    case hQ => exact fun _ _ _ h => h
    case hS => exact hHeld
    case hy => (refine Or.inl ⟨by rfl, ?_⟩; intro w hSw; go_split_ands; go_simp; (try with_reducible rfl))
    (try simp only [List.getElem_toArray, List.getElem_cons_succ, List.getElem_cons_zero, Act.put, List.setIfInBounds_toArray, List.set_cons_zero, List.set_cons_succ])
    refine wpAnyH_done (by kernel_rfl) ?_ _
    have HF := Lib.hid (HB.out.trans (hb2.mono HB.out.size))
    clear hb2 hcc hc0 hbr k1
    go_wp2
    go_ret
    exact ⟨rfl, HF.out⟩
  · have k2' := k2 rfl
    have k3' := k3 rfl
    clear k2 k3 hRD
    go_region_held3 (fun W => W.cell? ⟨w.heap.size, 0, none⟩ = some (.bool false) ∧ W.cell? ⟨w.heap.size, 1, none⟩ = some (.int .u64 z) ∧ W.cell? ⟨w.heap.size, 2, none⟩ = some (.int .u64 l) ∧ W.cell? ⟨w.heap.size, 3, none⟩ = some (.int .u64 d) ∧ W.cell? ⟨w.heap.size, 4, none⟩ = some (.int .i64 lo) ∧ W.cell? ⟨w.heap.size, 5, none⟩ = some (.int .i64 hi) ∧ W.cell? ⟨w.heap.size, 6, none⟩ = some (.slice A n c) ∧ W.cell? ⟨w.heap.size, 7, none⟩ = some (.string (sof nm))) (first | exact hc0 | assumption | go_keep)
      (first
        | (have g5 := hb4; go_at_call 14; refine (k4 _ _ hb4 hC).mono ?_; rintro e w5 ⟨rfl, hb5⟩; have hs5 := hcc w5 hb5)
        | (have g4 := hb3; go_at_call 48; refine (k3' _ _ hb3 hT).mono ?_; rintro e w4 ⟨⟨y, rfl, hC⟩, hb4⟩; have hs4 := hcc w4 hb4)
        | (have g3 := hb2; go_at_call 41; refine (k2' _ hb2).mono ?_; rintro e w3 ⟨⟨g, rfl, hT⟩, hb3⟩; have hs3 := hcc w3 hb3)
        | (go_at_call 59; refine (k1 _ (Below.drew hbr)).mono ?_; rintro e w2 ⟨rfl, hb2⟩; have hs2 := hcc w2 hb2))
    have HF := Lib.hid (HB.out.trans (hb5.mono HB.out.size))
    clear hb2 hs2 hb3 hs3 hb4 hs4 hb5 hs5 hcc hc0 hbr k1 k2' k3' k4
    go_wp2
    go_ret
    exact ⟨rfl, HF.out⟩
theorem raok {w : World} {Q : Nat → Prop} {x : Value} {a : Aut} (hx : Av w Q x a) :
    Calls Tryd.prog 30 #[x] w fun e w' => e = .returned (.bool (decide (aok a))) ∧ Below w.heap.size w w' := by
  have hx0 := hx.any
  obtain ⟨A, c, rfl, hS, hab⟩ := hx
  obtain ⟨w1, hw1⟩ : ∃ w1, w1 = w.alloc (.cells (avl a A c) 25) := ⟨_, rfl⟩
  have hB : Below w.heap.size w w1 := by rw [hw1]; exact (Below.refl w.heap.size w).alloc (Nat.le_refl _) _
  have hav : ∀ W, Below w1.heap.size w1 W → Av W (fun g => g < w.heap.size) (.agg (avl a A c)) a := fun W hb => ((hx0.below hB (Nat.le_refl _)).low (hb.mono hB.size))
  have k4 : ∀ W y b, Below w1.heap.size w1 W → Av W (fun _ => True) y b → (a = b ↔ aok a) → Calls Tryd.prog 14 #[.agg (avl a A c), y] W fun e w' => e = .returned (.bool (decide (aok a))) ∧ Below w1.heap.size w1 w' := fun W y b hb hy he =>
    (rsame_aut (hav W hb) hy).mono fun e w' h => ⟨by rw [h.1]; exact congrArg (fun t => Ending.returned (Value.bool t)) (decide_eq_decide.2 he), hb.trans (h.2.mono hb.size)⟩
  rcases (by cases a.none <;> simp : a.none = true ∨ a.none = false) with hn | hn
  · have kk := k4 w1 (.agg (arow true 0 0 0 0 0 (.slice none 0 0) [])) .never (Below.refl _ _) (av_never _ _) ⟨fun e => by rw [e]; exact aok_never, fun h => none_aok h hn⟩
    rw [show avl a A c = arow true a.zones a.lines a.days a.lo a.hi (.slice A a.daily.length c) a.holder by unfold avl; rw [hn]] at hw1 kk ⊢
    exact raok_t _ _ _ _ _ A _ c _ _ w w1 hw1 kk
  · have k1 : ∀ W, Below w1.heap.size w1 W → Calls Tryd.prog 59 #[.agg (avl a A c)] W fun e w' => e = .returned (.bool (decide (rng a))) ∧ Below w1.heap.size w1 w' := fun W hb => (rranges (hav W hb)).mono fun e w' h => ⟨h.1, hb.trans (h.2.mono hb.size)⟩
    have kr : decide (rng a) = false → decide (aok a) = false := fun h => decide_eq_false fun k => of_decide_eq_false h (aok_rng k hn)
    have k2 : decide (rng a) = true → ∀ W, Below w1.heap.size w1 W → Calls Tryd.prog 41 #[.agg (avl a A c)] W fun e w' => (∃ g, e = .returned (.pointer (some ⟨g, 0, none⟩)) ∧ TRow w' g a.lo a.hi a.days (fun k => spb a.daily k)) ∧ Below w1.heap.size w1 w' := fun hr W hb => by
      have hr := of_decide_eq_true hr
      have hd : inday a.daily := fun s hs => by
        have := sepA_mem hr.2.2.2.2.2.2.2.2.2.1 s hs
        exact ⟨this.1, this.2, hr.2.2.2.2.2.2.2.2.2.2 s hs⟩
      exact (ttimes a.none a.zones a.lines a.days a.lo a.hi A c a.daily a.holder W (((hS.mono (Q' := fun g => g < w.heap.size) (fun g hg _ => hg)).below hB (Nat.le_refl _)).low (hb.mono hB.size)) hd).mono fun e w' h => ⟨⟨_, h.1, h.2.1⟩, hb.trans (h.2.2.mono hb.size)⟩
    have k3 : decide (rng a) = true → ∀ W g, Below w1.heap.size w1 W → TRow W g a.lo a.hi a.days (fun k => spb a.daily k) → Calls Tryd.prog 48 #[.agg (avl a A c), .pointer (some ⟨g, 0, none⟩)] W fun e w' => (∃ y, e = .returned y ∧ ∃ b, Av w' (fun _ => True) y b ∧ (a = b ↔ aok a)) ∧ Below w1.heap.size w1 w' := fun hr W g hb ht => by
      have hr := of_decide_eq_true hr
      obtain ⟨r1, r2, r3, r4, r5, r6, r7, r8, r9, r10, r11⟩ := id hr
      have e1 : a.lo = ((a.lo.toNat : Nat) : Int) := by omega
      have e2 : a.hi = ((a.hi.toNat : Nat) : Int) := by omega
      rw [e1, e2] at ht
      have hc := rclosed a.zones a.lines a.days a.lo a.hi (.slice A a.daily.length c) a.holder g a.lo.toNat a.hi.toNat a.days (fun k => spb a.daily k) (by omega) (by omega) W ht
      have ea : avl a A c = arow false a.zones a.lines a.days a.lo a.hi (.slice A a.daily.length c) a.holder := by unfold avl; rw [hn]
      rw [ea]
      refine hc.mono fun e w' h => ?_
      obtain ⟨⟨y, rfl, hy⟩, hb'⟩ := h
      obtain ⟨b, hb1, hb2⟩ := clo_av r1 hab.1 r2 r3 (by omega) r9 hy
      refine ⟨⟨y, rfl, b, hb1.all, ?_⟩, hb.trans (hb'.mono hb.size)⟩
      have em : (tm fun k => spb a.daily (k : Int)) = fun k : Nat => spm a.daily (k : Int) := funext fun k => propext (spb_iff _ _)
      rw [em] at hb2
      exact aok_clo hn hab.1 hr hb2
    have kk : ∀ W y, Below w1.heap.size w1 W → (∃ b, Av W (fun _ => True) y b ∧ (a = b ↔ aok a)) → Calls Tryd.prog 14 #[.agg (avl a A c), y] W fun e w' => e = .returned (.bool (decide (aok a))) ∧ Below w1.heap.size w1 w' := fun W y hb ⟨b, h1, h2⟩ => k4 W y b hb h1 h2
    rw [show avl a A c = arow false a.zones a.lines a.days a.lo a.hi (.slice A a.daily.length c) a.holder by unfold avl; rw [hn]] at hw1 k1 k2 k3 kk ⊢
    exact raok_f _ _ _ _ _ A _ c _ _ _ w w1 hw1 kr _ _ k1 k2 k3 kk
end Go.Proofs.YtedjbjplnjnnlaaDoor
