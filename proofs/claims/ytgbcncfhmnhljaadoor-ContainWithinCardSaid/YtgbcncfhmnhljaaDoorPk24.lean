/-
  The program's inLimits: the fields are in their limits.
-/
import Derived.Deep.DeepCutAuto
import Derived.Test.YtgbcncfhmnhljaaDoorPk22
import Derived.Test.YtgbcncfhmnhljaaDoorPk23
namespace Go.Proofs.YtgbcncfhmnhljaaDoor
open Go Go.RowKit Sh Leaf

theorem alloc_below {w w2 : World} {o : Obj} (h : Below (w.alloc o).heap.size (w.alloc o) w2) : Below w.heap.size w w2 := ((Below.refl w.heap.size w).alloc (Nat.le_refl _) o).trans (h.mono (by simp))
theorem sepA_snoc2 : ∀ {l : List (Int × Int)} {lo m : Int} {s : Int × Int}, sepA lo l → (∀ x ∈ l, x.2 + 2 ≤ m) → lo ≤ m → m ≤ s.1 → s.1 ≤ s.2 → sepA lo (l ++ [s])
  | [], _, _, _, _, _, h1, h2, h3 => ⟨by omega, h3, trivial⟩
  | a :: t, lo, m, s, h, hx, h1, h2, h3 => ⟨h.1, h.2.1, sepA_snoc2 (l := t) h.2.2 (fun x hx' => hx x (List.mem_cons_of_mem _ hx')) (hx a (by simp)) h2 h3⟩
theorem sepA_part : ∀ {l r : List (Int × Int)} {lo : Int}, sepA lo (l ++ r) → sepA lo l
  | [], _, _, _ => trivial
  | _ :: _, _, _, h => ⟨h.1, h.2.1, sepA_part h.2.2⟩
/-- The first i spans are in order; the next one begins at m or later. -/
structure LmI (da : List (Int × Int)) (i : Nat) (m : Int) : Prop where
  sep : sepA 0 (da.take i)
  less : ∀ s ∈ da.take i, s.2 < 1440
  low : ∀ s ∈ da.take i, s.2 + 2 ≤ m
  m0 : 0 ≤ m
  m1 : m ≤ 1441
  last : m = 0 ∨ ∃ k p q, i = k + 1 ∧ da[k]? = some (p, q) ∧ m = q + 2
theorem LmI.start (da : List (Int × Int)) : LmI da 0 0 := ⟨trivial, fun s h => by simp at h, fun s h => by simp at h, by omega, by omega, .inl rfl⟩
theorem LmI.step {da : List (Int × Int)} {i : Nat} {m : Int} (h : LmI da i m) {s1 s2 : Int} (hs : da[i]? = some (s1, s2)) (h1 : m ≤ s1) (h2 : s1 ≤ s2) (h3 : s2 < 1440) : LmI da (i + 1) (s2 + 2) := by
  have e := Sh.take_snoc hs
  have hm0 := h.m0
  refine ⟨?_, fun s hx => ?_, fun s hx => ?_, by omega, by omega, .inr ⟨i, s1, s2, rfl, hs, rfl⟩⟩
  · rw [e]; exact sepA_snoc2 h.sep h.low hm0 h1 h2
  · rw [e] at hx
    rcases List.mem_append.1 hx with hx | hx
    · exact h.less s hx
    · rw [List.mem_singleton.1 hx]; exact h3
  · rw [e] at hx
    rcases List.mem_append.1 hx with hx | hx
    · have := h.low s hx; omega
    · rw [List.mem_singleton.1 hx]; simp only; omega
theorem LmI.bad {da : List (Int × Int)} {i : Nat} {m : Int} (h : LmI da i m) {s1 s2 : Int} (hs : da[i]? = some (s1, s2)) (hb : s1 < m ∨ s2 < s1 ∨ 1440 ≤ s2) : ¬ (sepA 0 da ∧ ∀ s ∈ da, s.2 < 1440) := by
  rintro ⟨k1, k2⟩
  have hlt := (List.getElem?_eq_some_iff.1 hs).1
  have hmem := List.mem_of_getElem? hs
  have b2 := k2 _ hmem
  have b1 := sepA_mem k1 _ hmem
  simp only at b1 b2
  rcases hb with hb | hb | hb
  · rcases h.last with e | ⟨k, p, q, rfl, hk, e⟩
    · omega
    · have e1 : da = da.take (k + 1 + 1) ++ da.drop (k + 1 + 1) := (List.take_append_drop _ _).symm
      rw [e1] at k1
      have k3 := sepA_part k1
      rw [Sh.take_snoc hs] at k3
      have k4 := sepA_before k3 (p, q) (by rw [Sh.take_snoc hk]; simp)
      simp only at k4
      omega
  · omega
  · omega
set_option maxRecDepth 100000 in
set_option maxHeartbeats 4000000 in
theorem alimits {w : World} {Q : Nat → Prop} {x : Value} {a : Aut} (hx : Av w Q x a) :
    Calls Tryd.prog 37 #[x] w fun e w' => e = .returned (.bool (decide (rng a))) ∧ Below w.heap.size w w' := by
  have hx0 := hx.any
  obtain ⟨A, c, rfl, hS, hab⟩ := hx
  obtain ⟨no, z, l, D, lo, hi, da, nm⟩ := a
  unfold avl
  simp only at hS ⊢
  obtain ⟨R, hR⟩ : ∃ R, R = decide (rng ⟨no, z, l, D, lo, hi, da, nm⟩) := ⟨_, rfl⟩
  rw [← hR]
  have hRl : R = true ↔ lim ⟨no, z, l, D, lo, hi, da, nm⟩ := by rw [lim_rng, hR]; exact decide_eq_true_iff
  obtain ⟨n, hn⟩ : ∃ n, n = da.length := ⟨_, rfl⟩
  rw [← hn]
  have hnl : n ≤ 9223372036854775807 := by have := hS.1; have := hS.2.1; unfold maxLen at this; omega
  have hbn := fun W (hb : Below w.heap.size w W) => abounds (hx0.low hb)
  unfold avl at hbn
  simp only at hbn
  rw [← hn] at hbn
  have hB1 : Below w.heap.size w (w.alloc (.cells (arow no z l D lo hi (.slice A n c) nm) 25)) := (Below.refl w.heap.size w).alloc (Nat.le_refl _) _
  have hbn1 := hbn _ hB1
  have HS := Lib.hid (hS.mono (Q' := fun g => g < w.heap.size) fun g hg _ => hg)
  have HN := Lib.hid hn
  have HRL := Lib.hid hRl
  have HB1 := Lib.hid hB1
  clear hn hRl hR hS hx0 hbn hab hB1
  go_enter Tryd.func37, Tryd.ntmps37
  go_wp2_with fail
  refine hbn1.mono ?_
  rintro e w2 ⟨⟨A2, c2, n2, rfl, hn2, hP⟩, hb2⟩
  have hr2 : ARow w2 w.heap.size no z l D lo hi (.slice A n c) nm := Whole.below (Whole.here w _ _) hb2 (by simp)
  have HLOW := Lib.hid (HB1.out.trans (hb2.mono HB1.out.size))
  have HP := Lib.hid (hP.mono (Q' := fun _ => True) fun _ _ _ => trivial)
  have HR2 := Lib.hid hr2
  have HN2 := Lib.hid hn2
  obtain ⟨bl, hbl⟩ : ∃ bl, bl = bnds ⟨no, z, l, D, lo, hi, da, nm⟩ := ⟨_, rfl⟩
  have HBL := Lib.hid hbl
  rw [← hbl] at HP HN2
  have hn2l : n2 ≤ 9223372036854775807 := by have := HP.out.1; have := HP.out.2.1; unfold maxLen at this; have := HN2.out; omega
  clear hbn1 hb2 hP hr2 hn2 hbl HB1
  go_wp2_with fail
  go_loopw [11] (fun i wr => ∃ j : Nat, i = .int .i64 j ∧ j ≤ n2 ∧ (∀ p ∈ bl.take j, pok p) ∧ Below w.heap.size w wr ∧ ARow wr w.heap.size no z l D lo hi (.slice A n c) nm ∧ Prds wr (fun _ => True) A2 c2 bl) (fun i _ => n2 - (intOf i).toNat)
  case atStart => exact ⟨0, rfl, by omega, fun p hp => by simp at hp, HLOW.out, HR2.out, HP.out⟩
  case round =>
    obtain ⟨j, rfl, hj, hok, hlow, hrow, hprd⟩ := hrel
    clear HLOW HR2 HP
    by_cases hlt : j < n2
    · obtain ⟨p, hp⟩ : ∃ p, bl[j]? = some p := ⟨_, List.getElem?_eq_getElem (by have := HN2.out; omega)⟩
      have hpb := hprd.2.2.2.1 p (List.mem_of_getElem? hp)
      have hv := fun W => pvalid p hpb.1 hpb.2 W
      rw [pv_row] at hv
      obtain ⟨g, o, rfl, hQ, hg, c0, c1, c2', c3, c4, c5⟩ := hprd.get j p hp
      obtain ⟨pk, pm, pl, ph, pn, pu⟩ := p
      simp only at hv c0 c1 c2' c3 c4 c5
      have HP := Lib.hid hprd
      have HR := Lib.hid hrow
      have HB := Lib.hid hlow
      have HI := Lib.hid hp
      have HOK := Lib.hid hok
      have hwl := hrow.lt
      obtain ⟨D1, hD1⟩ : ∃ D, D = decide (pok ⟨pk, pm, pl, ph, pn, pu⟩) := ⟨_, rfl⟩
      rw [← hD1] at hv
      have HD := Lib.hid hD1
      have hj0 : (0 : Int) ≤ (j : Int) := by omega
      have hjn : (j : Int) < (n2 : Int) := by omega
      have hmem : (⟨pk, pm, pl, ph, pn, pu⟩ : Prd) ∈ bl := List.mem_of_getElem? hp
      have HM := Lib.hid hmem
      clear hprd hrow hlow hp hok hD1 hpb hmem
      have hwr : ∀ w2, Below (wr.alloc (.cells (prow pk pm pl ph pn pu) 41)).heap.size (wr.alloc (.cells (prow pk pm pl ph pn pu) 41)) w2 → Below wr.heap.size wr w2 := fun _ h => alloc_below h
      have HW := Lib.hid hwr
      clear hwr
      cases D1
      · go_wp2_with (go_at_call 29; refine (hv _).mono ?_; rintro e w3 ⟨rfl, hb3⟩; have HB3 := Lib.hid (HB.out.trans ((HW.out _ hb3).mono HB.out.size)); clear hb3)
        go_ret
        have hF : R = false := by
          rw [Bool.eq_false_iff]
          intro h
          have h1 := (HRL.out.1 h).1
          rw [← HBL.out] at h1
          exact (of_decide_eq_false HD.out.symm) (h1 _ HM.out)
        exact ⟨by rw [hF]; rfl, HB3.out⟩
      · go_wp2_with (go_at_call 29; refine (hv _).mono ?_; rintro e w3 ⟨rfl, hb3⟩; have HB3 := Lib.hid (HW.out _ hb3); clear hb3)
        go_roundw
        case rel =>
          refine ⟨j + 1, by go_num, by omega, fun q hq => ?_, HB.out.trans (HB3.out.mono HB.out.size), Whole.below HR.out HB3.out hwl, HP.out.below HB3.out (Nat.le_refl _)⟩
          rw [Sh.take_snoc HI.out] at hq
          rcases List.mem_append.1 hq with hq | hq
          · exact HOK.out q hq
          · rw [List.mem_singleton.1 hq]; exact of_decide_eq_true HD.out.symm
        case measure => simp [intOf]; omega
    · obtain rfl : j = n2 := by omega
      have hall : ∀ p ∈ bl, pok p := by
        rw [HN2.out, List.take_length] at hok
        exact hok
      have HALL := Lib.hid hall
      have HB := Lib.hid hlow
      have HR := Lib.hid hrow
      obtain ⟨-, -, -, -, -, -, x6, -⟩ := hrow.cells
      clear hall hok hlow hrow hprd
      go_wp2_with fail
      go_loopw [5, 22] (fun mv iv wx => ∃ (i : Nat) (m : Int), mv = .int .i64 m ∧ iv = .int .i64 (i : Nat) ∧ i ≤ n ∧ LmI da i m ∧ Below w.heap.size w wx) (fun _ iv _ => n - (intOf iv).toNat)
      case atStart => exact ⟨0, 0, rfl, rfl, by omega, LmI.start _, HB.out⟩
      case round =>
        obtain ⟨i, m, rfl, rfl, hi, hlm, hlow⟩ := hrel
        clear HB HR x6
        by_cases hin : i < n
        · obtain ⟨⟨s1, s2⟩, hs⟩ : ∃ s, da[i]? = some s := ⟨_, List.getElem?_eq_getElem (by have := HN.out; omega)⟩
          obtain ⟨g, o, rfl, _, hg, y1, y2⟩ := Spn.get (HS.out.low hlow) i _ hs
          simp only at y1 y2
          have HLM := Lib.hid hlm
          have HSS := Lib.hid hs
          have HB := Lib.hid (hlow.alloc hlow.size (.cells #[.int .i64 s1, .int .i64 s2] 50))
          have hi0 : (0 : Int) ≤ (i : Int) := by omega
          have hi1 : (i : Int) < (n : Int) := by omega
          clear hlm hs hlow
          by_cases hbad : s1 < m ∨ s2 < s1 ∨ 1440 ≤ s2
          · have hF : R = false := by
              rw [Bool.eq_false_iff]
              intro h
              exact HLM.out.bad HSS.out hbad (HRL.out.1 h).2
            have HF := Lib.hid hF
            clear hF
            rcases (by omega : s1 < m ∨ (m ≤ s1 ∧ s2 < s1) ∨ (m ≤ s1 ∧ s1 ≤ s2 ∧ 1440 ≤ s2)) with h1 | ⟨h1, h2⟩ | ⟨h1, h2, h3⟩
            · clear hbad
              go_wp2_with fail
              go_ret
              exact ⟨by rw [HF.out]; rfl, HB.out⟩
            · clear hbad
              go_wp2_with fail
              go_ret
              exact ⟨by rw [HF.out]; rfl, HB.out⟩
            · clear hbad
              go_wp2_with fail
              go_ret
              exact ⟨by rw [HF.out]; rfl, HB.out⟩
          · have h1 : m ≤ s1 := by omega
            have h2 : s1 ≤ s2 := by omega
            have h3 : s2 < 1440 := by omega
            have hm0 := HLM.out.m0
            have w1 : IntKind.i64.wrap (s2 + 2) = s2 + 2 := by rw [IntKind.wrap_i64]; omega
            have HST := Lib.hid (HLM.out.step HSS.out h1 h2 h3)
            clear hbad
            go_wp2_with fail
            go_roundw
            case rel => exact ⟨i + 1, s2 + 2, rfl, by go_num, by omega, HST.out, HB.out⟩
            case measure => simp [intOf]; omega
        · obtain rfl : i = n := by omega
          have hT : R = true := by
            refine HRL.out.2 ⟨?_, ?_, ?_⟩
            · rw [← HBL.out]; exact HALL.out
            · have := hlm.sep
              rw [HN.out, List.take_length] at this
              exact this
            · have := hlm.less
              rw [HN.out, List.take_length] at this
              exact this
          have HT := Lib.hid hT
          have HB := Lib.hid hlow
          clear hT hlm hlow
          go_wp2_with fail
          go_ret
          exact ⟨by rw [HT.out]; rfl, HB.out⟩
end Go.Proofs.YtgbcncfhmnhljaaDoor
