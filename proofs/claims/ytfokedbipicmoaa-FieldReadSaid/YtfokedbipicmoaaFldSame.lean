/-
  SameLists of the reference; the law's few.
-/
import Derived.Test.YtfokedbipicmoaaKRows
import Derived.Test.YtfokedbipicmoaaKSame
import Derived.Test.YtfokedbipicmoaaKCut
import Derived.Deep.RegionHeld3
namespace Go.Proofs.Ytfokedbipicmoaa
open Go Go.RowKit Sh Leaf

set_option maxHeartbeats 2000000 in
theorem rsame (va vb : Value) (a b : List (List B8)) (w : World) (ha : Lists w va a) (hb : Lists w vb b) (hla : ∀ x ∈ a, x.length ≤ 1000000) (hlb : ∀ x ∈ b, x.length ≤ 1000000) (hal : a.length ≤ 1000000) :
    Calls Try.prog 21 #[va, vb] w fun e w' => e = .returned (.bool (decide (a = b))) ∧ Below w.heap.size w w' := by
  obtain ⟨A, c, us, rfl, -⟩ := id ha
  obtain ⟨B, d, us', rfl, -⟩ := id hb
  by_cases hlen : a.length = b.length
  · rw [← hlen] at hb ⊢
    have HLEN := Lib.hid hlen
    clear hlen
    go_enter Try.func21, Try.ntmps21
    go_wp2
    go_loopw [5] (fun vi wr => ∃ k : Nat, k ≤ a.length ∧ vi = .int .i64 k ∧ a.take k = b.take k ∧ Below w.heap.size w wr) (fun vi _ => a.length - (intOf vi).toNat)
    case atStart => exact ⟨0, by omega, rfl, by simp, Below.refl _ _⟩
    case round =>
      obtain ⟨k, hk, rfl, hx, hbw⟩ := hrel
      by_cases hlt : k < a.length
      · have hkb : k < b.length := by rw [← HLEN.out]; exact hlt
        obtain ⟨-, -, -, hget⟩ := ha.get
        obtain ⟨g, o, A', c', rfl, hc0, hx0, hg⟩ := hget k hlt
        obtain ⟨-, -, -, hget'⟩ := hb.get
        obtain ⟨g', o', B', d', rfl, hc0', hx0', hg'⟩ := hget' k hkb
        have hd : wr.cell? ⟨g, o + k, none⟩ = some (.slice A' a[k].length c') := (hbw.cell (p := ⟨g, o + k, none⟩) hg).trans hc0
        have hd' : wr.cell? ⟨g', o' + k, none⟩ = some (.slice B' b[k].length d') := (hbw.cell (p := ⟨g', o' + k, none⟩) hg').trans hc0'
        have h1 := hx0.below hbw (Nat.le_refl _)
        have h2 := hx0'.below hbw (Nat.le_refl _)
        have HX := Lib.hid hx
        have hxa := hla a[k] (List.getElem_mem _)
        have hxb := hlb b[k] (List.getElem_mem _)
        have hk0 : (0 : Int) ≤ (k : Int) := by omega
        have hka : (k : Int) < (a.length : Int) := by omega
        have HE : Hid (a[k] = b[k] → a.take (k + 1) = b.take (k + 1)) := Lib.hid (fun he => by
          rw [List.take_add_one, List.take_add_one, List.getElem?_eq_getElem hlt, List.getElem?_eq_getElem hkb, HX.out, he])
        have HN : Hid (¬ a[k] = b[k] → decide (a = b) = false) := Lib.hid (fun he => by
          rw [decide_eq_false_iff_not]
          rintro rfl
          exact he rfl)
        have hs := hbw.size
        clear ha hb hget hget' hc0 hc0' hx0 hx0' hx hla hlb
        generalize a[k] = x at *
        generalize b[k] = y at *
        have hsame := fun W (hk : Below wr.heap.size wr W) => same_ (.slice A' x.length c') (.slice B' y.length d') x y _ _ W (h1.below hk (Nat.le_refl _)) (h2.below hk (Nat.le_refl _)) hxa hxb
        have HS := Lib.hid hsame
        have hgr : g < wr.heap.size := by omega
        have hgr' : g' < wr.heap.size := by omega
        clear hsame h1 h2
        obtain ⟨t, ht⟩ : ∃ t, t = decide (x = y) := ⟨_, rfl⟩
        rw [← ht] at HS
        have HT := Lib.hid ht
        clear ht
        cases t
        all_goals
          go_wp2
          go_region_held3 (fun w' => w'.cell? ⟨g, o + k, none⟩ = some (.slice A' x.length c') ∧ w'.cell? ⟨g', o' + k, none⟩ = some (.slice B' y.length d')) (first | exact ⟨hd, hd'⟩ | assumption)
            (first | (go_at_call 10; refine (HS.out _ ((Below.refl _ _).drew)).mono ?_; rintro e w5 ⟨rfl, hb5⟩; have hS5 : w5.cell? ⟨g, o + k, none⟩ = some (.slice A' x.length c') ∧ w5.cell? ⟨g', o' + k, none⟩ = some (.slice B' y.length d') := ⟨(hb5.cell (p := ⟨g, o + k, none⟩) hgr).trans hd, (hb5.cell (p := ⟨g', o' + k, none⟩) hgr').trans hd'⟩))
        · have HF := Lib.hid (HN.out (of_decide_eq_false HT.out.symm))
          have hq := hbw.trans (((Below.refl _ _).drew.trans hb5).mono hs)
          go_wp2
          go_ret
          exact ⟨by rw [HF.out]; rfl, hq⟩
        · have HF := Lib.hid (HE.out (of_decide_eq_true HT.out.symm))
          have hq := hbw.trans (((Below.refl _ _).drew.trans hb5).mono hs)
          go_wp2
          go_roundw
          case rel => exact ⟨k + 1, by omega, by go_num, HF.out, hq⟩
          case measure => simp [intOf]; omega
      · have hk2 : k = a.length := by omega
        have hx' : decide (a = b) = true := by
          have e1 : a.take k = a := by rw [hk2]; exact List.take_length
          have e2 : b.take k = b := by rw [hk2, HLEN.out]; exact List.take_length
          rw [e1, e2] at hx
          simpa using hx
        have HN := Lib.hid hx'
        clear hx hx' ha hb hla hlb
        go_wp2
        go_ret
        exact ⟨by rw [HN.out]; rfl, hbw⟩
  · have hne : decide (a = b) = false := by
      rw [decide_eq_false_iff_not]
      intro h
      exact hlen (by rw [h])
    have HN := Lib.hid hne
    clear hne ha hb hla hlb
    go_enter Try.func21, Try.ntmps21
    go_wp2
    go_ret
    exact ⟨by rw [HN.out]; rfl, Below.refl _ _⟩

/-- The law's few: at most twenty lists of at most 200 bytes. -/
def cutl (ll : List (List B8)) : List (List B8) := (ll.take 20).map (·.take 200)
theorem cutl_len (ll : List (List B8)) : (cutl ll).length ≤ 20 := by simp [cutl]; omega
theorem cutl_all (ll : List (List B8)) : ∀ x ∈ cutl ll, x.length ≤ 200 := by
  intro x hx
  simp only [cutl, List.mem_map] at hx
  obtain ⟨y, _, rfl⟩ := hx
  simp; omega
theorem cutl_step {ll : List (List B8)} {k : Nat} (hk : k < ll.length) : (ll.take (k + 1)).map (·.take 200) = (ll.take k).map (·.take 200) ++ [ll[k].take 200] := by
  rw [List.take_succ_eq_append_getElem hk, List.map_append]; rfl
set_option maxHeartbeats 2000000 in
set_option maxRecDepth 100000 in
theorem few_ (v : Value) (ll : List (List B8)) (w : World) (h : Lists w v ll) :
    Calls Try.prog 16 #[v] w fun e w' => ∃ v', e = .returned v' ∧ Lists w' v' (cutl ll) ∧ Below w.heap.size w w' := by
  obtain ⟨A, c, us0, rfl, hlc, hcm, -⟩ := id h
  unfold maxLen at hcm
  have hcm' : c ≤ 9223372036854775807 := by omega
  clear hcm
  go_enter Try.func16, Try.ntmps16
  go_wp2
  go_loopw [3, 4] (fun vo vi wr => ∃ (k : Nat) (us : List Value), k ≤ ll.length ∧ k ≤ 20 ∧ us.length = k ∧ vi = .int .i64 k ∧ wr.ownsRow w.heap.size 22 1 vo us.length us ∧ Each wr w.heap.size us ((ll.take k).map (·.take 200)) ∧ Below w.heap.size w wr) (fun _ vi _ => 20 - (intOf vi).toNat)
  case atStart => exact ⟨0, [], by omega, by omega, rfl, rfl, World.ownsRow_nil _ _ _ _, by simpa using Each.nil _ _, Below.refl _ _⟩
  case round =>
    obtain ⟨k, us, hk, hk20, hul, rfl, hown, hea, hb⟩ := hrel
    have hs := hb.size
    by_cases hlt : k < ll.length ∧ k < 20
    · obtain ⟨hlt, hlt20⟩ := hlt
      obtain ⟨-, -, -, hget⟩ := h.get
      obtain ⟨g, o, A', c', rfl, hc0, hx0, hg⟩ := hget k hlt
      have hd : wr.cell? ⟨g, o + k, none⟩ = some (.slice A' ll[k].length c') := (hb.cell (p := ⟨g, o + k, none⟩) hg).trans hc0
      have hx1 := hx0.mono (Q' := fun g => g < w.heap.size) fun g hg _ => hg
      have hk0 : (0 : Int) ≤ (k : Int) := by omega
      have hka : (k : Int) < (ll.length : Int) := by omega
      have hk20' : (k : Int) < 20 := by omega
      have hcut := hx1.cut 200
      have hstep := cutl_step hlt
      have HSTEP := Lib.hid hstep
      clear hget hc0 hx0 h hstep
      generalize ll[k] = x at *
      obtain ⟨A0, c0, e0, hxc, hxm, -⟩ := id hx1
      cases e0
      have hxm' : c' ≤ 9223372036854775807 := by unfold maxLen at hxm; omega
      obtain ⟨N, p, hN, hNp, hNc, hp⟩ : ∃ (N : Nat) (p : List B8), ((200 < x.length ∧ N = 200) ∨ (x.length < 200 ∧ N = x.length) ∨ (x.length ≤ 200 ∧ 200 ≤ x.length ∧ N = x.length)) ∧ (p = x.take 200 ∧ p.length = N) ∧ N ≤ c' ∧ Bytes w (fun g => g < w.heap.size) (.slice A' N c') p := by
        rcases Nat.lt_trichotomy x.length 200 with h | h | h
        · exact ⟨_, x, .inr (.inl ⟨h, rfl⟩), ⟨(List.take_of_length_le (by omega)).symm, rfl⟩, hxc, hx1⟩
        · exact ⟨_, x, .inr (.inr ⟨by omega, by omega, rfl⟩), ⟨(List.take_of_length_le (by omega)).symm, rfl⟩, hxc, hx1⟩
        · have e : (x.take 200).length = 200 := by simp; omega
          rw [e] at hcut
          exact ⟨200, _, .inl ⟨h, rfl⟩, ⟨rfl, e⟩, by omega, hcut⟩
      have HNP := Lib.hid hNp
      have HP := Lib.hid hp
      have hgr : g < wr.heap.size := by omega
      have hda : ∀ O : Obj, ((wr.alloc O).drew).cell? ⟨g, o + k, none⟩ = some (.slice A' x.length c') := fun O => ((Below.refl wr.heap.size wr).alloc (Nat.le_refl _) O).cell (p := ⟨g, o + k, none⟩) hgr |>.trans hd
      have hfar : ∀ r, u3.ownBlock = some r → g ≠ r := fun r hr => by have := (hown.lt r hr).1; omega
      have hNi : (N : Int) ≤ (c' : Int) := by omega
      have hN0 : (0 : Int) ≤ (N : Int) := by omega
      clear hNp hp hcut hx1 hxm
      rcases hN with ⟨hx2, rfl⟩ | ⟨hx2, rfl⟩ | ⟨hx2, hx3, rfl⟩
      · have hNlt : (200 : Int) < (x.length : Int) := by omega
        have hN200 : (200 : Int) ≤ (c' : Int) := by omega
        go_wp2
        go_region_held3 (fun w' => w'.cell? ⟨g, o + k, none⟩ = some (.slice A' x.length c')) (first | exact hd | assumption | exact hda _)
          (first
            | (refine step_append_elem (by rfl) _ _ (by rfl) w.heap.size _ us (by rfl) (hown.drew.alloc _) (.slice A' 200 c') (by rfl) wr.heap.size 1 (by rfl) (by simp) (by omega) (by simp; omega) ?_; intro v2 w2 hown2 hb2 hk2 hg2; have hd2 : w2.cell? ⟨g, o + k, none⟩ = some (.slice A' x.length c') := (hb2.cell (p := ⟨g, o + k, none⟩) hg).trans (hda _)))
        have hbw : Below w.heap.size wr w2 := (((Below.refl _ _).alloc hs _).drew.trans hb2)
        have hkw : Kb wr w2 := ((Kb.alloc _ _).trans (Kb.drew _)).trans hk2
        have HE : Hid (Each w2 w.heap.size (us ++ [.slice A' 200 c']) ((ll.take (k + 1)).map (·.take 200))) := Lib.hid (by
          rw [HSTEP.out, ← HNP.out.1]
          exact (hea.keep hbw hkw).snoc (Elem.of_low (HP.out.keep fun g _ hg => (hb.trans hbw).block g hg)))
        clear hea hd2 hd hda
        go_wp2
        go_roundw
        case rel => exact ⟨k + 1, us ++ [.slice A' 200 c'], by omega, by omega, by simp; omega, by go_num, hown2, HE.out, hb.trans hbw⟩
        case measure => simp [intOf]; omega
      · obtain ⟨N, hN⟩ : ∃ N, N = x.length := ⟨_, rfl⟩
        rw [← hN] at hd hda HNP HP hNc hNi hN0 hxc hx2
        clear hN hxc
        have hNlt : (N : Int) < 200 := by omega
        have hmin : (if (200 : Int) < (N : Int) then (200 : Int) else (N : Int)) = (N : Int) := by rw [if_neg (by omega)]
        go_wp2
        go_region_held3 (fun w' => w'.cell? ⟨g, o + k, none⟩ = some (.slice A' N c')) (first | exact hd | assumption | exact hda _)
          (first
            | (refine step_append_elem (by rfl) _ _ (by rfl) w.heap.size _ us (by rfl) (hown.drew.alloc _) (.slice A' N c') (by rfl) wr.heap.size 1 (by rfl) (by simp) (by omega) (by simp; omega) ?_; intro v2 w2 hown2 hb2 hk2 hg2; have hd2 : w2.cell? ⟨g, o + k, none⟩ = some (.slice A' N c') := (hb2.cell (p := ⟨g, o + k, none⟩) hg).trans (hda _)))
        have hbw : Below w.heap.size wr w2 := (((Below.refl _ _).alloc hs _).drew.trans hb2)
        have hkw : Kb wr w2 := ((Kb.alloc _ _).trans (Kb.drew _)).trans hk2
        have HE : Hid (Each w2 w.heap.size (us ++ [.slice A' N c']) ((ll.take (k + 1)).map (·.take 200))) := Lib.hid (by
          rw [HSTEP.out, ← HNP.out.1]
          exact (hea.keep hbw hkw).snoc (Elem.of_low (HP.out.keep fun g _ hg => (hb.trans hbw).block g hg)))
        clear hea hd2 hd hda
        go_wp2
        go_roundw
        case rel => exact ⟨k + 1, us ++ [.slice A' N c'], by omega, by omega, by simp; omega, by go_num, hown2, HE.out, hb.trans hbw⟩
        case measure => simp [intOf]; omega
      · have hx200 : x.length = 200 := by omega
        rw [hx200] at hd hda HNP HP hNc hNi hN0 hxc hx2 hx3
        clear hx200
        have hN200 : (200 : Int) ≤ (c' : Int) := by omega
        go_wp2
        go_region_held3 (fun w' => w'.cell? ⟨g, o + k, none⟩ = some (.slice A' 200 c')) (first | exact hd | assumption | exact hda _)
          (first
            | (refine step_append_elem (by rfl) _ _ (by rfl) w.heap.size _ us (by rfl) (hown.drew.alloc _) (.slice A' 200 c') (by rfl) wr.heap.size 1 (by rfl) (by simp) (by omega) (by simp; omega) ?_; intro v2 w2 hown2 hb2 hk2 hg2; have hd2 : w2.cell? ⟨g, o + k, none⟩ = some (.slice A' 200 c') := (hb2.cell (p := ⟨g, o + k, none⟩) hg).trans (hda _)))
        have hbw : Below w.heap.size wr w2 := (((Below.refl _ _).alloc hs _).drew.trans hb2)
        have hkw : Kb wr w2 := ((Kb.alloc _ _).trans (Kb.drew _)).trans hk2
        have HE : Hid (Each w2 w.heap.size (us ++ [.slice A' 200 c']) ((ll.take (k + 1)).map (·.take 200))) := Lib.hid (by
          rw [HSTEP.out, ← HNP.out.1]
          exact (hea.keep hbw hkw).snoc (Elem.of_low (HP.out.keep fun g _ hg => (hb.trans hbw).block g hg)))
        clear hea hd2 hd hda
        go_wp2
        go_roundw
        case rel => exact ⟨k + 1, us ++ [.slice A' 200 c'], by omega, by omega, by simp; omega, by go_num, hown2, HE.out, hb.trans hbw⟩
        case measure => simp [intOf]; omega
    · have e : (ll.take k).map (·.take 200) = cutl ll := by
        unfold cutl
        congr 1
        rw [List.take_eq_take_iff]
        omega
      rw [e] at hea
      have HL := Lib.hid (Lists.of_own hown hea)
      have hor : ¬ k < ll.length ∨ (k < ll.length ∧ ¬ k < 20) := by omega
      clear hown hea e h hlt
      rcases hor with h1 | ⟨h1, h2⟩
      · go_wp2
        go_ret
        exact ⟨_, rfl, HL.out, hb⟩
      · have h1' : (k : Int) < (ll.length : Int) := by omega
        have h2' : ¬ (k : Int) < 20 := by omega
        go_wp2
        go_ret
        exact ⟨_, rfl, HL.out, hb⟩
end Go.Proofs.Ytfokedbipicmoaa
