/-
  The law package's awake.
  The law PredicateBack.
-/
import Derived.Test.YtpodgmmgphibfaaDoorPk21
import Derived.Test.YtpodgmmgphibfaaDoorPk24
import Derived.Test.YtpodgmmgphibfaaDoorPk9
import Derived.Test.YtpodgmmgphibfaaDoorPk1
import Derived.Test.YtpodgmmgphibfaaDoorPk13
import Derived.Test.YtpodgmmgphibfaaDoorPk17
namespace Go.Proofs.YtpodgmmgphibfaaDoor
open Go Go.RowKit Sh Leaf

theorem ps_days : ps [100, 97, 121, 115, 32, 48, 44, 54] = (⟨3, 65, 0, 0, [], 0⟩, 0) := by decide +kernel
theorem ed_days : ed ⟨3, 65, 0, 0, [], 0⟩ = ([3, 0, 0, 0, 0, 0, 0, 0, 65], 0) := by decide +kernel
theorem sof_days06 : sof [100, 97, 121, 115, 32, 48, 44, 54] = { data := #[100, 97, 121, 115, 32, 48, 44, 54] } := by unfold sof; rfl
theorem row_9 : (#[Value.int .u8 3, Value.int .u8 0, Value.int .u8 0, Value.int .u8 0, Value.int .u8 0, Value.int .u8 0, Value.int .u8 0, Value.int .u8 0, Value.int .u8 65] : Array Value) = (([3, 0, 0, 0, 0, 0, 0, 0, 65] : List B8).map byt).toArray := by
  simp [show (3 : B8) = BitVec.ofNat 8 3 by rfl, show (0 : B8) = BitVec.ofNat 8 0 by rfl, show (65 : B8) = BitVec.ofNat 8 65 by rfl, byt_lit]
set_option maxHeartbeats 1000000 in
theorem pawake (w : World) (hS : Std w) : Calls Tryd.prog 14 #[] w fun e w' => e = .returned (.bool true) ∧ Below w.heap.size w w' := by
  have hp := pparse [100, 97, 121, 115, 32, 48, 44, 54] (by simp) w hS
  rw [ps_days, sof_days06] at hp
  unfold pv at hp
  simp only at hp
  have he := fun W => pencode ⟨3, 65, 0, 0, [], 0⟩ (by decide) (by simp) W
  rw [ed_days] at he
  unfold pv at he
  simp only at he
  go_enter Tryd.func14, Tryd.ntmps14
  go_wp2_with fail
  refine hp.mono ?_
  rintro e w1 ⟨rfl, hb1⟩
  clear hp
  have hP1 : PRow (w1.alloc (.cells (prow 3 65 0 0 [] 0) 24)) w1.heap.size 3 65 0 0 [] 0 := Whole.here w1 _ _
  go_wp2_with fail
  refine (he _).mono ?_
  rintro e w2 ⟨v2, rfl, hv2, hb2⟩
  have hP2 : PRow w2 w1.heap.size 3 65 0 0 [] 0 := hP1.below hb2 (by simp)
  have c1 := hP2.cells.2.1
  have HB2 := Lib.hid ((hb1.alloc hb1.size (.cells (prow 3 65 0 0 [] 0) 24)).trans (hb2.mono (by have := hb1.size; simp; omega)))
  obtain ⟨A2, k2, rfl, -⟩ := id hv2
  have hsm := same_ _ _ [3, 0, 0, 0, 0, 0, 0, 0, 65] [3, 0, 0, 0, 0, 0, 0, 0, 65] _ _ _ (hv2.alloc _) (lit_bytes w2 (0, 0) [3, 0, 0, 0, 0, 0, 0, 0, 65] _ row_9 (by simp)) (by simp) (by simp)
  have HBA := Lib.hid (HB2.out.alloc HB2.out.size (.cells (([3, 0, 0, 0, 0, 0, 0, 0, 65] : List B8).map byt).toArray 5))
  rw [← row_9] at HBA
  have HSM := Lib.hid hsm
  clear hsm hP1 hP2 hb2 hb1 hv2 he HB2
  go_wp2_with fail
  refine HSM.out.mono ?_
  rintro e w3 ⟨rfl, hb3⟩
  go_wp2
  go_ret
  exact ⟨rfl, HBA.out.trans (hb3.mono HBA.out.size)⟩
end Go.Proofs.YtpodgmmgphibfaaDoor
namespace Go.Proofs.YtpodgmmgphibfaaDoor
open Go Go.RowKit Sh Leaf

theorem dcm_len9 {n : Nat} (h : n ≤ 67108864) : (dcm n).length ≤ 8 := dcm_len 7 n (by omega)
theorem pbody_len {p : Prd} (h : pok p) : (pbody p).length ≤ 192 := by
  obtain ⟨k, m, lo, hi, nm, nu⟩ := p
  unfold pbody
  unfold pok at h
  simp only at h ⊢
  by_cases h3 : k ≤ 3
  · rw [if_pos h3]; exact mask_len m
  · rw [if_neg h3]
    by_cases h5 : k ≤ 5
    · have h1 := dcm_len9 (n := lo.toNat) (by omega)
      have h2 := dcm_len9 (n := hi.toNat) (by omega)
      rw [if_pos h5, List.length_append, List.length_cons]; omega
    · rw [if_neg h5]
      by_cases h6 : k = 6
      · rw [if_pos h6]
        have hn : nmok nm := by
          rcases h with h | h | h | h | h | h | h
          all_goals first | (exact h.2.2.2.2.1) | (have := h.1; omega)
        have := hn.2.1
        omega
      · have h1 := dcm_len9 (n := nu.toNat) (by omega)
        rw [if_neg h6]; omega
theorem pfmt_len {p : Prd} (h : pok p) : (pfmt p).length ≤ 199 := by
  have h1 := wd_len p.kind
  have h2 := pbody_len h
  unfold pfmt
  rw [List.length_append, List.length_cons]; omega
theorem pok_nm {p : Prd} (h : pok p) : p.name.length ≤ 16 := by
  unfold pok at h
  rcases h with h | h | h | h | h | h | h
  · simp [h.2.2.2.2.1]
  · simp [h.2.2.2.2.2.1]
  · simp [h.2.2.2.2.2.1]
  · simp [h.2.2.2.2.2.1]
  · simp [h.2.2.2.2.2.2.1]
  · exact h.2.2.2.2.1.2.1
  · simp [h.2.2.2.2.1]
set_option maxRecDepth 100000 in
set_option maxHeartbeats 4000000 in
theorem back_law (A : Option Addr) (l : List Int) (c : Nat) (A1 : Option Addr) (l1 : List B8) (c1 : Nat) (Q : Nat → Prop) (w : World)
    (hI : Ints w (fun b => b < w.heap.size) A c l) (hb : Bytes w Q (.slice A1 l1.length c1) l1) (hS : Std w) :
    Calls Tryd.prog 6 #[.slice A l.length c, .slice A1 l1.length c1] w fun e w' => e = .returned (.bool true) ∧ Below w.heap.size w w' := by
  obtain ⟨A0, c0, e0, h1, h2, h3, h4⟩ := id hb
  cases e0
  obtain ⟨N, hN, hNc, hN20, p, hp, hpN⟩ := cut_cases hb 20
  unfold maxLen at h2
  have hdn := dnew A l.length c l w rfl hI
  clear hb h4 h3
  have HN := Lib.hid hpN
  have hpl : p.length ≤ 20 := by omega
  clear hpN hI
  have hmin : min (l1.length : Int) 20 = (N : Int) := by rcases hN with ⟨h, e⟩ | ⟨h, e⟩ | ⟨h, h', e⟩ <;> omega
  clear hN
  · skip
    go_enter Tryd.func6, Tryd.ntmps6
    go_wp2_with fail
    refine hdn.mono ?_
    rintro e w1 ⟨rfl, hd1, hb1⟩
    go_wp2_with fail
    refine (dpred _ _ hd1).mono ?_
    rintro e w2 ⟨x, hx, hxm, rfl, ht2⟩
    have hB2 := hb1.trans (ht2.2.1.mono (Nat.le_refl _))
    have HF := Lib.hid (show fm x = (pfmt x, 0) from if_pos hx)
    have HE := Lib.hid (show ed x = (en x, 0) from if_pos hx)
    have HP := Lib.hid (ps_fmt hx hxm)
    have HD := Lib.hid (dn_en hx hxm p)
    have hxn := pok_nm hx
    have hfl := pfmt_len hx
    have hel := en_len hx
    have hpf := fun W hW => pformat x hxm (by omega) W hW
    have hpe := fun W => pencode x hxm (by omega) W
    have hpp := fun W hW => pparse (pfmt x) (by omega) W hW
    have hpd := fun v W hW => pdecode v (en x ++ p) (fun _ => True) W hW
    rw [HF.out] at hpf
    rw [HE.out] at hpe
    rw [HP.out] at hpp
    rw [HD.out] at hpd
    simp only at hpf hpe hpp hpd
    clear HF HE HP HD hdn hd1 ht2 hx hb1
    generalize pfmt x = T at *
    generalize en x = EN at *
    obtain ⟨xk, xm, xl, xh, xn, xu⟩ := x
    unfold pv at hpf hpe hpp hpd ⊢
    simp only at hpf hpe hpp hpd hxm hxn ⊢
    have hp2 := hp.below hB2 (Nat.le_refl _)
    have hS2 := hS.below hB2 (Nat.le_refl _)
    have hX3 : PRow (w2.alloc (.cells (prow xk xm xl xh xn xu) 24)) w2.heap.size xk xm xl xh xn xu := Whole.here w2 _ _
    have hb3 := (Below.refl w2.heap.size w2).alloc (Nat.le_refl _) (.cells (prow xk xm xl xh xn xu) 24)
    have HX3 := Lib.hid hX3
    have HP3 := Lib.hid (hp2.below hb3 (Nat.le_refl _))
    have HB3 := Lib.hid (hB2.trans (hb3.mono hB2.size))
    have hS3 := hS2.below hb3 (Nat.le_refl _)
    clear hX3 hb3 hp2 hS2 hB2 hp hS
    go_wp2_with (first | (with_reducible refine wpList_load_prd rfl _ rfl (g := w2.heap.size) rfl HX3.out ?_))
    refine (hpf _ hS3).mono ?_
    rintro e w4 ⟨rfl, hb4⟩
    have HX4 := Lib.hid (HX3.out.below hb4 (by simp))
    have HP4 := Lib.hid (HP3.out.below hb4 (Nat.le_refl _))
    have HB4 := Lib.hid (HB3.out.trans (hb4.mono HB3.out.size))
    have hS4 := hS3.below hb4 (Nat.le_refl _)
    have hl4 := HX4.out.lt
    clear hb4 HX3 HP3 HB3 hS3 hpf
    go_wp2_with fail
    refine (hpp _ hS4).mono ?_
    rintro e w5 ⟨rfl, hb5⟩
    have HX5 := Lib.hid (Whole.alloc (HX4.out.below hb5 hl4) (.cells (prow xk xm xl xh xn xu) 24))
    have HY5 : Hid (PRow (w5.alloc (.cells (prow xk xm xl xh xn xu) 24)) w5.heap.size xk xm xl xh xn xu) := Lib.hid (Whole.here w5 _ _)
    have HP5 := Lib.hid ((HP4.out.below hb5 (Nat.le_refl _)).alloc (.cells (prow xk xm xl xh xn xu) 24))
    have HB5 := Lib.hid ((HB4.out.trans (hb5.mono HB4.out.size)).alloc (HB4.out.trans (hb5.mono HB4.out.size)).size (.cells (prow xk xm xl xh xn xu) 24))
    have hS5 := (hS4.below hb5 (Nat.le_refl _)).below ((Below.refl w5.heap.size w5).alloc (Nat.le_refl _) (.cells (prow xk xm xl xh xn xu) 24)) (Nat.le_refl _)
    have hl5 : w2.heap.size < w5.heap.size := Nat.lt_of_lt_of_le hl4 hb5.size
    clear hb5 HX4 HP4 HB4 hS4 hpp hl4
    go_wp2_with (first | (with_reducible refine wpList_load_prd rfl _ rfl (g := w2.heap.size) rfl HX5.out ?_))
    refine (hpe _).mono ?_
    rintro e w6 ⟨v6, rfl, hv6, hb6⟩
    have HX6 := Lib.hid (HX5.out.below hb6 (by simp; omega))
    have HY6 := Lib.hid (HY5.out.below hb6 (by simp))
    have HP6 := Lib.hid (HP5.out.below hb6 (Nat.le_refl _))
    have HB6 := Lib.hid (HB5.out.trans (hb6.mono HB5.out.size))
    have hS6 := hS5.below hb6 (Nat.le_refl _)
    have hl6 : w5.heap.size < w6.heap.size := HY6.out.lt
    obtain ⟨A6, c6, rfl, -⟩ := id hv6
    clear hb6 HX5 HY5 HP5 HB5 hS5 hpe
    go_wp2_with (first
      | (at_builtin; (refine wpList_append_bytes rfl (.tmp 41) (.tmp 42) rfl w6.heap.size _ EN rfl hown7 Q _ p rfl (HP6.out.below hb7' (Nat.le_refl _)) (by omega) hs7 ?_); intro v8 w8 hown8 hb8)
      | (at_builtin; (refine wpList_append_bytes rfl (.tmp 39) (.tmp 40) rfl w6.heap.size (.slice (some ⟨w6.heap.size, 0, none⟩) 0 0) [] rfl (own_lit w6 w6.heap.size [] (Nat.le_refl _) (by simp)) _ _ EN rfl (hv6.alloc _) (by simp; omega) (by simp) ?_); intro v7 w7 hown7 hb7; rw [List.nil_append] at hown7; have hb7' := ((Below.refl w6.heap.size w6).alloc (Nat.le_refl _) (.cells #[] 5)).trans hb7; have hs7 := hb7'.size))
    have hb68 := hb7'.trans hb8
    refine (hpd _ _ ((Bytes.of_own hown8).mono fun _ _ _ => trivial)).mono ?_
    rintro e w9 ⟨rfl, hb9⟩
    have hb69 := hb68.trans (hb9.mono hb68.size)
    have HX9 := Lib.hid (Whole.alloc (HX6.out.below hb69 (by omega)) (.cells (prow xk xm xl xh xn xu) 24))
    have HY9 := Lib.hid (Whole.alloc (HY6.out.below hb69 (by omega)) (.cells (prow xk xm xl xh xn xu) 24))
    have HZ9 : Hid (PRow (w9.alloc (.cells (prow xk xm xl xh xn xu) 24)) w9.heap.size xk xm xl xh xn xu) := Lib.hid (Whole.here w9 _ _)
    have HB9 := Lib.hid ((HB6.out.trans (hb69.mono HB6.out.size)).alloc (HB6.out.trans (hb69.mono HB6.out.size)).size (.cells (prow xk xm xl xh xn xu) 24))
    have HS9 := Lib.hid ((hS6.below hb69 (Nat.le_refl _)).below ((Below.refl w9.heap.size w9).alloc (Nat.le_refl _) (.cells (prow xk xm xl xh xn xu) 24)) (Nat.le_refl _))
    have hl9 : w6.heap.size ≤ w9.heap.size := hb69.size
    have hq := fun W => run_eql_prd xk (xm : Int) xl xh xu xk (xm : Int) xl xh xu xn xn W
    simp only [and_self, decide_true] at hq
    clear hb69 hb68 hb9 hb8 hb7 hb7' hown7 hown8 hv6 hS6 HX6 HY6 HP6 HB6 hpd
    have c1 := PRow.cells HX9.out
    have c2 := PRow.cells HY9.out
    have c3 := PRow.cells HZ9.out
    go_wp2_with (go_at_call 14; refine (pawake _ HS9.out).mono ?_; rintro e w10 ⟨rfl, hb10⟩)
    go_ret
    exact ⟨rfl, HB9.out.trans (hb10.mono HB9.out.size)⟩
end Go.Proofs.YtpodgmmgphibfaaDoor
