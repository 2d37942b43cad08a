/-
  The reference's closed.
  The reference's Valid: what is known ahead of its end.
  The reference's Valid: no kind.
  The reference's Valid: kind 1.
  The reference's Valid: kind 2.
  The reference's Valid: kind 3.
  The reference's Valid: kind 4.
  The reference's Valid: kind 5.
  The reference's Valid: kind 6.
  The reference's Valid: kind 7.
  The reference's Valid.
-/
import Derived.BigRegion
import Derived.Deep.DeepCutAuto
import Derived.Deep.CutBlock
import Derived.Test.YtgbcncfhmnhljaaDoorPk0
import Derived.Test.YtgbcncfhmnhljaaDoorPk29
import Derived.Test.YtgbcncfhmnhljaaDoorPk8
import Derived.Test.YtgbcncfhmnhljaaDoorPk10
namespace Go.Proofs.YtgbcncfhmnhljaaDoor
open Go Go.RowKit Sh Leaf

section
variable {F L D : Nat} {M : Nat → Bool}
abbrev tm (M : Nat → Bool) : Nat → Prop := fun k => M k = true
theorem hasB_iff (x : Nat) : hasB F L D M x = true ↔ inT F L D (tm M) x := by
  unfold hasB inT tm
  simp only [Bool.and_eq_true, decide_eq_true_eq, Int.ofNat_le]
theorem upto_lt {d k x : Nat} (hk : k ≤ 1440) (h : upto F L D (tm M) d k x) : x < d * 1440 + k := by
  obtain ⟨_, _, h | ⟨h1, h2⟩⟩ := h <;> omega
theorem upto_step {d k : Nat} (hk : k < 1440) (hs : d ≤ F / 1440 + 9 ∨ L / 1440 ≤ d + 9) (h : inT F L D (tm M) (d * 1440 + k)) (y : Nat) : (upto F L D (tm M) d k y ∨ y = d * 1440 + k) ↔ upto F L D (tm M) d (k + 1) y := by
  constructor
  · rintro (⟨h1, h2, h3⟩ | rfl)
    · exact ⟨h1, h2, by omega⟩
    · exact ⟨h, by unfold Sh.seen; omega, by omega⟩
  · rintro ⟨h1, h2, h3⟩
    by_cases e : y = d * 1440 + k
    · exact .inr e
    · exact .inl ⟨h1, h2, by omega⟩
theorem upto_skip {d k : Nat} (hk : k < 1440) (h : ¬ inT F L D (tm M) (d * 1440 + k)) (y : Nat) : upto F L D (tm M) d k y ↔ upto F L D (tm M) d (k + 1) y := by
  constructor
  · rintro ⟨h1, h2, h3⟩; exact ⟨h1, h2, by omega⟩
  · rintro ⟨h1, h2, h3⟩
    by_cases e : y = d * 1440 + k
    · subst e; exact absurd h1 h
    · exact ⟨h1, h2, by omega⟩
theorem upto_day {d : Nat} (y : Nat) : upto F L D (tm M) d 1440 y ↔ upto F L D (tm M) (d + 1) 0 y := by
  constructor
  · rintro ⟨h1, h2, h3⟩; exact ⟨h1, h2, by omega⟩
  · rintro ⟨h1, h2, h3⟩; exact ⟨h1, h2, by omega⟩
theorem upto_off {d : Nat} (h : ¬ D / 2 ^ (d % 7) % 2 = 1) (y : Nat) : upto F L D (tm M) d 0 y ↔ upto F L D (tm M) (d + 1) 0 y := by
  constructor
  · rintro ⟨h1, h2, h3⟩; exact ⟨h1, h2, by omega⟩
  · rintro ⟨h1, h2, h3⟩
    by_cases e : y / 1440 = d
    · have := h1.2.2.1
      rw [e] at this
      exact absurd this h
    · exact ⟨h1, h2, by omega⟩
theorem upto_jump {d : Nat} (h1 : F / 1440 + 9 < d) (h2 : d + 9 < L / 1440) (y : Nat) : upto F L D (tm M) d 0 y ↔ upto F L D (tm M) (L / 1440 - 9) 0 y := by
  constructor
  · rintro ⟨k1, k2, k3⟩; exact ⟨k1, k2, by omega⟩
  · rintro ⟨k1, k2, k3⟩; exact ⟨k1, k2, by unfold Sh.seen at k2; omega⟩
theorem upto_all {d : Nat} (h : L / 1440 < d) (y : Nat) : upto F L D (tm M) d 0 y ↔ inT F L D (tm M) y ∧ Sh.seen F L y := by
  constructor
  · rintro ⟨k1, k2, k3⟩; exact ⟨k1, k2⟩
  · rintro ⟨k1, k2⟩; exact ⟨k1, k2, by have := k1.2.1; omega⟩
theorem upto_start (y : Nat) : ¬ upto F L D (tm M) (F / 1440) 0 y := by
  rintro ⟨k1, k2, k3⟩
  have := k1.1
  omega
end
theorem pow_wrap (i : Nat) (h : i < 7) : IntKind.u64.wrap ((2 : Int) ^ i) = ((2 ^ i : Nat) : Int) := by
  rcases (by omega : i = 0 ∨ i = 1 ∨ i = 2 ∨ i = 3 ∨ i = 4 ∨ i = 5 ∨ i = 6) with rfl | rfl | rfl | rfl | rfl | rfl | rfl <;> rfl
theorem bit_zero (m i : Nat) : (((m : Int) / 2 ^ i).tmod 2 == 0) = !decide (m / 2 ^ i % 2 = 1) := by
  have e : ((m : Int) / 2 ^ i) = ((m / 2 ^ i : Nat) : Int) := by push_cast; rfl
  have e2 : ((m / 2 ^ i : Nat) : Int) % 2 = ((m / 2 ^ i % 2 : Nat) : Int) := by push_cast; rfl
  rw [e, Int.tmod_eq_emod_of_nonneg (Int.natCast_nonneg _), e2]
  by_cases h : m / 2 ^ i % 2 = 1
  · rw [h]; rfl
  · rw [show m / 2 ^ i % 2 = 0 by omega]; rfl
theorem own_len {w : World} {b : Nat} {A : Option Addr} {c : Nat} {l : List (Int × Int)} : ∀ n, l.length = n → OwnSp w b (.slice A l.length c) l → OwnSp w b (.slice A n c) l := by
  rintro n rfl h; exact h
theorem own_slice {w : World} {b n size : Nat} {e : TypeId} {v : Value} {xs : List Value} (h : w.ownsRow b e size v n xs) : ∃ A n c, v = .slice A n c := by
  rcases h.2 with ⟨rfl, _⟩ | ⟨g, cap, cur, rfl, _⟩
  · exact ⟨_, _, _, rfl⟩
  · exact ⟨_, _, _, rfl⟩
theorem own_set {w : World} {base n size g i : Nat} {e : TypeId} {v : Value} {xs : List Value} (h : w.ownsRow base e size v n xs) (hg : g < base) (u : Value) : (w.setCell ⟨g, i, none⟩ u).ownsRow base e size v n xs := by
  refine ⟨h.1, ?_⟩
  rcases h.2 with h2 | ⟨b, cap, cur, hv, hb, hh, r⟩
  · exact .inl h2
  · exact .inr ⟨b, cap, cur, hv, hb, (heap_setCell_other w ⟨g, i, none⟩ b u (by show b ≠ g; omega)).trans hh, r⟩
/-- What is known while the minutes are gathered. -/
def Cl (w : World) (no : Bool) (z ln : Nat) (nm : List B8) (T : Nat → Prop) (wr : World) : Prop :=
  ∃ m dy lo hi, ARow wr w.heap.size no z ln (dy : Nat) lo hi (.slice none 0 0) nm ∧ ARow wr (w.heap.size + 1) false 0 0 0 0 0 (.slice none 0 0) [] ∧ Whole wr (w.heap.size + 1 + 1) 67 (flags m) ∧ Below w.heap.size w wr ∧ Acc T m dy lo hi
theorem Cl.congr {w : World} {no : Bool} {z ln : Nat} {nm : List B8} {T U : Nat → Prop} {wr : World} (h : Cl w no z ln nm T wr) (e : ∀ x, T x ↔ U x) : Cl w no z ln nm U wr := by
  obtain ⟨m, dy, lo, hi, h1, h2, h3, h4, h5⟩ := h
  exact ⟨m, dy, lo, hi, h1, h2, h3, h4, h5.congr e⟩
set_option maxRecDepth 100000 in
set_option maxHeartbeats 4000000 in
theorem rclosed (z ln dd : Nat) (lo hi : Int) (v : Value) (nm : List B8) (g F L D : Nat) (M : Nat → Bool) (hL : L ≤ 67108864) (hFL : F ≤ L) (w : World) (ht : TRow w g F L D M) :
    Calls Tryd.prog 35 #[.agg (arow false z ln dd lo hi v nm), .pointer (some ⟨g, 0, none⟩)] w fun e w' =>
      (∃ x, e = .returned x ∧ (((∀ y, ¬ inT F L D (tm M) y) ∧ x = .agg (arow true 0 0 0 0 0 (.slice none 0 0) [])) ∨ ∃ a A c, Canon z ln (inT F L D (tm M)) nm a ∧ x = .agg (avl a A c) ∧ Spn w' (fun b => w.heap.size ≤ b) A c a.daily)) ∧ Below w.heap.size w w' := by
  have hg := ht.lt
  have hz : ∀ o, ARow ((w.alloc o).alloc (.cells #[.bool false, .int .u64 0, .int .u64 0, .int .u64 0, .int .i64 0, .int .i64 0, .slice none 0 0, .string { data := #[] }] 25)) (w.heap.size + 1) false 0 0 0 0 0 (.slice none 0 0) [] := fun o => by
    have e : sof [] = { data := #[] } := by unfold sof; rfl
    show Whole _ _ _ #[_, _, _, _, _, _, _, .string (sof [])]
    rw [e]
    exact Whole.at_ _ _ _ _ (by simp)
  have ht2 : TRow ((w.alloc (.cells (arow false z ln dd lo hi v nm) 25)).alloc (.cells #[.bool false, .int .u64 0, .int .u64 0, .int .u64 0, .int .i64 0, .int .i64 0, .slice none 0 0, .string { data := #[] }] 25)) g F L D M := (Whole.alloc ht _).alloc _
  have c0 := ht2.c0
  have c1 := ht2.c1
  obtain ⟨fd, hfd⟩ : ∃ n, n = F / 1440 := ⟨_, rfl⟩
  obtain ⟨ld, hld⟩ : ∃ n, n = L / 1440 := ⟨_, rfl⟩
  have e1 : (F : Int).tdiv 1440 = (fd : Int) := by rw [Int.tdiv_eq_ediv_of_nonneg (by omega), hfd]; omega
  have e2 : (L : Int).tdiv 1440 = (ld : Int) := by rw [Int.tdiv_eq_ediv_of_nonneg (by omega), hld]; omega
  have w1 : IntKind.i64.wrap (fd : Int) = (fd : Int) := by rw [IntKind.wrap_i64]; omega
  have w2 : IntKind.i64.wrap (ld : Int) = (ld : Int) := by rw [IntKind.wrap_i64]; omega
  have HS : Hid (Cl w false z ln nm (upto F L D (tm M) fd 0) ((((w.alloc (.cells (arow false z ln 0 (-1) (-1) (.slice none 0 0) nm) 25)).alloc (.cells #[.bool false, .int .u64 0, .int .u64 0, .int .u64 0, .int .i64 0, .int .i64 0, .slice none 0 0, .string { data := #[] }] 25)).alloc (.cells (flags fun _ => false) 67)).drew)) := Lib.hid ⟨fun _ => false, 0, -1, -1, ((Whole.here _ _ _).alloc _).alloc _, (hz _).alloc _, Whole.at_ _ _ _ _ (by simp), (((ab_below w _ _).alloc (by simp; omega) _).drew), Acc.empty (by rw [hfd]; exact upto_start)⟩
  have HT := Lib.hid ht
  have HFD := Lib.hid hfd
  have HLD := Lib.hid hld
  clear hz ht2 ht hfd hld
  go_enter Tryd.func35, Tryd.ntmps35
  go_wp2_with fail
  go_region
  go_wp2_with (with_reducible refine wpList_alloc_flags rfl rfl ?_)
  clear c0 c1 e1 e2 w1 w2
  have hfl : fd ≤ ld := by have := HFD.out; have := HLD.out; omega
  have hl7 : ld ≤ 46604 := by have := HLD.out; omega
  go_loopw [8] (fun dv wr => ∃ d : Nat, dv = .int .i64 d ∧ fd ≤ d ∧ d ≤ ld + 1 ∧ Cl w false z ln nm (upto F L D (tm M) d 0) wr) (fun dv _ => ld + 1 - (intOf dv).toNat)
  case atStart => exact ⟨fd, rfl, Nat.le_refl _, by omega, HS.out⟩
  case round =>
    obtain ⟨d, rfl, hd0, hd1, hcl⟩ := hrel
    have HC := Lib.hid hcl
    clear hcl HS
    by_cases hdl : d ≤ ld
    · have w1 : IntKind.i64.wrap ((fd : Int) + 9) = (fd : Int) + 9 := by rw [IntKind.wrap_i64]; omega
      obtain ⟨d', hdd, hdl', hseen, hcl, hway⟩ : ∃ d' : Nat, d ≤ d' ∧ d' ≤ ld ∧ (d' ≤ F / 1440 + 9 ∨ L / 1440 ≤ d' + 9) ∧ Cl w false z ln nm (upto F L D (tm M) d' 0) wr ∧ (((fd : Int) + 9 < (d : Int) ∧ (d : Int) < (d' : Int) ∧ IntKind.i64.wrap ((ld : Int) - 9) = (d' : Int)) ∨ ((d : Int) ≤ (fd : Int) + 9 ∧ d' = d) ∨ ((fd : Int) + 9 < (d : Int) ∧ (ld : Int) - 9 ≤ (d : Int) ∧ IntKind.i64.wrap ((ld : Int) - 9) = (ld : Int) - 9 ∧ d' = d)) := by
        have hf := HFD.out
        have hl := HLD.out
        by_cases h1 : (fd : Int) + 9 < (d : Int)
        · by_cases h2 : (d : Int) < (ld : Int) - 9
          · refine ⟨ld - 9, by omega, by omega, .inr (by omega), HC.out.congr fun y => ?_, .inl ⟨h1, by omega, by rw [IntKind.wrap_i64]; omega⟩⟩
            have := upto_jump (F := F) (L := L) (D := D) (M := M) (d := d) (by omega) (by omega) y
            rw [← hl] at this
            exact this
          · exact ⟨d, by omega, by omega, .inr (by omega), HC.out, .inr (.inr ⟨h1, by omega, by rw [IntKind.wrap_i64]; omega, rfl⟩)⟩
        · exact ⟨d, by omega, by omega, .inl (by omega), HC.out, .inr (.inl ⟨by omega, rfl⟩)⟩
      have HC' := Lib.hid hcl
      have HSN := Lib.hid hseen
      clear hcl hseen HC
      rcases hway with ⟨h1, h2, h3⟩ | ⟨h1, rfl⟩ | ⟨h1, h2, h3, rfl⟩
      case' inl =>
        go_upto_region 9 with fail
        clear h1 h2 h3
      case' inr.inl =>
        go_upto_region 9 with fail
        clear h1
      case' inr.inr =>
        go_upto_region 9 with fail
        clear h1 h2 h3
      all_goals
        obtain ⟨m, dy, lo', hi', hr, hz, hm, hb, hacc⟩ := HC'.out
        have ht' := Whole.below HT.out hb hg
        have c2 := TRow.c2 ht'
        obtain ⟨i, hi⟩ : ∃ i, i = d' % 7 := ⟨_, rfl⟩
        have hi7 : i < 7 := by omega
        have e3 : (d' : Int).tmod 7 = (i : Int) := by rw [Int.tmod_eq_emod_of_nonneg (by omega), hi]; omega
        have w3 : IntKind.u64.wrap (i : Int) = (i : Int) := by rw [IntKind.wrap_u64]; omega
        have hmi : min i 64 = i := by omega
        have HI := Lib.hid hi
        have hbit := bit_zero D i
        clear hr hz hm hb hacc ht' hi
        by_cases hbt : D / 2 ^ i % 2 = 1
        case neg =>
          rw [decide_eq_false hbt] at hbit
          have HC2 : Hid (Cl w false z ln nm (upto F L D (tm M) (d' + 1) 0) wr) := Lib.hid (HC'.out.congr fun y => upto_off (by rw [← HI.out]; exact hbt) y)
          clear hbt
          go_wp2_with fail
          go_roundw
          case rel => exact ⟨d' + 1, by go_num, by omega, by omega, HC2.out⟩
          case measure => simp [intOf]; omega
        rw [decide_eq_true hbt] at hbit
        clear hbt
        go_wp2_with fail
        go_loopw [9] (fun kv wx => ∃ k : Nat, kv = .int .i64 k ∧ k ≤ 1440 ∧ Cl w false z ln nm (upto F L D (tm M) d' k) wx) (fun kv _ => 1440 - (intOf kv).toNat)
        case atStart => exact ⟨0, rfl, by omega, HC'.out⟩
        case round =>
          obtain ⟨k, rfl, hk, hcl⟩ := hrel
          have HK := Lib.hid hcl
          obtain ⟨m, dy, lo1, hi1, hr, hz, hm, hb, hacc⟩ := hcl
          clear c2 HC' hbit
          by_cases hk4 : k < 1440
          case neg =>
            obtain rfl : k = 1440 := by omega
            have HD2 : Hid (Cl w false z ln nm (upto F L D (tm M) (d' + 1) 0) wr) := Lib.hid (HK.out.congr fun y => upto_day y)
            clear hr hz hm hb hacc
            go_wp2_with fail
            go_roundw
            case rel => exact ⟨d' + 1, by go_num, by omega, by omega, HD2.out⟩
            case measure => simp [intOf]; omega
          have ht' := Whole.below HT.out hb hg
          have cM := TRow.m ht' k hk4
          have k0 : (0 : Int) ≤ (k : Int) := by omega
          have k1 : (k : Int) < 1440 := by omega
          have w5 : IntKind.i64.wrap ((d' : Int) * 1440) = (d' : Int) * 1440 := by rw [IntKind.wrap_i64]; omega
          have w6 : IntKind.i64.wrap ((d' : Int) * 1440 + (k : Int)) = ((d' * 1440 + k : Nat) : Int) := by rw [IntKind.wrap_i64]; omega
          have hxm : (d' * 1440 + k) % 1440 = k := by omega
          have hxd : (d' * 1440 + k) / 1440 = d' := by omega
          have HXM := Lib.hid hxm
          have HXD := Lib.hid hxd
          have hth := fun W hW => thas g F L D M (d' * 1440 + k) (by omega) W hW
          have HB2 := Lib.hid hb
          have HR2 := Lib.hid hr
          have HZ2 := Lib.hid hz
          have HM2 := Lib.hid hm
          have HA2 := Lib.hid hacc
          clear hr hz hm hb hacc hxm hxd
          by_cases hMk : M k = true
          case neg =>
            rw [Bool.not_eq_true] at hMk
            rw [hMk] at cM
            have HS2 : Hid (Cl w false z ln nm (upto F L D (tm M) d' (k + 1)) wr) := Lib.hid (HK.out.congr fun y => upto_skip hk4 (fun h => by
              have := h.2.2.2
              rw [HXM.out] at this
              unfold tm at this
              rw [hMk] at this
              cases this) y)
            clear hMk hth
            go_wp2_with fail
            go_roundw
            case rel => exact ⟨k + 1, by go_num, by omega, HS2.out⟩
            case measure => simp [intOf]; omega
          rw [hMk] at cM
          obtain ⟨B, hB⟩ : ∃ B, B = hasB F L D M (d' * 1440 + k) := ⟨_, rfl⟩
          rw [← hB] at hth
          have HBB := Lib.hid hB
          clear hB hMk
          obtain ⟨x, hx⟩ : ∃ x, x = d' * 1440 + k := ⟨_, rfl⟩
          rw [← hx] at w6 hth HBB HXM HXD
          have HX := Lib.hid hx
          have hTr := Lib.hid ht'
          clear hx ht'
          cases B
          · have HS2 : Hid (Cl w false z ln nm (upto F L D (tm M) d' (k + 1)) wr) := Lib.hid (HK.out.congr fun y => upto_skip hk4 (fun h => by
              rw [← HX.out] at h
              have := (hasB_iff x).2 h
              rw [← HBB.out] at this
              cases this) y)
            go_wp2_with fail
            refine (hth _ hTr.out).mono ?_
            rintro e w5' ⟨rfl, rfl⟩
            go_wp2_with fail
            go_roundw
            case rel => exact ⟨k + 1, by go_num, by omega, HS2.out⟩
            case measure => simp [intOf]; omega
          · have hin : inT F L D (tm M) (d' * 1440 + k) := (by rw [← HX.out]; exact (hasB_iff x).1 HBB.out.symm)
            have hN := (HA2.out.add x (fun y hy => by have := upto_lt (Nat.le_of_lt hk4) hy; rw [← HX.out] at this; exact this)).congr (U := upto F L D (tm M) d' (k + 1)) (fun y => by rw [HX.out]; exact upto_step hk4 HSN.out hin y)
            rw [HXM.out, HXD.out, ← HI.out] at hN
            obtain ⟨x0, x1, x2, x3, x4, x5, x6, x7⟩ := HR2.out.cells
            have f3 := Whole.frozen HR2.out 3
            have f4 := Whole.frozen HR2.out 4
            have f5 := Whole.frozen HR2.out 5
            have cm := (Whole.cell HM2.out k).trans (flags_at m k hk4)
            have fm := Whole.frozen HM2.out k
            have hpw := pow_wrap i hi7
            have hor : bits .or .u64 (dy : Int) ((2 ^ i : Nat) : Int) = ((dy ||| 2 ^ i : Nat) : Int) := bits_or_u64_nat dy (2 ^ i) (by have := HA2.out.dlt; omega) (by have : (2 : Nat) ^ i < 2 ^ 7 := (Nat.pow_lt_pow_iff_right (by omega)).2 hi7; omega)
            obtain ⟨dn, hdn⟩ : ∃ n, n = dy ||| 2 ^ i := ⟨_, rfl⟩
            obtain ⟨pw, hpwn⟩ : ∃ n, n = 2 ^ i := ⟨_, rfl⟩
            rw [← hdn] at hN hor
            rw [← hpwn] at hpw hor
            have HN := Lib.hid hN
            have hm1 := Whole.set HM2.out k (.bool true)
            rw [flags_set m k hk4 true] at hm1
            have HM3 := Lib.hid hm1
            have HR3 := Lib.hid (Whole.far HR2.out (a := ⟨w.heap.size + 1 + 1, k, none⟩) (by show w.heap.size ≠ w.heap.size + 1 + 1; omega) (.bool true))
            have HZ3 := Lib.hid (Whole.far HZ2.out (a := ⟨w.heap.size + 1 + 1, k, none⟩) (by show w.heap.size + 1 ≠ w.heap.size + 1 + 1; omega) (.bool true))
            have HB3 := Lib.hid (HB2.out.setCell (p := ⟨w.heap.size + 1 + 1, k, none⟩) (by show w.heap.size ≤ w.heap.size + 1 + 1; omega) (.bool true))
            clear hN hin hm1 hdn hpwn
            have HW : Hid (∀ lo2, lo2 = (if lo1 < 0 then (x : Int) else lo1) → ∀ w7, w7 = (if lo1 < 0 then ((wr.setCell ⟨w.heap.size + 1 + 1, k, none⟩ (.bool true)).setCell ⟨w.heap.size, 3, none⟩ (.int .u64 (dn : Int))).setCell ⟨w.heap.size, 4, none⟩ (.int .i64 (x : Int)) else (wr.setCell ⟨w.heap.size + 1 + 1, k, none⟩ (.bool true)).setCell ⟨w.heap.size, 3, none⟩ (.int .u64 (dn : Int))) → Cl w false z ln nm (upto F L D (tm M) d' (k + 1)) (w7.setCell ⟨w.heap.size, 5, none⟩ (.int .i64 (x : Int)))) := Lib.hid fun lo2 hlo w7 hw7 => by
              have n1 : w.heap.size + 1 ≠ w.heap.size := by omega
              have n2 : w.heap.size + 1 + 1 ≠ w.heap.size := by omega
              by_cases hl : lo1 < 0
              · rw [if_pos hl] at hlo hw7
                subst hlo hw7
                refine ⟨fun j => if j = k then true else m j, dn, (x : Int), (x : Int), ((ARow.set3 HR3.out dn).set4 x).set5 x, ?_, ?_, ?_, ?_⟩
                · exact Whole.far (Whole.far (Whole.far HZ3.out (a := ⟨w.heap.size, 3, none⟩) n1 _) (a := ⟨w.heap.size, 4, none⟩) n1 _) (a := ⟨w.heap.size, 5, none⟩) n1 _
                · exact Whole.far (Whole.far (Whole.far HM3.out (a := ⟨w.heap.size, 3, none⟩) n2 _) (a := ⟨w.heap.size, 4, none⟩) n2 _) (a := ⟨w.heap.size, 5, none⟩) n2 _
                · exact ((HB3.out.setCell (p := ⟨w.heap.size, 3, none⟩) (Nat.le_refl _) _).setCell (p := ⟨w.heap.size, 4, none⟩) (Nat.le_refl _) _).setCell (p := ⟨w.heap.size, 5, none⟩) (Nat.le_refl _) _
                · have := HN.out
                  rw [if_pos hl] at this
                  exact this
              · rw [if_neg hl] at hlo hw7
                subst hlo hw7
                refine ⟨fun j => if j = k then true else m j, dn, lo2, (x : Int), (ARow.set3 HR3.out dn).set5 x, ?_, ?_, ?_, ?_⟩
                · exact Whole.far (Whole.far HZ3.out (a := ⟨w.heap.size, 3, none⟩) n1 _) (a := ⟨w.heap.size, 5, none⟩) n1 _
                · exact Whole.far (Whole.far HM3.out (a := ⟨w.heap.size, 3, none⟩) n2 _) (a := ⟨w.heap.size, 5, none⟩) n2 _
                · exact (HB3.out.setCell (p := ⟨w.heap.size, 3, none⟩) (Nat.le_refl _) _).setCell (p := ⟨w.heap.size, 5, none⟩) (Nat.le_refl _) _
                · have := HN.out
                  rw [if_neg hl] at this
                  exact this
            clear HN HM3 HR3 HZ3 HB3 HR2 HZ2 HM2 HB2 HA2 HK HI HX HBB
            by_cases hl : lo1 < 0
            · have HF := Lib.hid (HW.out _ rfl _ rfl)
              rw [if_pos hl] at HF
              clear HW
              go_wp2_with fail
              refine (hth _ hTr.out).mono ?_
              rintro e w5' ⟨rfl, rfl⟩
              go_wp2_with fail
              go_roundw
              case rel => exact ⟨k + 1, by go_num, by omega, HF.out⟩
              case measure => simp [intOf]; omega
            · have HF := Lib.hid (HW.out _ rfl _ rfl)
              rw [if_neg hl] at HF
              have hl' : 0 ≤ lo1 := by omega
              clear HW hl
              go_wp2_with fail
              refine (hth _ hTr.out).mono ?_
              rintro e w5' ⟨rfl, rfl⟩
              go_wp2_with fail
              go_roundw
              case rel => exact ⟨k + 1, by go_num, by omega, HF.out⟩
              case measure => simp [intOf]; omega
    · obtain rfl : d = ld + 1 := by omega
      have HE : Hid (Cl w false z ln nm (fun y => inT F L D (tm M) y ∧ Sh.seen F L y) wr) := Lib.hid (HC.out.congr fun y => upto_all (by have := HLD.out; omega) y)
      clear HC
      obtain ⟨m, dy, lo1, hi1, hr, hz, hm, hb, hacc⟩ := HE.out
      obtain ⟨x0, x1, x2, x3, x4, x5, x6, x7⟩ := hr.cells
      clear x0 x1 x2 x3 x5 x7
      have x4f := x4
      by_cases hneg : lo1 < 0
      · have hnone : ∀ y, ¬ inT F L D (tm M) y := none_seen fun y hy => by
          obtain ⟨q, _, e, _⟩ := hacc.least y hy
          omega
        have HN := Lib.hid hnone
        have HB := Lib.hid hb
        have HZ := Lib.hid hz
        have esn : sof [] = { data := #[] } := by unfold sof; rfl
        clear hr hz hm hb hacc hnone HE
        go_wp2_with (with_reducible refine wpList_store_aut rfl _ _ rfl (g := w.heap.size + 1) rfl rfl HZ.out (by with_unfolding_all rfl) (by with_unfolding_all rfl) (by with_unfolding_all rfl) ?_)
        refine bodyPost_ret (results_aut (g := w.heap.size + 1) Tryd.results35 _ rfl rfl (Whole.setRow HZ.out _)) rfl ?_
        exact ⟨⟨_, rfl, .inl ⟨HN.out, by rw [show arow true 0 0 0 0 0 (.slice none 0 0) [] = #[.bool true, .int .u64 0, .int .u64 0, .int .u64 0, .int .i64 0, .int .i64 0, .slice none 0 0, .string (sof [])] from rfl, esn]⟩⟩, below_setRow HB.out (by omega) _⟩
      have hex : ∃ y, inT F L D (tm M) y ∧ Sh.seen F L y := by
        apply Classical.byContradiction
        intro hno
        have := hacc.none fun y hy => hno ⟨y, hy⟩
        omega
      have HA := Lib.hid hacc
      have HX := Lib.hid hex
      have hml := hm.lt
      have HR0 := Lib.hid hr
      have HZ0 := Lib.hid hz
      have HM0 := Lib.hid hm
      have HB0 := Lib.hid hb
      clear hr hz hm hb hacc hex HE
      go_wp2_with fail
      go_loopw [10] (fun kv wx => ∃ (k : Nat) (sp : List (Int × Int)) (v : Value), kv = .int .i64 k ∧ k ≤ 1440 ∧ ARow wx w.heap.size false z ln dy lo1 hi1 v nm ∧ OwnSp wx (w.heap.size + 1 + 1 + 1) v sp ∧ Runs m k sp ∧ sp.length ≤ k ∧ ARow wx (w.heap.size + 1) false 0 0 0 0 0 (.slice none 0 0) [] ∧ Whole wx (w.heap.size + 1 + 1) 67 (flags m) ∧ Below w.heap.size w wx) (fun kv _ => 1440 - (intOf kv).toNat)
      case atStart => exact ⟨0, [], .slice none 0 0, rfl, by omega, HR0.out, owns_nil _ _, Runs.nil m, by simp, HZ0.out, HM0.out, HB0.out⟩
      case round =>
        obtain ⟨k, sp, v', rfl, hk, hr, hown, hrun, hlen, hz, hm, hb⟩ := hrel
        obtain ⟨x0, x1, x2, x3, x4', x5, x6', x7⟩ := hr.cells
        clear x0 x1 x2 x3 x4' x5 x7 x4 x6 x4f HR0 HZ0 HM0 HB0
        have HR := Lib.hid hr
        have HO := Lib.hid hown
        have HRU := Lib.hid hrun
        have HZ := Lib.hid hz
        have HM := Lib.hid hm
        have HB := Lib.hid hb
        have hsz := hm.lt
        clear hr hrun hz hm hb
        by_cases hk4 : k < 1440
        · have cm := (Whole.cell HM.out k).trans (flags_at m k hk4)
          have k0 : (0 : Int) ≤ (k : Int) := by omega
          have k1 : (k : Int) < 1440 := by omega
          by_cases hmk : m k = true
          case neg =>
            rw [Bool.not_eq_true] at hmk
            rw [hmk] at cm
            have HS := Lib.hid (HRU.out.skip hmk)
            clear hown hmk
            go_wp2_with fail
            go_roundw
            case rel => exact ⟨k + 1, sp, v', by go_num, by omega, HR.out, HO.out, HS.out, by omega, HZ.out, HM.out, HB.out⟩
            case measure => simp [intOf]; omega
          rw [hmk] at cm
          have hbd : ∀ s ∈ sp, sbd s := fun s hs => by have := HRU.out.bd s hs; unfold sbd i64ok; omega
          obtain ⟨Ad, cd, rfl, hsq⟩ := hown.seq hbd
          have hcd : cd ≤ 9223372036854775807 := by have := hsq.2.1; unfold maxLen at this; omega
          have hlc := hsq.1
          have HMK := Lib.hid hmk
          have HQ : Hid (Spn (wr.alloc (.cells #[.int .i64 (k : Int), .int .i64 (k : Int)] 50)) (fun b => b = wr.heap.size) (some ⟨wr.heap.size, 0, none⟩) 1 [((k : Int), (k : Int))]) := Lib.hid (seq_one (heap_alloc_new wr _) rfl (by unfold sbd i64ok; omega))
          have HNEW : Hid (∀ v2 w2, OwnSp w2 (w.heap.size + 1 + 1 + 1) v2 (sp ++ [((k : Int), (k : Int))]) → Below (w.heap.size + 1 + 1 + 1) (wr.alloc (.cells #[.int .i64 (k : Int), .int .i64 (k : Int)] 50)) w2 → (ARow (w2.setCell ⟨w.heap.size, 6, none⟩ v2) w.heap.size false z ln dy lo1 hi1 v2 nm ∧ OwnSp (w2.setCell ⟨w.heap.size, 6, none⟩ v2) (w.heap.size + 1 + 1 + 1) v2 (sp ++ [((k : Int), (k : Int))]) ∧ ARow (w2.setCell ⟨w.heap.size, 6, none⟩ v2) (w.heap.size + 1) false 0 0 0 0 0 (.slice none 0 0) [] ∧ Whole (w2.setCell ⟨w.heap.size, 6, none⟩ v2) (w.heap.size + 1 + 1) 67 (flags m) ∧ Below w.heap.size w (w2.setCell ⟨w.heap.size, 6, none⟩ v2)) ∧ w2.frozen? ⟨w.heap.size, 6, none⟩ = false ∧ w2.cell? ⟨w.heap.size, 6, none⟩ = some (.slice Ad sp.length cd)) := Lib.hid fun v2 w2 h1 h2 => by
            have hr2 := Whole.below (Whole.alloc HR.out (.cells #[.int .i64 (k : Int), .int .i64 (k : Int)] 50)) h2 (by omega)
            have hz2 := Whole.below (Whole.alloc HZ.out (.cells #[.int .i64 (k : Int), .int .i64 (k : Int)] 50)) h2 (by omega)
            have hm2 := Whole.below (Whole.alloc HM.out (.cells #[.int .i64 (k : Int), .int .i64 (k : Int)] 50)) h2 (by omega)
            refine ⟨⟨ARow.set6 hr2 v2, ?_, Whole.far hz2 (a := ⟨w.heap.size, 6, none⟩) (by show w.heap.size + 1 ≠ w.heap.size; omega) _, Whole.far hm2 (a := ⟨w.heap.size, 6, none⟩) (by show w.heap.size + 1 + 1 ≠ w.heap.size; omega) _, ?_⟩, Whole.frozen hr2 6, (ARow.cells hr2).2.2.2.2.2.2.1⟩
            · exact own_set h1 (by omega) _
            · exact ((HB.out.alloc HB.out.size _).trans (h2.mono (by omega))).setCell (p := ⟨w.heap.size, 6, none⟩) (Nat.le_refl _) _
          obtain ⟨km, hkm⟩ : ∃ km : Int, km = (k : Int) - 1 := ⟨_, rfl⟩
          have wk : IntKind.i64.wrap ((k : Int) - 1) = km := by rw [IntKind.wrap_i64]; omega
          have HKM := Lib.hid hkm
          clear hmk hbd
          have hsp : sp = [] ∨ ∃ (ini : List (Int × Int)) (p q : Int), sp = ini ++ [(p, q)] := by
            rcases List.eq_nil_or_concat sp with h | ⟨ini, ⟨p, q⟩, h⟩
            · exact .inl h
            · exact .inr ⟨ini, p, q, by rw [h, List.concat_eq_append]⟩
          rcases hsp with rfl | ⟨ini, p, q, rfl⟩
          · have HN2 := Lib.hid (HRU.out.new HMK.out (fun s hs => by simp at hs))
            clear hown hsq hkm
            simp only [List.length_nil] at x6' hlc
            go_wp2_with (at_builtin; go_must (refine wpList_append_seq rfl _ _ 23 50 _ 16 rfl Tryd.underlying23 spanInfo rfl (by decide) (by decide) scl_len scl_one (w.heap.size + 1 + 1 + 1) _ [] rfl (own_below HO.out ((Below.refl wr.heap.size wr).alloc (Nat.le_refl _) _) (Nat.le_refl _)) (fun b => b = wr.heap.size) _ 1 _ [((k : Int), (k : Int))] rfl rfl (HQ.out) (by simp <;> omega) (by simp <;> omega) ?_; intro v2 w2 h1 h2 h3; obtain ⟨hcl, hfz, hsm⟩ := HNEW.out v2 w2 h1 h2; have HCL := Lib.hid hcl; obtain ⟨A2, n2, c2, rfl⟩ := own_slice h1; clear h1 h2 h3 hcl))
            go_roundw
            case rel => exact ⟨k + 1, _, _, by go_num, by omega, HCL.out.1, HCL.out.2.1, HN2.out, by simp, HCL.out.2.2.1, HCL.out.2.2.2.1, HCL.out.2.2.2.2⟩
            case measure => simp [intOf]; omega
          · obtain ⟨j, hj⟩ : ∃ j, j = ini.length := ⟨_, rfl⟩
            have hle : (ini ++ [(p, q)]).length = j + 1 := by rw [hj]; simp
            have hat : (ini ++ [(p, q)])[j]? = some (p, q) := by rw [hj]; simp
            obtain ⟨gd, cap, hveq, hgd, hgw, _, _, hcell, hstore⟩ := OwnS.cell scl_len hown j (p, q) hat
            obtain ⟨hc1, hf1⟩ := hcell 1 _ rfl
            have wn : IntKind.i64.wrap (((j + 1 : Nat) : Int) - 1) = (j : Int) := by rw [IntKind.wrap_i64]; omega
            have j0 : (0 : Int) ≤ (j : Int) := by omega
            have hset := hstore 1 (.int .i64 (k : Int)) (p, (k : Int)) (by omega) rfl
            have hse : (ini ++ [(p, q)]).set j (p, (k : Int)) = ini ++ [(p, (k : Int))] := by rw [hj]; simp
            rw [hse, hle] at hset
            injection hveq with hv1 hv2 hv3
            subst hv1 hv3
            rw [hle] at x6' hlen hlc HR HNEW
            have hlen' : j + 1 ≤ k := hlen
            have HS := Lib.hid hset
            by_cases hqk : q = km
            · subst hqk
              have HG := Lib.hid (by
                have := HRU.out
                rw [HKM.out] at this
                exact Runs.grow this HMK.out)
              have hgd' : w.heap.size + 1 + 1 + 1 ≤ gd := hgd
              have HR2 := Lib.hid (Whole.far HR.out (a := ⟨gd, j * 2 + 1, none⟩) (by show w.heap.size ≠ gd; omega) (.int .i64 (k : Int)))
              have HZ2 := Lib.hid (Whole.far HZ.out (a := ⟨gd, j * 2 + 1, none⟩) (by show w.heap.size + 1 ≠ gd; omega) (.int .i64 (k : Int)))
              have HM2 := Lib.hid (Whole.far HM.out (a := ⟨gd, j * 2 + 1, none⟩) (by show w.heap.size + 1 + 1 ≠ gd; omega) (.int .i64 (k : Int)))
              have HB2 := Lib.hid (HB.out.setCell (p := ⟨gd, j * 2 + 1, none⟩) (by show w.heap.size ≤ gd; omega) (.int .i64 (k : Int)))
              have hll : (ini ++ [(p, (k : Int))]).length ≤ k + 1 := by rw [List.length_append, ← hj]; simp; omega
              have HLL := Lib.hid hll
              clear hll hj hle hown hsq hcell hstore hset hse hat hgd hkm
              go_wp2_with fail
              go_roundw
              case rel => exact ⟨k + 1, _, _, by go_num, by omega, HR2.out, HS.out, HG.out, HLL.out, HZ2.out, HM2.out, HB2.out⟩
              case measure => simp [intOf]; omega
            · have HN2 := Lib.hid (HRU.out.new HMK.out (fun s hs e => by
                have h1 := HKM.out
                rcases List.mem_append.1 hs with hs | hs
                · have h2 := sepA_before HRU.out.sep s hs
                  have h3 := HRU.out.bd (p, q) (by simp)
                  simp only at h3
                  omega
                · rw [List.mem_singleton.1 hs] at e
                  exact hqk (by rw [h1]; exact e)))
              have hil : ini.length + 1 ≤ k := by omega
              have HO2 := Lib.hid (own_len _ hle HO.out)
              clear hj hle HO hown hsq hcell hstore hset hse hat hgd hkm
              go_wp2_with (at_builtin; go_must (refine wpList_append_seq rfl _ _ 23 50 _ 16 rfl Tryd.underlying23 spanInfo rfl (by decide) (by decide) scl_len scl_one (w.heap.size + 1 + 1 + 1) _ (ini ++ [(p, q)]) rfl (own_below HO2.out ((Below.refl wr.heap.size wr).alloc (Nat.le_refl _) _) (Nat.le_refl _)) (fun b => b = wr.heap.size) _ 1 _ [((k : Int), (k : Int))] rfl rfl (HQ.out) (by simp <;> omega) (by simp <;> omega) ?_; intro v2 w2 h1 h2 h3; obtain ⟨hcl, hfz, hsm⟩ := HNEW.out v2 w2 h1 h2; have HCL := Lib.hid hcl; obtain ⟨A2, n2, c2, rfl⟩ := own_slice h1; clear h1 h2 h3 hcl))
              go_roundw
              case rel => exact ⟨k + 1, _, _, by go_num, by omega, HCL.out.1, HCL.out.2.1, HN2.out, by simp; omega, HCL.out.2.2.1, HCL.out.2.2.2.1, HCL.out.2.2.2.2⟩
              case measure => simp [intOf]; omega
        · obtain rfl : k = 1440 := by omega
          have hbd : ∀ s ∈ sp, sbd s := fun s hs => by have := HRU.out.bd s hs; unfold sbd i64ok; omega
          obtain ⟨Ad, cd, rfl, hsq⟩ := hown.seq hbd
          have HC := Lib.hid (canon_seen (canon_acc (Z := z) (Ln := ln) (nm := nm) HA.out HRU.out HX.out))
          have HQ : Hid (Spn (wr.setRow (w.heap.size + 1) (arow false z ln dy lo1 hi1 (.slice Ad sp.length cd) nm)) (fun b => w.heap.size ≤ b) Ad cd sp) := Lib.hid ((hsq.mono (Q' := fun b => w.heap.size + 1 + 1 + 1 ≤ b) (fun _ _ h => h)).keep (by simp) (fun b _ hb => setRow_other wr (w.heap.size + 1) b _ (by omega)) |>.mono (fun b _ hb => by omega))
          clear hown hsq hbd
          go_wp2_with (first
            | (with_reducible refine wpList_load_aut rfl _ rfl (g := w.heap.size) rfl HR.out ?_)
            | (with_reducible refine wpList_store_aut rfl _ _ rfl (g := w.heap.size + 1) rfl rfl HZ.out (by with_unfolding_all rfl) (by with_unfolding_all rfl) (by with_unfolding_all rfl) ?_))
          refine bodyPost_ret (results_aut (g := w.heap.size + 1) Tryd.results35 _ rfl rfl (Whole.setRow HZ.out _)) rfl ?_
          exact ⟨⟨_, rfl, .inr ⟨_, Ad, cd, HC.out, rfl, HQ.out⟩⟩, below_setRow HB.out (by omega) _⟩
end Go.Proofs.YtgbcncfhmnhljaaDoor
namespace Go.Proofs.YtgbcncfhmnhljaaDoor
open Go Go.RowKit Sh Leaf

/-- What is known ahead of the end of Valid: its flag, and the other predicate. -/
def RvR (p : Prd) (w : World) (v : Value) (wx : World) : Prop := ∃ (b : Bool) (q : Prd), v = .bool b ∧ PRow wx w.heap.size p.kind p.mask p.lo p.hi p.name p.num ∧ PRow wx (w.heap.size + 1) q.kind q.mask q.lo q.hi q.name q.num ∧ Below w.heap.size w wx ∧ (b && decide (p = q)) = decide (pok p)
theorem geq_z (a b : Int) (B : Bool) (h : B = decide (b ≤ a)) (W : World) : (binOp .geq 3 (.int .i64 a) (.int .i64 b)).run Tryd.prog W = .ok (.bool B) W := by subst h; simp [go_sem]
theorem leq_z (a b : Int) (B : Bool) (h : B = decide (a ≤ b)) (W : World) : (binOp .leq 3 (.int .i64 a) (.int .i64 b)).run Tryd.prog W = .ok (.bool B) W := by subst h; simp [go_sem]
theorem lss_z (a b : Int) (B : Bool) (h : B = decide (a < b)) (W : World) : (binOp .lss 3 (.int .i64 a) (.int .i64 b)).run Tryd.prog W = .ok (.bool B) W := by subst h; simp [go_sem]
theorem lss_u (a b : Int) (B : Bool) (h : B = decide (a < b)) (W : World) : (binOp .lss 22 (.int .u64 a) (.int .u64 b)).run Tryd.prog W = .ok (.bool B) W := by subst h; simp [go_sem]
theorem neq_u (a b : Int) (B : Bool) (h : B = decide (a ≠ b)) (W : World) : (binOp .neq 22 (.int .u64 a) (.int .u64 b)).run Tryd.prog W = .ok (.bool B) W := by subst h; by_cases h : a = b <;> simp [go_sem, h]
end Go.Proofs.YtgbcncfhmnhljaaDoor
namespace Go.Proofs.YtgbcncfhmnhljaaDoor
open Go Go.RowKit Sh Leaf

set_option linter.unusedVariables false in
set_option maxRecDepth 100000 in
set_option maxHeartbeats 4000000 in
theorem rvalid0 (k : Int) (hk : k < 1 ∨ 7 < k) (m : Nat) (lo hi : Int) (nm : List B8) (nu : Int) (hm : m < 18446744073709551616) (hn : nm.length ≤ 9223372036854775807) (w : World) :
    Calls Tryd.prog 34 #[pv ⟨k, m, lo, hi, nm, nu⟩] w fun e w' => e = .returned (.bool (decide (pok ⟨k, m, lo, hi, nm, nu⟩))) ∧ Below w.heap.size w w' := by
  unfold pv
  simp only
  have hb1 : ∀ o o1, Below w.heap.size w ((w.alloc o).alloc o1) := fun o o1 => ((Below.refl w.heap.size w).alloc (Nat.le_refl _) _).alloc (by simp) _
  have hp1 : ∀ o o1, o = .cells (prow k (m : Int) lo hi nm nu) 41 → PRow ((w.alloc o).alloc o1) w.heap.size k m lo hi nm nu := fun o o1 h => by subst h; exact (Whole.here w _ _).alloc _
  have hq1 : ∀ o o1, o1 = .cells #[.int .i64 k, .int .u64 0, .int .i64 0, .int .i64 0, .string { data := #[] }, .int .i64 0] 41 → PRow ((w.alloc o).alloc o1) (w.heap.size + 1) k 0 0 0 [] 0 := fun o o1 h => by subst h; exact PRow.of_zero (Whole.at_ _ _ _ _ (by simp))
  go_enter Tryd.func34, Tryd.ntmps34
  go_upto_block 0 with fail
  go_cut [4] (fun v wx => RvR ⟨k, m, lo, hi, nm, nu⟩ w v wx)
  case first =>
    have hP := hp1 _ (.cells #[.int .i64 k, .int .u64 0, .int .i64 0, .int .i64 0, .string { data := #[] }, .int .i64 0] 41) rfl
    have hQ := hq1 (.cells (prow k (m : Int) lo hi nm nu) 41) _ rfl
    have hB := hb1 (.cells (prow k (m : Int) lo hi nm nu) 41) (.cells #[.int .i64 k, .int .u64 0, .int .i64 0, .int .i64 0, .string { data := #[] }, .int .i64 0] 41)
    clear hb1 hp1 hq1
    generalize (w.alloc (.cells (prow k (m : Int) lo hi nm nu) 41)).alloc (.cells #[.int .i64 k, .int .u64 0, .int .i64 0, .int .i64 0, .string { data := #[] }, .int .i64 0] 41) = w1 at *
    have HP := Lib.hid hP
    have HQ := Lib.hid hQ
    have HB := Lib.hid hB
    obtain ⟨c0, c1, c2, c3, c4, c5⟩ := hP.cells
    obtain ⟨d0, d1, d2, d3, d4, d5⟩ := hQ.cells
    obtain ⟨y0, y1, y2, y3, y4, y5⟩ := hQ.frees
    clear hP hQ hB
    have g1 : ¬ k = 1 := by omega
    have g2 : ¬ k = 2 := by omega
    have g3 : ¬ k = 3 := by omega
    have g4 : ¬ k = 4 := by omega
    have g5 : ¬ k = 5 := by omega
    have g6 : ¬ k = 6 := by omega
    have g7 : ¬ k = 7 := by omega
    have HD : Hid ((false && decide ((⟨k, m, lo, hi, nm, nu⟩ : Prd) = ⟨k, 0, 0, 0, [], 0⟩)) = decide (pok ⟨k, m, lo, hi, nm, nu⟩)) := Lib.hid (by rw [Bool.false_and]; refine (decide_eq_false fun h => ?_).symm; have := pok_kind h; simp only at this; omega)
    go_wp2_with fail
    go_meet
    exact ⟨false, ⟨k, 0, 0, 0, [], 0⟩, rfl, HP.out, HQ.out, HB.out, HD.out⟩
  case rest =>
    obtain ⟨b, ⟨k', m', lo', hi', nm', nu'⟩, rfl, hP, hQ, hB, hD⟩ := hcut
    clear hb1 hp1 hq1
    have HD := Lib.hid hD
    clear hD
    simp only at hP hQ
    obtain ⟨c0, c1, c2, c3, c4, c5⟩ := hP.cells
    obtain ⟨d0, d1, d2, d3, d4, d5⟩ := hQ.cells
    have HB := Lib.hid hB
    clear hP hQ hB
    have hq := fun W => run_eql_prd k (m : Int) lo hi nu k' (m' : Int) lo' hi' nu' nm nm' W
    obtain ⟨E, hE⟩ : ∃ E, E = decide (k = k' ∧ (m : Int) = m' ∧ lo = lo' ∧ hi = hi' ∧ nm = nm' ∧ nu = nu') := ⟨_, rfl⟩
    rw [← hE] at hq
    have HE : Hid (decide ((⟨k, m, lo, hi, nm, nu⟩ : Prd) = ⟨k', m', lo', hi', nm', nu'⟩) = E) := Lib.hid (by rw [hE]; simp only [Prd.mk.injEq, Int.natCast_inj])
    clear hE
    cases b
    · go_wp2
      go_ret
      exact ⟨by rw [← HD.out]; rfl, HB.out⟩
    · go_wp2
      go_ret
      exact ⟨by rw [← HD.out, Bool.true_and, HE.out]; rfl, HB.out⟩
end Go.Proofs.YtgbcncfhmnhljaaDoor
namespace Go.Proofs.YtgbcncfhmnhljaaDoor
open Go Go.RowKit Sh Leaf

set_option linter.unusedVariables false in
set_option maxRecDepth 100000 in
set_option maxHeartbeats 4000000 in
theorem rvalid1 (m : Nat) (lo hi : Int) (nm : List B8) (nu : Int) (hm : m < 18446744073709551616) (hn : nm.length ≤ 9223372036854775807) (w : World) :
    Calls Tryd.prog 34 #[pv ⟨1, m, lo, hi, nm, nu⟩] w fun e w' => e = .returned (.bool (decide (pok ⟨1, m, lo, hi, nm, nu⟩))) ∧ Below w.heap.size w w' := by
  unfold pv
  simp only
  have hb1 : ∀ o o1, Below w.heap.size w ((w.alloc o).alloc o1) := fun o o1 => ((Below.refl w.heap.size w).alloc (Nat.le_refl _) _).alloc (by simp) _
  have hp1 : ∀ o o1, o = .cells (prow 1 (m : Int) lo hi nm nu) 41 → PRow ((w.alloc o).alloc o1) w.heap.size 1 m lo hi nm nu := fun o o1 h => by subst h; exact (Whole.here w _ _).alloc _
  have hq1 : ∀ o o1, o1 = .cells #[.int .i64 1, .int .u64 0, .int .i64 0, .int .i64 0, .string { data := #[] }, .int .i64 0] 41 → PRow ((w.alloc o).alloc o1) (w.heap.size + 1) 1 0 0 0 [] 0 := fun o o1 h => by subst h; exact PRow.of_zero (Whole.at_ _ _ _ _ (by simp))
  go_enter Tryd.func34, Tryd.ntmps34
  go_upto_block 0 with fail
  go_cut [4] (fun v wx => RvR ⟨1, m, lo, hi, nm, nu⟩ w v wx)
  case first =>
    have hP := hp1 _ (.cells #[.int .i64 1, .int .u64 0, .int .i64 0, .int .i64 0, .string { data := #[] }, .int .i64 0] 41) rfl
    have hQ := hq1 (.cells (prow 1 (m : Int) lo hi nm nu) 41) _ rfl
    have hB := hb1 (.cells (prow 1 (m : Int) lo hi nm nu) 41) (.cells #[.int .i64 1, .int .u64 0, .int .i64 0, .int .i64 0, .string { data := #[] }, .int .i64 0] 41)
    clear hb1 hp1 hq1
    generalize (w.alloc (.cells (prow 1 (m : Int) lo hi nm nu) 41)).alloc (.cells #[.int .i64 1, .int .u64 0, .int .i64 0, .int .i64 0, .string { data := #[] }, .int .i64 0] 41) = w1 at *
    have HP := Lib.hid hP
    have HQ := Lib.hid hQ
    have HB := Lib.hid hB
    obtain ⟨c0, c1, c2, c3, c4, c5⟩ := hP.cells
    obtain ⟨d0, d1, d2, d3, d4, d5⟩ := hQ.cells
    obtain ⟨y0, y1, y2, y3, y4, y5⟩ := hQ.frees
    clear hP hQ hB
    obtain ⟨F, hF⟩ : ∃ F, F = ((m : Int) != 0) := ⟨_, rfl⟩
    have qF := Lib.hid hF.symm
    have HD : Hid (((F) && decide ((⟨1, m, lo, hi, nm, nu⟩ : Prd) = ⟨1, m, 0, 0, [], 0⟩)) = decide (pok ⟨1, m, lo, hi, nm, nu⟩)) := Lib.hid (by rw [hF, Bool.eq_iff_iff]; unfold pok; simp only [Bool.and_eq_true, decide_eq_true_eq, Prd.mk.injEq, bne_iff_ne, ne_eq, Int.natCast_eq_zero]; constructor <;> intro h <;> first | (obtain ⟨h1, h2⟩ := h; simp at h1 h2; simp [h1, h2]; omega) | (simp at h; simp [h]; omega) | (simp at h; simp [h]) | simp_all | (simp_all; omega))
    clear hF
    go_wp2_with fail
    have rF := qF.out
    go_region
    all_goals
      go_wp2_with fail
      go_meet
      first | exact ⟨F, ⟨1, m, 0, 0, [], 0⟩, rfl, Whole.drew (Whole.far HP.out (a := ⟨w.heap.size + 1, 1, none⟩) (by show w.heap.size ≠ w.heap.size + 1; omega) _), Whole.drew (PRow.set1 HQ.out (m : Int)), Below.drew (Below.setCell HB.out (p := ⟨w.heap.size + 1, 1, none⟩) (by show w.heap.size ≤ w.heap.size + 1; omega) _), HD.out⟩
  case rest =>
    obtain ⟨b, ⟨k', m', lo', hi', nm', nu'⟩, rfl, hP, hQ, hB, hD⟩ := hcut
    clear hb1 hp1 hq1
    have HD := Lib.hid hD
    clear hD
    simp only at hP hQ
    obtain ⟨c0, c1, c2, c3, c4, c5⟩ := hP.cells
    obtain ⟨d0, d1, d2, d3, d4, d5⟩ := hQ.cells
    have HB := Lib.hid hB
    clear hP hQ hB
    have hq := fun W => run_eql_prd 1 (m : Int) lo hi nu k' (m' : Int) lo' hi' nu' nm nm' W
    obtain ⟨E, hE⟩ : ∃ E, E = decide (1 = k' ∧ (m : Int) = m' ∧ lo = lo' ∧ hi = hi' ∧ nm = nm' ∧ nu = nu') := ⟨_, rfl⟩
    rw [← hE] at hq
    have HE : Hid (decide ((⟨1, m, lo, hi, nm, nu⟩ : Prd) = ⟨k', m', lo', hi', nm', nu'⟩) = E) := Lib.hid (by rw [hE]; simp only [Prd.mk.injEq, Int.natCast_inj])
    clear hE
    cases b
    · go_wp2
      go_ret
      exact ⟨by rw [← HD.out]; rfl, HB.out⟩
    · go_wp2
      go_ret
      exact ⟨by rw [← HD.out, Bool.true_and, HE.out]; rfl, HB.out⟩
end Go.Proofs.YtgbcncfhmnhljaaDoor
namespace Go.Proofs.YtgbcncfhmnhljaaDoor
open Go Go.RowKit Sh Leaf

set_option linter.unusedVariables false in
set_option maxRecDepth 100000 in
set_option maxHeartbeats 4000000 in
theorem rvalid2 (m : Nat) (lo hi : Int) (nm : List B8) (nu : Int) (hm : m < 18446744073709551616) (hn : nm.length ≤ 9223372036854775807) (w : World) :
    Calls Tryd.prog 34 #[pv ⟨2, m, lo, hi, nm, nu⟩] w fun e w' => e = .returned (.bool (decide (pok ⟨2, m, lo, hi, nm, nu⟩))) ∧ Below w.heap.size w w' := by
  unfold pv
  simp only
  have hb1 : ∀ o o1, Below w.heap.size w ((w.alloc o).alloc o1) := fun o o1 => ((Below.refl w.heap.size w).alloc (Nat.le_refl _) _).alloc (by simp) _
  have hp1 : ∀ o o1, o = .cells (prow 2 (m : Int) lo hi nm nu) 41 → PRow ((w.alloc o).alloc o1) w.heap.size 2 m lo hi nm nu := fun o o1 h => by subst h; exact (Whole.here w _ _).alloc _
  have hq1 : ∀ o o1, o1 = .cells #[.int .i64 2, .int .u64 0, .int .i64 0, .int .i64 0, .string { data := #[] }, .int .i64 0] 41 → PRow ((w.alloc o).alloc o1) (w.heap.size + 1) 2 0 0 0 [] 0 := fun o o1 h => by subst h; exact PRow.of_zero (Whole.at_ _ _ _ _ (by simp))
  go_enter Tryd.func34, Tryd.ntmps34
  go_upto_block 0 with fail
  go_cut [4] (fun v wx => RvR ⟨2, m, lo, hi, nm, nu⟩ w v wx)
  case first =>
    have hP := hp1 _ (.cells #[.int .i64 2, .int .u64 0, .int .i64 0, .int .i64 0, .string { data := #[] }, .int .i64 0] 41) rfl
    have hQ := hq1 (.cells (prow 2 (m : Int) lo hi nm nu) 41) _ rfl
    have hB := hb1 (.cells (prow 2 (m : Int) lo hi nm nu) 41) (.cells #[.int .i64 2, .int .u64 0, .int .i64 0, .int .i64 0, .string { data := #[] }, .int .i64 0] 41)
    clear hb1 hp1 hq1
    generalize (w.alloc (.cells (prow 2 (m : Int) lo hi nm nu) 41)).alloc (.cells #[.int .i64 2, .int .u64 0, .int .i64 0, .int .i64 0, .string { data := #[] }, .int .i64 0] 41) = w1 at *
    have HP := Lib.hid hP
    have HQ := Lib.hid hQ
    have HB := Lib.hid hB
    obtain ⟨c0, c1, c2, c3, c4, c5⟩ := hP.cells
    obtain ⟨d0, d1, d2, d3, d4, d5⟩ := hQ.cells
    obtain ⟨y0, y1, y2, y3, y4, y5⟩ := hQ.frees
    clear hP hQ hB
    obtain ⟨G0, hG0⟩ : ∃ G0, G0 = ((m : Int) != 0) := ⟨_, rfl⟩
    have qG0 := Lib.hid hG0.symm
    obtain ⟨F, hF⟩ : ∃ F, F = decide ((m : Int) < 4294967296) := ⟨_, rfl⟩
    have qF := Lib.hid hF.symm
    have HD : Hid (((G0 && F) && decide ((⟨2, m, lo, hi, nm, nu⟩ : Prd) = ⟨2, m, 0, 0, [], 0⟩)) = decide (pok ⟨2, m, lo, hi, nm, nu⟩)) := Lib.hid (by rw [hG0, hF, Bool.eq_iff_iff]; unfold pok; simp only [Bool.and_eq_true, decide_eq_true_eq, Prd.mk.injEq, bne_iff_ne, ne_eq, Int.natCast_eq_zero]; constructor <;> intro h <;> first | (obtain ⟨h1, h2⟩ := h; simp at h1 h2; simp [h1, h2]; omega) | (simp at h; simp [h]; omega) | (simp at h; simp [h]) | simp_all | (simp_all; omega))
    clear hG0
    clear hF
    cases G0
    · skip
      go_wp2_with fail
      have rG0 := qG0.out
      have rF := qF.out
      go_region
      all_goals
        go_wp2_with fail
        go_meet
        first | exact ⟨false, ⟨2, m, 0, 0, [], 0⟩, rfl, Whole.drew (Whole.far HP.out (a := ⟨w.heap.size + 1, 1, none⟩) (by show w.heap.size ≠ w.heap.size + 1; omega) _), Whole.drew (PRow.set1 HQ.out (m : Int)), Below.drew (Below.setCell HB.out (p := ⟨w.heap.size + 1, 1, none⟩) (by show w.heap.size ≤ w.heap.size + 1; omega) _), HD.out⟩
    · skip
      go_wp2_with fail
      have rG0 := qG0.out
      have rF := qF.out
      go_region
      all_goals
        go_wp2_with fail
        go_meet
        first | exact ⟨F, ⟨2, m, 0, 0, [], 0⟩, rfl, Whole.drew (Whole.far HP.out (a := ⟨w.heap.size + 1, 1, none⟩) (by show w.heap.size ≠ w.heap.size + 1; omega) _), Whole.drew (PRow.set1 HQ.out (m : Int)), Below.drew (Below.setCell HB.out (p := ⟨w.heap.size + 1, 1, none⟩) (by show w.heap.size ≤ w.heap.size + 1; omega) _), HD.out⟩
  case rest =>
    obtain ⟨b, ⟨k', m', lo', hi', nm', nu'⟩, rfl, hP, hQ, hB, hD⟩ := hcut
    clear hb1 hp1 hq1
    have HD := Lib.hid hD
    clear hD
    simp only at hP hQ
    obtain ⟨c0, c1, c2, c3, c4, c5⟩ := hP.cells
    obtain ⟨d0, d1, d2, d3, d4, d5⟩ := hQ.cells
    have HB := Lib.hid hB
    clear hP hQ hB
    have hq := fun W => run_eql_prd 2 (m : Int) lo hi nu k' (m' : Int) lo' hi' nu' nm nm' W
    obtain ⟨E, hE⟩ : ∃ E, E = decide (2 = k' ∧ (m : Int) = m' ∧ lo = lo' ∧ hi = hi' ∧ nm = nm' ∧ nu = nu') := ⟨_, rfl⟩
    rw [← hE] at hq
    have HE : Hid (decide ((⟨2, m, lo, hi, nm, nu⟩ : Prd) = ⟨k', m', lo', hi', nm', nu'⟩) = E) := Lib.hid (by rw [hE]; simp only [Prd.mk.injEq, Int.natCast_inj])
    clear hE
    cases b
    · go_wp2
      go_ret
      exact ⟨by rw [← HD.out]; rfl, HB.out⟩
    · go_wp2
      go_ret
      exact ⟨by rw [← HD.out, Bool.true_and, HE.out]; rfl, HB.out⟩
end Go.Proofs.YtgbcncfhmnhljaaDoor
namespace Go.Proofs.YtgbcncfhmnhljaaDoor
open Go Go.RowKit Sh Leaf

set_option linter.unusedVariables false in
set_option maxRecDepth 100000 in
set_option maxHeartbeats 4000000 in
theorem rvalid3 (m : Nat) (lo hi : Int) (nm : List B8) (nu : Int) (hm : m < 18446744073709551616) (hn : nm.length ≤ 9223372036854775807) (w : World) :
    Calls Tryd.prog 34 #[pv ⟨3, m, lo, hi, nm, nu⟩] w fun e w' => e = .returned (.bool (decide (pok ⟨3, m, lo, hi, nm, nu⟩))) ∧ Below w.heap.size w w' := by
  unfold pv
  simp only
  have hb1 : ∀ o o1, Below w.heap.size w ((w.alloc o).alloc o1) := fun o o1 => ((Below.refl w.heap.size w).alloc (Nat.le_refl _) _).alloc (by simp) _
  have hp1 : ∀ o o1, o = .cells (prow 3 (m : Int) lo hi nm nu) 41 → PRow ((w.alloc o).alloc o1) w.heap.size 3 m lo hi nm nu := fun o o1 h => by subst h; exact (Whole.here w _ _).alloc _
  have hq1 : ∀ o o1, o1 = .cells #[.int .i64 3, .int .u64 0, .int .i64 0, .int .i64 0, .string { data := #[] }, .int .i64 0] 41 → PRow ((w.alloc o).alloc o1) (w.heap.size + 1) 3 0 0 0 [] 0 := fun o o1 h => by subst h; exact PRow.of_zero (Whole.at_ _ _ _ _ (by simp))
  go_enter Tryd.func34, Tryd.ntmps34
  go_upto_block 0 with fail
  go_cut [4] (fun v wx => RvR ⟨3, m, lo, hi, nm, nu⟩ w v wx)
  case first =>
    have hP := hp1 _ (.cells #[.int .i64 3, .int .u64 0, .int .i64 0, .int .i64 0, .string { data := #[] }, .int .i64 0] 41) rfl
    have hQ := hq1 (.cells (prow 3 (m : Int) lo hi nm nu) 41) _ rfl
    have hB := hb1 (.cells (prow 3 (m : Int) lo hi nm nu) 41) (.cells #[.int .i64 3, .int .u64 0, .int .i64 0, .int .i64 0, .string { data := #[] }, .int .i64 0] 41)
    clear hb1 hp1 hq1
    generalize (w.alloc (.cells (prow 3 (m : Int) lo hi nm nu) 41)).alloc (.cells #[.int .i64 3, .int .u64 0, .int .i64 0, .int .i64 0, .string { data := #[] }, .int .i64 0] 41) = w1 at *
    have HP := Lib.hid hP
    have HQ := Lib.hid hQ
    have HB := Lib.hid hB
    obtain ⟨c0, c1, c2, c3, c4, c5⟩ := hP.cells
    obtain ⟨d0, d1, d2, d3, d4, d5⟩ := hQ.cells
    obtain ⟨y0, y1, y2, y3, y4, y5⟩ := hQ.frees
    clear hP hQ hB
    obtain ⟨G0, hG0⟩ : ∃ G0, G0 = ((m : Int) != 0) := ⟨_, rfl⟩
    have qG0 := Lib.hid hG0.symm
    obtain ⟨F, hF⟩ : ∃ F, F = decide ((m : Int) < 128) := ⟨_, rfl⟩
    have qF := Lib.hid hF.symm
    have HD : Hid (((G0 && F) && decide ((⟨3, m, lo, hi, nm, nu⟩ : Prd) = ⟨3, m, 0, 0, [], 0⟩)) = decide (pok ⟨3, m, lo, hi, nm, nu⟩)) := Lib.hid (by rw [hG0, hF, Bool.eq_iff_iff]; unfold pok; simp only [Bool.and_eq_true, decide_eq_true_eq, Prd.mk.injEq, bne_iff_ne, ne_eq, Int.natCast_eq_zero]; constructor <;> intro h <;> first | (obtain ⟨h1, h2⟩ := h; simp at h1 h2; simp [h1, h2]; omega) | (simp at h; simp [h]; omega) | (simp at h; simp [h]) | simp_all | (simp_all; omega))
    clear hG0
    clear hF
    cases G0
    · skip
      go_wp2_with fail
      have rG0 := qG0.out
      have rF := qF.out
      go_region
      all_goals
        go_wp2_with fail
        go_meet
        first | exact ⟨false, ⟨3, m, 0, 0, [], 0⟩, rfl, Whole.drew (Whole.far HP.out (a := ⟨w.heap.size + 1, 1, none⟩) (by show w.heap.size ≠ w.heap.size + 1; omega) _), Whole.drew (PRow.set1 HQ.out (m : Int)), Below.drew (Below.setCell HB.out (p := ⟨w.heap.size + 1, 1, none⟩) (by show w.heap.size ≤ w.heap.size + 1; omega) _), HD.out⟩
    · skip
      go_wp2_with fail
      have rG0 := qG0.out
      have rF := qF.out
      go_region
      all_goals
        go_wp2_with fail
        go_meet
        first | exact ⟨F, ⟨3, m, 0, 0, [], 0⟩, rfl, Whole.drew (Whole.far HP.out (a := ⟨w.heap.size + 1, 1, none⟩) (by show w.heap.size ≠ w.heap.size + 1; omega) _), Whole.drew (PRow.set1 HQ.out (m : Int)), Below.drew (Below.setCell HB.out (p := ⟨w.heap.size + 1, 1, none⟩) (by show w.heap.size ≤ w.heap.size + 1; omega) _), HD.out⟩
  case rest =>
    obtain ⟨b, ⟨k', m', lo', hi', nm', nu'⟩, rfl, hP, hQ, hB, hD⟩ := hcut
    clear hb1 hp1 hq1
    have HD := Lib.hid hD
    clear hD
    simp only at hP hQ
    obtain ⟨c0, c1, c2, c3, c4, c5⟩ := hP.cells
    obtain ⟨d0, d1, d2, d3, d4, d5⟩ := hQ.cells
    have HB := Lib.hid hB
    clear hP hQ hB
    have hq := fun W => run_eql_prd 3 (m : Int) lo hi nu k' (m' : Int) lo' hi' nu' nm nm' W
    obtain ⟨E, hE⟩ : ∃ E, E = decide (3 = k' ∧ (m : Int) = m' ∧ lo = lo' ∧ hi = hi' ∧ nm = nm' ∧ nu = nu') := ⟨_, rfl⟩
    rw [← hE] at hq
    have HE : Hid (decide ((⟨3, m, lo, hi, nm, nu⟩ : Prd) = ⟨k', m', lo', hi', nm', nu'⟩) = E) := Lib.hid (by rw [hE]; simp only [Prd.mk.injEq, Int.natCast_inj])
    clear hE
    cases b
    · go_wp2
      go_ret
      exact ⟨by rw [← HD.out]; rfl, HB.out⟩
    · go_wp2
      go_ret
      exact ⟨by rw [← HD.out, Bool.true_and, HE.out]; rfl, HB.out⟩
end Go.Proofs.YtgbcncfhmnhljaaDoor
namespace Go.Proofs.YtgbcncfhmnhljaaDoor
open Go Go.RowKit Sh Leaf

set_option linter.unusedVariables false in
set_option maxRecDepth 100000 in
set_option maxHeartbeats 4000000 in
theorem rvalid4 (m : Nat) (lo hi : Int) (nm : List B8) (nu : Int) (hm : m < 18446744073709551616) (hn : nm.length ≤ 9223372036854775807) (w : World) :
    Calls Tryd.prog 34 #[pv ⟨4, m, lo, hi, nm, nu⟩] w fun e w' => e = .returned (.bool (decide (pok ⟨4, m, lo, hi, nm, nu⟩))) ∧ Below w.heap.size w w' := by
  unfold pv
  simp only
  have hb1 : ∀ o o1, Below w.heap.size w ((w.alloc o).alloc o1) := fun o o1 => ((Below.refl w.heap.size w).alloc (Nat.le_refl _) _).alloc (by simp) _
  have hp1 : ∀ o o1, o = .cells (prow 4 (m : Int) lo hi nm nu) 41 → PRow ((w.alloc o).alloc o1) w.heap.size 4 m lo hi nm nu := fun o o1 h => by subst h; exact (Whole.here w _ _).alloc _
  have hq1 : ∀ o o1, o1 = .cells #[.int .i64 4, .int .u64 0, .int .i64 0, .int .i64 0, .string { data := #[] }, .int .i64 0] 41 → PRow ((w.alloc o).alloc o1) (w.heap.size + 1) 4 0 0 0 [] 0 := fun o o1 h => by subst h; exact PRow.of_zero (Whole.at_ _ _ _ _ (by simp))
  go_enter Tryd.func34, Tryd.ntmps34
  go_upto_block 0 with fail
  go_cut [4] (fun v wx => RvR ⟨4, m, lo, hi, nm, nu⟩ w v wx)
  case first =>
    have hP := hp1 _ (.cells #[.int .i64 4, .int .u64 0, .int .i64 0, .int .i64 0, .string { data := #[] }, .int .i64 0] 41) rfl
    have hQ := hq1 (.cells (prow 4 (m : Int) lo hi nm nu) 41) _ rfl
    have hB := hb1 (.cells (prow 4 (m : Int) lo hi nm nu) 41) (.cells #[.int .i64 4, .int .u64 0, .int .i64 0, .int .i64 0, .string { data := #[] }, .int .i64 0] 41)
    clear hb1 hp1 hq1
    generalize (w.alloc (.cells (prow 4 (m : Int) lo hi nm nu) 41)).alloc (.cells #[.int .i64 4, .int .u64 0, .int .i64 0, .int .i64 0, .string { data := #[] }, .int .i64 0] 41) = w1 at *
    have HP := Lib.hid hP
    have HQ := Lib.hid hQ
    have HB := Lib.hid hB
    obtain ⟨c0, c1, c2, c3, c4, c5⟩ := hP.cells
    obtain ⟨d0, d1, d2, d3, d4, d5⟩ := hQ.cells
    obtain ⟨y0, y1, y2, y3, y4, y5⟩ := hQ.frees
    clear hP hQ hB
    obtain ⟨G0, hG0⟩ : ∃ G0, G0 = decide (0 ≤ lo) := ⟨_, rfl⟩
    have qG0 := Lib.hid hG0.symm
    obtain ⟨G1, hG1⟩ : ∃ G1, G1 = decide (lo ≤ hi) := ⟨_, rfl⟩
    have qG1 := Lib.hid hG1.symm
    obtain ⟨F, hF⟩ : ∃ F, F = decide (hi ≤ 67108864) := ⟨_, rfl⟩
    have qF := Lib.hid hF.symm
    have HD : Hid (((G0 && G1 && F) && decide ((⟨4, m, lo, hi, nm, nu⟩ : Prd) = ⟨4, 0, lo, hi, [], 0⟩)) = decide (pok ⟨4, m, lo, hi, nm, nu⟩)) := Lib.hid (by rw [hG0, hG1, hF, Bool.eq_iff_iff]; unfold pok; simp only [Bool.and_eq_true, decide_eq_true_eq, Prd.mk.injEq]; constructor <;> intro h <;> first | (obtain ⟨h1, h2⟩ := h; simp at h1 h2; simp [h1, h2]; omega) | (simp at h; simp [h]; omega) | (simp at h; simp [h]) | simp_all | (simp_all; omega))
    clear hG0
    clear hG1
    clear hF
    cases G0
    · skip
      go_wp2_with fail
      have rG0 := qG0.out
      have rG1 := qG1.out
      have rF := qF.out
      go_region
      all_goals
        go_wp2_with fail
        go_meet
        first | exact ⟨false, ⟨4, 0, lo, hi, [], 0⟩, rfl, Whole.drew (Whole.far (Whole.far HP.out (a := ⟨w.heap.size + 1, 2, none⟩) (by show w.heap.size ≠ w.heap.size + 1; omega) _) (a := ⟨w.heap.size + 1, 3, none⟩) (by show w.heap.size ≠ w.heap.size + 1; omega) _), Whole.drew (PRow.set3 (PRow.set2 HQ.out lo) hi), Below.drew (Below.setCell (Below.setCell HB.out (p := ⟨w.heap.size + 1, 2, none⟩) (by show w.heap.size ≤ w.heap.size + 1; omega) _) (p := ⟨w.heap.size + 1, 3, none⟩) (by show w.heap.size ≤ w.heap.size + 1; omega) _), HD.out⟩ | exact ⟨false, ⟨4, 0, lo, hi, [], 0⟩, rfl, Whole.drew (Whole.far (Whole.far HP.out (a := ⟨w.heap.size + 1, 3, none⟩) (by show w.heap.size ≠ w.heap.size + 1; omega) _) (a := ⟨w.heap.size + 1, 2, none⟩) (by show w.heap.size ≠ w.heap.size + 1; omega) _), Whole.drew (PRow.set2 (PRow.set3 HQ.out hi) lo), Below.drew (Below.setCell (Below.setCell HB.out (p := ⟨w.heap.size + 1, 3, none⟩) (by show w.heap.size ≤ w.heap.size + 1; omega) _) (p := ⟨w.heap.size + 1, 2, none⟩) (by show w.heap.size ≤ w.heap.size + 1; omega) _), HD.out⟩
    · skip
      cases G1
      · skip
        go_wp2_with fail
        have rG0 := qG0.out
        have rG1 := qG1.out
        have rF := qF.out
        go_region
        all_goals
          go_wp2_with fail
          go_meet
          first | exact ⟨false, ⟨4, 0, lo, hi, [], 0⟩, rfl, Whole.drew (Whole.far (Whole.far HP.out (a := ⟨w.heap.size + 1, 2, none⟩) (by show w.heap.size ≠ w.heap.size + 1; omega) _) (a := ⟨w.heap.size + 1, 3, none⟩) (by show w.heap.size ≠ w.heap.size + 1; omega) _), Whole.drew (PRow.set3 (PRow.set2 HQ.out lo) hi), Below.drew (Below.setCell (Below.setCell HB.out (p := ⟨w.heap.size + 1, 2, none⟩) (by show w.heap.size ≤ w.heap.size + 1; omega) _) (p := ⟨w.heap.size + 1, 3, none⟩) (by show w.heap.size ≤ w.heap.size + 1; omega) _), HD.out⟩ | exact ⟨false, ⟨4, 0, lo, hi, [], 0⟩, rfl, Whole.drew (Whole.far (Whole.far HP.out (a := ⟨w.heap.size + 1, 3, none⟩) (by show w.heap.size ≠ w.heap.size + 1; omega) _) (a := ⟨w.heap.size + 1, 2, none⟩) (by show w.heap.size ≠ w.heap.size + 1; omega) _), Whole.drew (PRow.set2 (PRow.set3 HQ.out hi) lo), Below.drew (Below.setCell (Below.setCell HB.out (p := ⟨w.heap.size + 1, 3, none⟩) (by show w.heap.size ≤ w.heap.size + 1; omega) _) (p := ⟨w.heap.size + 1, 2, none⟩) (by show w.heap.size ≤ w.heap.size + 1; omega) _), HD.out⟩
      · skip
        go_wp2_with fail
        have rG0 := qG0.out
        have rG1 := qG1.out
        have rF := qF.out
        go_region
        all_goals
          go_wp2_with fail
          go_meet
          first | exact ⟨F, ⟨4, 0, lo, hi, [], 0⟩, rfl, Whole.drew (Whole.far (Whole.far HP.out (a := ⟨w.heap.size + 1, 2, none⟩) (by show w.heap.size ≠ w.heap.size + 1; omega) _) (a := ⟨w.heap.size + 1, 3, none⟩) (by show w.heap.size ≠ w.heap.size + 1; omega) _), Whole.drew (PRow.set3 (PRow.set2 HQ.out lo) hi), Below.drew (Below.setCell (Below.setCell HB.out (p := ⟨w.heap.size + 1, 2, none⟩) (by show w.heap.size ≤ w.heap.size + 1; omega) _) (p := ⟨w.heap.size + 1, 3, none⟩) (by show w.heap.size ≤ w.heap.size + 1; omega) _), HD.out⟩ | exact ⟨F, ⟨4, 0, lo, hi, [], 0⟩, rfl, Whole.drew (Whole.far (Whole.far HP.out (a := ⟨w.heap.size + 1, 3, none⟩) (by show w.heap.size ≠ w.heap.size + 1; omega) _) (a := ⟨w.heap.size + 1, 2, none⟩) (by show w.heap.size ≠ w.heap.size + 1; omega) _), Whole.drew (PRow.set2 (PRow.set3 HQ.out hi) lo), Below.drew (Below.setCell (Below.setCell HB.out (p := ⟨w.heap.size + 1, 3, none⟩) (by show w.heap.size ≤ w.heap.size + 1; omega) _) (p := ⟨w.heap.size + 1, 2, none⟩) (by show w.heap.size ≤ w.heap.size + 1; omega) _), HD.out⟩
  case rest =>
    obtain ⟨b, ⟨k', m', lo', hi', nm', nu'⟩, rfl, hP, hQ, hB, hD⟩ := hcut
    clear hb1 hp1 hq1
    have HD := Lib.hid hD
    clear hD
    simp only at hP hQ
    obtain ⟨c0, c1, c2, c3, c4, c5⟩ := hP.cells
    obtain ⟨d0, d1, d2, d3, d4, d5⟩ := hQ.cells
    have HB := Lib.hid hB
    clear hP hQ hB
    have hq := fun W => run_eql_prd 4 (m : Int) lo hi nu k' (m' : Int) lo' hi' nu' nm nm' W
    obtain ⟨E, hE⟩ : ∃ E, E = decide (4 = k' ∧ (m : Int) = m' ∧ lo = lo' ∧ hi = hi' ∧ nm = nm' ∧ nu = nu') := ⟨_, rfl⟩
    rw [← hE] at hq
    have HE : Hid (decide ((⟨4, m, lo, hi, nm, nu⟩ : Prd) = ⟨k', m', lo', hi', nm', nu'⟩) = E) := Lib.hid (by rw [hE]; simp only [Prd.mk.injEq, Int.natCast_inj])
    clear hE
    cases b
    · go_wp2
      go_ret
      exact ⟨by rw [← HD.out]; rfl, HB.out⟩
    · go_wp2
      go_ret
      exact ⟨by rw [← HD.out, Bool.true_and, HE.out]; rfl, HB.out⟩
end Go.Proofs.YtgbcncfhmnhljaaDoor
namespace Go.Proofs.YtgbcncfhmnhljaaDoor
open Go Go.RowKit Sh Leaf

set_option linter.unusedVariables false in
set_option maxRecDepth 100000 in
set_option maxHeartbeats 4000000 in
theorem rvalid5 (m : Nat) (lo hi : Int) (nm : List B8) (nu : Int) (hm : m < 18446744073709551616) (hn : nm.length ≤ 9223372036854775807) (w : World) :
    Calls Tryd.prog 34 #[pv ⟨5, m, lo, hi, nm, nu⟩] w fun e w' => e = .returned (.bool (decide (pok ⟨5, m, lo, hi, nm, nu⟩))) ∧ Below w.heap.size w w' := by
  unfold pv
  simp only
  have hb1 : ∀ o o1, Below w.heap.size w ((w.alloc o).alloc o1) := fun o o1 => ((Below.refl w.heap.size w).alloc (Nat.le_refl _) _).alloc (by simp) _
  have hp1 : ∀ o o1, o = .cells (prow 5 (m : Int) lo hi nm nu) 41 → PRow ((w.alloc o).alloc o1) w.heap.size 5 m lo hi nm nu := fun o o1 h => by subst h; exact (Whole.here w _ _).alloc _
  have hq1 : ∀ o o1, o1 = .cells #[.int .i64 5, .int .u64 0, .int .i64 0, .int .i64 0, .string { data := #[] }, .int .i64 0] 41 → PRow ((w.alloc o).alloc o1) (w.heap.size + 1) 5 0 0 0 [] 0 := fun o o1 h => by subst h; exact PRow.of_zero (Whole.at_ _ _ _ _ (by simp))
  go_enter Tryd.func34, Tryd.ntmps34
  go_upto_block 0 with fail
  go_cut [4] (fun v wx => RvR ⟨5, m, lo, hi, nm, nu⟩ w v wx)
  case first =>
    have hP := hp1 _ (.cells #[.int .i64 5, .int .u64 0, .int .i64 0, .int .i64 0, .string { data := #[] }, .int .i64 0] 41) rfl
    have hQ := hq1 (.cells (prow 5 (m : Int) lo hi nm nu) 41) _ rfl
    have hB := hb1 (.cells (prow 5 (m : Int) lo hi nm nu) 41) (.cells #[.int .i64 5, .int .u64 0, .int .i64 0, .int .i64 0, .string { data := #[] }, .int .i64 0] 41)
    clear hb1 hp1 hq1
    generalize (w.alloc (.cells (prow 5 (m : Int) lo hi nm nu) 41)).alloc (.cells #[.int .i64 5, .int .u64 0, .int .i64 0, .int .i64 0, .string { data := #[] }, .int .i64 0] 41) = w1 at *
    have HP := Lib.hid hP
    have HQ := Lib.hid hQ
    have HB := Lib.hid hB
    obtain ⟨c0, c1, c2, c3, c4, c5⟩ := hP.cells
    obtain ⟨d0, d1, d2, d3, d4, d5⟩ := hQ.cells
    obtain ⟨y0, y1, y2, y3, y4, y5⟩ := hQ.frees
    clear hP hQ hB
    obtain ⟨G0, hG0⟩ : ∃ G0, G0 = decide (0 ≤ lo) := ⟨_, rfl⟩
    have qG0 := Lib.hid hG0.symm
    obtain ⟨G1, hG1⟩ : ∃ G1, G1 = decide (lo < 1440) := ⟨_, rfl⟩
    have qG1 := Lib.hid hG1.symm
    obtain ⟨G2, hG2⟩ : ∃ G2, G2 = decide (0 ≤ hi) := ⟨_, rfl⟩
    have qG2 := Lib.hid hG2.symm
    obtain ⟨F, hF⟩ : ∃ F, F = decide (hi < 1440) := ⟨_, rfl⟩
    have qF := Lib.hid hF.symm
    have HD : Hid (((G0 && G1 && G2 && F) && decide ((⟨5, m, lo, hi, nm, nu⟩ : Prd) = ⟨5, 0, lo, hi, [], 0⟩)) = decide (pok ⟨5, m, lo, hi, nm, nu⟩)) := Lib.hid (by rw [hG0, hG1, hG2, hF, Bool.eq_iff_iff]; unfold pok; simp only [Bool.and_eq_true, decide_eq_true_eq, Prd.mk.injEq]; constructor <;> intro h <;> first | (obtain ⟨h1, h2⟩ := h; simp at h1 h2; simp [h1, h2]; omega) | (simp at h; simp [h]; omega) | (simp at h; simp [h]) | simp_all | (simp_all; omega))
    clear hG0
    clear hG1
    clear hG2
    clear hF
    cases G0
    · skip
      go_wp2_with fail
      have rG0 := qG0.out
      have rG1 := qG1.out
      have rG2 := qG2.out
      have rF := qF.out
      go_region
      all_goals
        go_wp2_with fail
        go_meet
        first | exact ⟨false, ⟨5, 0, lo, hi, [], 0⟩, rfl, Whole.drew (Whole.far (Whole.far HP.out (a := ⟨w.heap.size + 1, 2, none⟩) (by show w.heap.size ≠ w.heap.size + 1; omega) _) (a := ⟨w.heap.size + 1, 3, none⟩) (by show w.heap.size ≠ w.heap.size + 1; omega) _), Whole.drew (PRow.set3 (PRow.set2 HQ.out lo) hi), Below.drew (Below.setCell (Below.setCell HB.out (p := ⟨w.heap.size + 1, 2, none⟩) (by show w.heap.size ≤ w.heap.size + 1; omega) _) (p := ⟨w.heap.size + 1, 3, none⟩) (by show w.heap.size ≤ w.heap.size + 1; omega) _), HD.out⟩ | exact ⟨false, ⟨5, 0, lo, hi, [], 0⟩, rfl, Whole.drew (Whole.far (Whole.far HP.out (a := ⟨w.heap.size + 1, 3, none⟩) (by show w.heap.size ≠ w.heap.size + 1; omega) _) (a := ⟨w.heap.size + 1, 2, none⟩) (by show w.heap.size ≠ w.heap.size + 1; omega) _), Whole.drew (PRow.set2 (PRow.set3 HQ.out hi) lo), Below.drew (Below.setCell (Below.setCell HB.out (p := ⟨w.heap.size + 1, 3, none⟩) (by show w.heap.size ≤ w.heap.size + 1; omega) _) (p := ⟨w.heap.size + 1, 2, none⟩) (by show w.heap.size ≤ w.heap.size + 1; omega) _), HD.out⟩
    · skip
      cases G1
      · skip
        go_wp2_with fail
        have rG0 := qG0.out
        have rG1 := qG1.out
        have rG2 := qG2.out
        have rF := qF.out
        go_region
        all_goals
          go_wp2_with fail
          go_meet
          first | exact ⟨false, ⟨5, 0, lo, hi, [], 0⟩, rfl, Whole.drew (Whole.far (Whole.far HP.out (a := ⟨w.heap.size + 1, 2, none⟩) (by show w.heap.size ≠ w.heap.size + 1; omega) _) (a := ⟨w.heap.size + 1, 3, none⟩) (by show w.heap.size ≠ w.heap.size + 1; omega) _), Whole.drew (PRow.set3 (PRow.set2 HQ.out lo) hi), Below.drew (Below.setCell (Below.setCell HB.out (p := ⟨w.heap.size + 1, 2, none⟩) (by show w.heap.size ≤ w.heap.size + 1; omega) _) (p := ⟨w.heap.size + 1, 3, none⟩) (by show w.heap.size ≤ w.heap.size + 1; omega) _), HD.out⟩ | exact ⟨false, ⟨5, 0, lo, hi, [], 0⟩, rfl, Whole.drew (Whole.far (Whole.far HP.out (a := ⟨w.heap.size + 1, 3, none⟩) (by show w.heap.size ≠ w.heap.size + 1; omega) _) (a := ⟨w.heap.size + 1, 2, none⟩) (by show w.heap.size ≠ w.heap.size + 1; omega) _), Whole.drew (PRow.set2 (PRow.set3 HQ.out hi) lo), Below.drew (Below.setCell (Below.setCell HB.out (p := ⟨w.heap.size + 1, 3, none⟩) (by show w.heap.size ≤ w.heap.size + 1; omega) _) (p := ⟨w.heap.size + 1, 2, none⟩) (by show w.heap.size ≤ w.heap.size + 1; omega) _), HD.out⟩
      · skip
        cases G2
        · skip
          go_wp2_with fail
          have rG0 := qG0.out
          have rG1 := qG1.out
          have rG2 := qG2.out
          have rF := qF.out
          go_region
          all_goals
            go_wp2_with fail
            go_meet
            first | exact ⟨false, ⟨5, 0, lo, hi, [], 0⟩, rfl, Whole.drew (Whole.far (Whole.far HP.out (a := ⟨w.heap.size + 1, 2, none⟩) (by show w.heap.size ≠ w.heap.size + 1; omega) _) (a := ⟨w.heap.size + 1, 3, none⟩) (by show w.heap.size ≠ w.heap.size + 1; omega) _), Whole.drew (PRow.set3 (PRow.set2 HQ.out lo) hi), Below.drew (Below.setCell (Below.setCell HB.out (p := ⟨w.heap.size + 1, 2, none⟩) (by show w.heap.size ≤ w.heap.size + 1; omega) _) (p := ⟨w.heap.size + 1, 3, none⟩) (by show w.heap.size ≤ w.heap.size + 1; omega) _), HD.out⟩ | exact ⟨false, ⟨5, 0, lo, hi, [], 0⟩, rfl, Whole.drew (Whole.far (Whole.far HP.out (a := ⟨w.heap.size + 1, 3, none⟩) (by show w.heap.size ≠ w.heap.size + 1; omega) _) (a := ⟨w.heap.size + 1, 2, none⟩) (by show w.heap.size ≠ w.heap.size + 1; omega) _), Whole.drew (PRow.set2 (PRow.set3 HQ.out hi) lo), Below.drew (Below.setCell (Below.setCell HB.out (p := ⟨w.heap.size + 1, 3, none⟩) (by show w.heap.size ≤ w.heap.size + 1; omega) _) (p := ⟨w.heap.size + 1, 2, none⟩) (by show w.heap.size ≤ w.heap.size + 1; omega) _), HD.out⟩
        · skip
          go_wp2_with fail
          have rG0 := qG0.out
          have rG1 := qG1.out
          have rG2 := qG2.out
          have rF := qF.out
          go_region
          all_goals
            go_wp2_with fail
            go_meet
            first | exact ⟨F, ⟨5, 0, lo, hi, [], 0⟩, rfl, Whole.drew (Whole.far (Whole.far HP.out (a := ⟨w.heap.size + 1, 2, none⟩) (by show w.heap.size ≠ w.heap.size + 1; omega) _) (a := ⟨w.heap.size + 1, 3, none⟩) (by show w.heap.size ≠ w.heap.size + 1; omega) _), Whole.drew (PRow.set3 (PRow.set2 HQ.out lo) hi), Below.drew (Below.setCell (Below.setCell HB.out (p := ⟨w.heap.size + 1, 2, none⟩) (by show w.heap.size ≤ w.heap.size + 1; omega) _) (p := ⟨w.heap.size + 1, 3, none⟩) (by show w.heap.size ≤ w.heap.size + 1; omega) _), HD.out⟩ | exact ⟨F, ⟨5, 0, lo, hi, [], 0⟩, rfl, Whole.drew (Whole.far (Whole.far HP.out (a := ⟨w.heap.size + 1, 3, none⟩) (by show w.heap.size ≠ w.heap.size + 1; omega) _) (a := ⟨w.heap.size + 1, 2, none⟩) (by show w.heap.size ≠ w.heap.size + 1; omega) _), Whole.drew (PRow.set2 (PRow.set3 HQ.out hi) lo), Below.drew (Below.setCell (Below.setCell HB.out (p := ⟨w.heap.size + 1, 3, none⟩) (by show w.heap.size ≤ w.heap.size + 1; omega) _) (p := ⟨w.heap.size + 1, 2, none⟩) (by show w.heap.size ≤ w.heap.size + 1; omega) _), HD.out⟩
  case rest =>
    obtain ⟨b, ⟨k', m', lo', hi', nm', nu'⟩, rfl, hP, hQ, hB, hD⟩ := hcut
    clear hb1 hp1 hq1
    have HD := Lib.hid hD
    clear hD
    simp only at hP hQ
    obtain ⟨c0, c1, c2, c3, c4, c5⟩ := hP.cells
    obtain ⟨d0, d1, d2, d3, d4, d5⟩ := hQ.cells
    have HB := Lib.hid hB
    clear hP hQ hB
    have hq := fun W => run_eql_prd 5 (m : Int) lo hi nu k' (m' : Int) lo' hi' nu' nm nm' W
    obtain ⟨E, hE⟩ : ∃ E, E = decide (5 = k' ∧ (m : Int) = m' ∧ lo = lo' ∧ hi = hi' ∧ nm = nm' ∧ nu = nu') := ⟨_, rfl⟩
    rw [← hE] at hq
    have HE : Hid (decide ((⟨5, m, lo, hi, nm, nu⟩ : Prd) = ⟨k', m', lo', hi', nm', nu'⟩) = E) := Lib.hid (by rw [hE]; simp only [Prd.mk.injEq, Int.natCast_inj])
    clear hE
    cases b
    · go_wp2
      go_ret
      exact ⟨by rw [← HD.out]; rfl, HB.out⟩
    · go_wp2
      go_ret
      exact ⟨by rw [← HD.out, Bool.true_and, HE.out]; rfl, HB.out⟩
end Go.Proofs.YtgbcncfhmnhljaaDoor
namespace Go.Proofs.YtgbcncfhmnhljaaDoor
open Go Go.RowKit Sh Leaf

set_option linter.unusedVariables false in
set_option maxRecDepth 100000 in
set_option maxHeartbeats 4000000 in
theorem rvalid6 (m : Nat) (lo hi : Int) (nm : List B8) (nu : Int) (hm : m < 18446744073709551616) (hn : nm.length ≤ 9223372036854775807) (w : World) :
    Calls Tryd.prog 34 #[pv ⟨6, m, lo, hi, nm, nu⟩] w fun e w' => e = .returned (.bool (decide (pok ⟨6, m, lo, hi, nm, nu⟩))) ∧ Below w.heap.size w w' := by
  unfold pv
  simp only
  have hb1 : ∀ o o1, Below w.heap.size w ((w.alloc o).alloc o1) := fun o o1 => ((Below.refl w.heap.size w).alloc (Nat.le_refl _) _).alloc (by simp) _
  have hp1 : ∀ o o1, o = .cells (prow 6 (m : Int) lo hi nm nu) 41 → PRow ((w.alloc o).alloc o1) w.heap.size 6 m lo hi nm nu := fun o o1 h => by subst h; exact (Whole.here w _ _).alloc _
  have hq1 : ∀ o o1, o1 = .cells #[.int .i64 6, .int .u64 0, .int .i64 0, .int .i64 0, .string { data := #[] }, .int .i64 0] 41 → PRow ((w.alloc o).alloc o1) (w.heap.size + 1) 6 0 0 0 [] 0 := fun o o1 h => by subst h; exact PRow.of_zero (Whole.at_ _ _ _ _ (by simp))
  go_enter Tryd.func34, Tryd.ntmps34
  go_upto_block 0 with fail
  go_cut [4] (fun v wx => RvR ⟨6, m, lo, hi, nm, nu⟩ w v wx)
  case first =>
    have hP := hp1 _ (.cells #[.int .i64 6, .int .u64 0, .int .i64 0, .int .i64 0, .string { data := #[] }, .int .i64 0] 41) rfl
    have hQ := hq1 (.cells (prow 6 (m : Int) lo hi nm nu) 41) _ rfl
    have hB := hb1 (.cells (prow 6 (m : Int) lo hi nm nu) 41) (.cells #[.int .i64 6, .int .u64 0, .int .i64 0, .int .i64 0, .string { data := #[] }, .int .i64 0] 41)
    clear hb1 hp1 hq1
    generalize (w.alloc (.cells (prow 6 (m : Int) lo hi nm nu) 41)).alloc (.cells #[.int .i64 6, .int .u64 0, .int .i64 0, .int .i64 0, .string { data := #[] }, .int .i64 0] 41) = w1 at *
    have HP := Lib.hid hP
    have HQ := Lib.hid hQ
    have HB := Lib.hid hB
    obtain ⟨c0, c1, c2, c3, c4, c5⟩ := hP.cells
    obtain ⟨d0, d1, d2, d3, d4, d5⟩ := hQ.cells
    obtain ⟨y0, y1, y2, y3, y4, y5⟩ := hQ.frees
    clear hP hQ hB
    have hnm := fun W => name_ok nm W hn
    have HD : Hid ((decide (nmok nm) && decide ((⟨6, m, lo, hi, nm, nu⟩ : Prd) = ⟨6, 0, 0, 0, nm, 0⟩)) = decide (pok ⟨6, m, lo, hi, nm, nu⟩)) := Lib.hid (by rw [Bool.eq_iff_iff]; unfold pok; simp [and_comm, and_assoc, and_left_comm])
    generalize decide (nmok nm) = N at *
    go_wp2_with fail
    go_region_with ((go_at_call 59; refine (hnm _).mono ?_; rintro e wz ⟨rfl, rfl⟩))
    all_goals
      go_wp2_with fail
      go_meet
      first | exact ⟨N, ⟨6, 0, 0, 0, nm, 0⟩, rfl, Whole.drew (Whole.far HP.out (a := ⟨w.heap.size + 1, 4, none⟩) (by show w.heap.size ≠ w.heap.size + 1; omega) _), Whole.drew (PRow.set4 HQ.out nm), Below.drew (Below.setCell HB.out (p := ⟨w.heap.size + 1, 4, none⟩) (by show w.heap.size ≤ w.heap.size + 1; omega) _), HD.out⟩
  case rest =>
    obtain ⟨b, ⟨k', m', lo', hi', nm', nu'⟩, rfl, hP, hQ, hB, hD⟩ := hcut
    clear hb1 hp1 hq1
    have HD := Lib.hid hD
    clear hD
    simp only at hP hQ
    obtain ⟨c0, c1, c2, c3, c4, c5⟩ := hP.cells
    obtain ⟨d0, d1, d2, d3, d4, d5⟩ := hQ.cells
    have HB := Lib.hid hB
    clear hP hQ hB
    have hq := fun W => run_eql_prd 6 (m : Int) lo hi nu k' (m' : Int) lo' hi' nu' nm nm' W
    obtain ⟨E, hE⟩ : ∃ E, E = decide (6 = k' ∧ (m : Int) = m' ∧ lo = lo' ∧ hi = hi' ∧ nm = nm' ∧ nu = nu') := ⟨_, rfl⟩
    rw [← hE] at hq
    have HE : Hid (decide ((⟨6, m, lo, hi, nm, nu⟩ : Prd) = ⟨k', m', lo', hi', nm', nu'⟩) = E) := Lib.hid (by rw [hE]; simp only [Prd.mk.injEq, Int.natCast_inj])
    clear hE
    cases b
    · go_wp2
      go_ret
      exact ⟨by rw [← HD.out]; rfl, HB.out⟩
    · go_wp2
      go_ret
      exact ⟨by rw [← HD.out, Bool.true_and, HE.out]; rfl, HB.out⟩
end Go.Proofs.YtgbcncfhmnhljaaDoor
namespace Go.Proofs.YtgbcncfhmnhljaaDoor
open Go Go.RowKit Sh Leaf

set_option linter.unusedVariables false in
set_option maxRecDepth 100000 in
set_option maxHeartbeats 4000000 in
theorem rvalid7 (m : Nat) (lo hi : Int) (nm : List B8) (nu : Int) (hm : m < 18446744073709551616) (hn : nm.length ≤ 9223372036854775807) (w : World) :
    Calls Tryd.prog 34 #[pv ⟨7, m, lo, hi, nm, nu⟩] w fun e w' => e = .returned (.bool (decide (pok ⟨7, m, lo, hi, nm, nu⟩))) ∧ Below w.heap.size w w' := by
  unfold pv
  simp only
  have hb1 : ∀ o o1, Below w.heap.size w ((w.alloc o).alloc o1) := fun o o1 => ((Below.refl w.heap.size w).alloc (Nat.le_refl _) _).alloc (by simp) _
  have hp1 : ∀ o o1, o = .cells (prow 7 (m : Int) lo hi nm nu) 41 → PRow ((w.alloc o).alloc o1) w.heap.size 7 m lo hi nm nu := fun o o1 h => by subst h; exact (Whole.here w _ _).alloc _
  have hq1 : ∀ o o1, o1 = .cells #[.int .i64 7, .int .u64 0, .int .i64 0, .int .i64 0, .string { data := #[] }, .int .i64 0] 41 → PRow ((w.alloc o).alloc o1) (w.heap.size + 1) 7 0 0 0 [] 0 := fun o o1 h => by subst h; exact PRow.of_zero (Whole.at_ _ _ _ _ (by simp))
  go_enter Tryd.func34, Tryd.ntmps34
  go_upto_block 0 with fail
  go_cut [4] (fun v wx => RvR ⟨7, m, lo, hi, nm, nu⟩ w v wx)
  case first =>
    have hP := hp1 _ (.cells #[.int .i64 7, .int .u64 0, .int .i64 0, .int .i64 0, .string { data := #[] }, .int .i64 0] 41) rfl
    have hQ := hq1 (.cells (prow 7 (m : Int) lo hi nm nu) 41) _ rfl
    have hB := hb1 (.cells (prow 7 (m : Int) lo hi nm nu) 41) (.cells #[.int .i64 7, .int .u64 0, .int .i64 0, .int .i64 0, .string { data := #[] }, .int .i64 0] 41)
    clear hb1 hp1 hq1
    generalize (w.alloc (.cells (prow 7 (m : Int) lo hi nm nu) 41)).alloc (.cells #[.int .i64 7, .int .u64 0, .int .i64 0, .int .i64 0, .string { data := #[] }, .int .i64 0] 41) = w1 at *
    have HP := Lib.hid hP
    have HQ := Lib.hid hQ
    have HB := Lib.hid hB
    obtain ⟨c0, c1, c2, c3, c4, c5⟩ := hP.cells
    obtain ⟨d0, d1, d2, d3, d4, d5⟩ := hQ.cells
    obtain ⟨y0, y1, y2, y3, y4, y5⟩ := hQ.frees
    clear hP hQ hB
    obtain ⟨G0, hG0⟩ : ∃ G0, G0 = decide (0 ≤ nu) := ⟨_, rfl⟩
    have qG0 := Lib.hid hG0.symm
    obtain ⟨F, hF⟩ : ∃ F, F = decide (nu ≤ 1000000) := ⟨_, rfl⟩
    have qF := Lib.hid hF.symm
    have HD : Hid (((G0 && F) && decide ((⟨7, m, lo, hi, nm, nu⟩ : Prd) = ⟨7, 0, 0, 0, [], nu⟩)) = decide (pok ⟨7, m, lo, hi, nm, nu⟩)) := Lib.hid (by rw [hG0, hF, Bool.eq_iff_iff]; unfold pok; simp only [Bool.and_eq_true, decide_eq_true_eq, Prd.mk.injEq]; constructor <;> intro h <;> first | (obtain ⟨h1, h2⟩ := h; simp at h1 h2; simp [h1, h2]; omega) | (simp at h; simp [h]; omega) | (simp at h; simp [h]) | simp_all | (simp_all; omega))
    clear hG0
    clear hF
    cases G0
    · skip
      go_wp2_with fail
      have rG0 := qG0.out
      have rF := qF.out
      go_region
      all_goals
        go_wp2_with fail
        go_meet
        first | exact ⟨false, ⟨7, 0, 0, 0, [], nu⟩, rfl, Whole.drew (Whole.far HP.out (a := ⟨w.heap.size + 1, 5, none⟩) (by show w.heap.size ≠ w.heap.size + 1; omega) _), Whole.drew (PRow.set5 HQ.out nu), Below.drew (Below.setCell HB.out (p := ⟨w.heap.size + 1, 5, none⟩) (by show w.heap.size ≤ w.heap.size + 1; omega) _), HD.out⟩
    · skip
      go_wp2_with fail
      have rG0 := qG0.out
      have rF := qF.out
      go_region
      all_goals
        go_wp2_with fail
        go_meet
        first | exact ⟨F, ⟨7, 0, 0, 0, [], nu⟩, rfl, Whole.drew (Whole.far HP.out (a := ⟨w.heap.size + 1, 5, none⟩) (by show w.heap.size ≠ w.heap.size + 1; omega) _), Whole.drew (PRow.set5 HQ.out nu), Below.drew (Below.setCell HB.out (p := ⟨w.heap.size + 1, 5, none⟩) (by show w.heap.size ≤ w.heap.size + 1; omega) _), HD.out⟩
  case rest =>
    obtain ⟨b, ⟨k', m', lo', hi', nm', nu'⟩, rfl, hP, hQ, hB, hD⟩ := hcut
    clear hb1 hp1 hq1
    have HD := Lib.hid hD
    clear hD
    simp only at hP hQ
    obtain ⟨c0, c1, c2, c3, c4, c5⟩ := hP.cells
    obtain ⟨d0, d1, d2, d3, d4, d5⟩ := hQ.cells
    have HB := Lib.hid hB
    clear hP hQ hB
    have hq := fun W => run_eql_prd 7 (m : Int) lo hi nu k' (m' : Int) lo' hi' nu' nm nm' W
    obtain ⟨E, hE⟩ : ∃ E, E = decide (7 = k' ∧ (m : Int) = m' ∧ lo = lo' ∧ hi = hi' ∧ nm = nm' ∧ nu = nu') := ⟨_, rfl⟩
    rw [← hE] at hq
    have HE : Hid (decide ((⟨7, m, lo, hi, nm, nu⟩ : Prd) = ⟨k', m', lo', hi', nm', nu'⟩) = E) := Lib.hid (by rw [hE]; simp only [Prd.mk.injEq, Int.natCast_inj])
    clear hE
    cases b
    · go_wp2
      go_ret
      exact ⟨by rw [← HD.out]; rfl, HB.out⟩
    · go_wp2
      go_ret
      exact ⟨by rw [← HD.out, Bool.true_and, HE.out]; rfl, HB.out⟩
end Go.Proofs.YtgbcncfhmnhljaaDoor
namespace Go.Proofs.YtgbcncfhmnhljaaDoor
open Go Go.RowKit Sh Leaf

theorem rvalid (p : Prd) (hm : p.mask < 18446744073709551616) (hn : p.name.length ≤ 9223372036854775807) (w : World) :
    Calls Tryd.prog 34 #[pv p] w fun e w' => e = .returned (.bool (decide (pok p))) ∧ Below w.heap.size w w' := by
  obtain ⟨k, m, lo, hi, nm, nu⟩ := p
  simp only at hm hn
  rcases (by omega : k = 1 ∨ k = 2 ∨ k = 3 ∨ k = 4 ∨ k = 5 ∨ k = 6 ∨ k = 7 ∨ (k < 1 ∨ 7 < k)) with rfl | rfl | rfl | rfl | rfl | rfl | rfl | hk
  · exact rvalid1 m lo hi nm nu hm hn w
  · exact rvalid2 m lo hi nm nu hm hn w
  · exact rvalid3 m lo hi nm nu hm hn w
  · exact rvalid4 m lo hi nm nu hm hn w
  · exact rvalid5 m lo hi nm nu hm hn w
  · exact rvalid6 m lo hi nm nu hm hn w
  · exact rvalid7 m lo hi nm nu hm hn w
  · exact rvalid0 k hk m lo hi nm nu hm hn w
end Go.Proofs.YtgbcncfhmnhljaaDoor
