/-
  The reference's Parse.
-/
import Derived.Test.YtpodgmmgphibfaaDoorPk43
import Derived.Test.YtpodgmmgphibfaaDoorPk45
import Derived.Test.YtpodgmmgphibfaaDoorPk46
import Derived.Test.YtpodgmmgphibfaaDoorPk16
import Derived.Test.YtpodgmmgphibfaaDoorPk3
import Derived.Test.YtpodgmmgphibfaaDoorPk24
import Derived.Test.YtpodgmmgphibfaaDoorPk21
namespace Go.Proofs.YtpodgmmgphibfaaDoor
open Go Go.RowKit Sh Leaf

theorem kindOf_rng (s : List B8) : 0 ≤ kindOf s ∧ kindOf s ≤ 7 := by
  unfold kindOf
  repeat (first | (split; · omega) | omega)
theorem kindOf_eq (s : List B8) (k : Nat) (h1 : 1 ≤ k) (h7 : k ≤ 7) : wd (k : Int) = s ↔ kindOf s = (k : Int) := by
  constructor
  · rintro rfl; exact kindOf_wd ⟨by omega, by omega⟩
  · intro h
    by_cases hx : ∃ j : Int, 1 ≤ j ∧ j < 8 ∧ s = wd j
    · obtain ⟨j, hj1, hj2, rfl⟩ := hx
      rw [kindOf_wd ⟨hj1, by omega⟩] at h
      rw [h]
    · have := kindOf_no (s := s) (fun j h1 h2 e => hx ⟨j, h1, h2, e⟩)
      omega
/-- The kind that the loop has found below k. -/
def kBel (s : List B8) (k : Nat) : Int := if kindOf s < (k : Int) then kindOf s else 0
theorem kBel_one (s : List B8) : kBel s 1 = 0 := by
  unfold kBel
  have := kindOf_rng s
  split <;> omega
theorem kBel_end (s : List B8) : kBel s 8 = kindOf s := by
  unfold kBel
  have := kindOf_rng s
  rw [if_pos (by omega)]
theorem kBel_hit (s : List B8) (k : Nat) (h : kindOf s = (k : Int)) : kBel s (k + 1) = (k : Int) := by
  unfold kBel
  rw [if_pos (by omega), h]
theorem kBel_miss (s : List B8) (k : Nat) (h : ¬ kindOf s = (k : Int)) : kBel s (k + 1) = kBel s k := by
  unfold kBel
  by_cases h2 : kindOf s < (k : Int)
  · rw [if_pos h2, if_pos (by omega)]
  · rw [if_neg h2, if_neg (by omega)]
theorem lp_mask {s f r : List B8} {b : Bool} (h : cut1 32 s = (f, r, b)) (hk : kindOf f = 1 ∨ kindOf f = 2 ∨ kindOf f = 3) : lp s = ⟨kindOf f, por 0 (spl 44 r), 0, 0, [], 0⟩ := by
  unfold lp
  rw [h]
  exact if_pos hk
theorem lp_span {s f r : List B8} {b : Bool} (h : cut1 32 s = (f, r, b)) (hk : kindOf f = 4 ∨ kindOf f = 5) : lp s = ⟨kindOf f, 0, dg (cut1 45 r).1, dg (cut1 45 r).2.1, [], 0⟩ := by
  unfold lp
  rw [h]
  exact (if_neg (show ¬ (kindOf f = 1 ∨ kindOf f = 2 ∨ kindOf f = 3) by omega)).trans (if_pos hk)
theorem lp_name {s f r : List B8} {b : Bool} (h : cut1 32 s = (f, r, b)) (hk : kindOf f = 6) : lp s = ⟨kindOf f, 0, 0, 0, r, 0⟩ := by
  unfold lp
  rw [h]
  exact (if_neg (show ¬ (kindOf f = 1 ∨ kindOf f = 2 ∨ kindOf f = 3) by omega)).trans ((if_neg (show ¬ (kindOf f = 4 ∨ kindOf f = 5) by omega)).trans (if_pos hk))
theorem lp_num {s f r : List B8} {b : Bool} (h : cut1 32 s = (f, r, b)) (hk : kindOf f = 7) : lp s = ⟨kindOf f, 0, 0, 0, [], dg r⟩ := by
  unfold lp
  rw [h]
  exact (if_neg (show ¬ (kindOf f = 1 ∨ kindOf f = 2 ∨ kindOf f = 3) by omega)).trans ((if_neg (show ¬ (kindOf f = 4 ∨ kindOf f = 5) by omega)).trans ((if_neg (show ¬ kindOf f = 6 by omega)).trans (if_pos hk)))
theorem lp_none {s f r : List B8} {b : Bool} (h : cut1 32 s = (f, r, b)) (hk : kindOf f = 0) : lp s = .zero := by
  unfold lp
  rw [h]
  exact (if_neg (show ¬ (kindOf f = 1 ∨ kindOf f = 2 ∨ kindOf f = 3) by omega)).trans ((if_neg (show ¬ (kindOf f = 4 ∨ kindOf f = 5) by omega)).trans ((if_neg (show ¬ kindOf f = 6 by omega)).trans (if_neg (show ¬ kindOf f = 7 by omega))))
def strN : Value → Nat
  | .string s => s.size
  | _ => 0
def booN : Value → Nat
  | .bool true => 1
  | _ => 0
/-- A number's bit into a mask, if it is one. -/
def pin (m : Nat) (x : List B8) : Nat := if 0 ≤ dg x ∧ dg x < 64 then m ||| 2 ^ (dg x).toNat else m
theorem por_cons (m : Nat) (x : List B8) (t : List (List B8)) : por m (x :: t) = por (pin m x) t := rfl
theorem pin_lt {m : Nat} (x : List B8) (h : m < 18446744073709551616) : pin m x < 18446744073709551616 := by
  unfold pin
  split
  · rename_i hx
    exact Nat.or_lt_two_pow (n := 64) h (Nat.pow_lt_pow_right (by omega) (by omega))
  · exact h
/-- One step of the mask's loop. -/
theorem cut_step (m : Nat) (q : List B8) (M : Nat) (h : por m (spl 44 q) = M) : ∃ x q' b, cut1 44 q = (x, q', b) ∧ (if b = true then por (pin m x) (spl 44 q') else pin m x) = M ∧ x.length ≤ q.length ∧ q'.length ≤ q.length ∧ q'.length + booN (.bool b) < q.length + 1 := by
  rcases cut1_cases 44 q with ⟨x, q', rfl, hx, hc⟩ | ⟨hx, hc⟩
  · refine ⟨x, q', true, hc, ?_, by simp, by simp; omega, by simp [booN]; omega⟩
    rw [if_pos rfl, ← por_cons, ← spl_at x q' hx]; exact h
  · refine ⟨q, [], false, hc, ?_, by simp, by simp, by simp [booN]⟩
    rw [if_neg (by simp)]
    rw [spl_none q hx] at h
    exact h
/-- What is known ahead of Parse's end. -/
def ParR (R0 P : Nat) (s : List B8) (w : World) (wx : World) : Prop := PRow wx P (lp s).kind (lp s).mask (lp s).lo (lp s).hi (lp s).name (lp s).num ∧ PRow wx R0 0 0 0 0 [] 0 ∧ Below R0 w wx ∧ (lp s).mask < 18446744073709551616 ∧ (lp s).name.length ≤ 1000000
set_option linter.unusedVariables false in
set_option maxRecDepth 100000 in
set_option maxHeartbeats 4000000 in
theorem rparse (s : List B8) (hs : s.length ≤ 900) (w : World) :
    Calls Tryd.prog 19 #[.string (sof s)] w fun e w' => e = .returned (.tuple #[pv (ps s).1, .int .i64 ((ps s).2 : Int)]) ∧ Below w.heap.size w w' := by
  have hcl := cut1_len 32 s
  have hc := fun W => rcut s 32 32 (by have := bv_lit 32 (by omega); exact this.symm) (by omega) W
  obtain ⟨⟨f, r, b0⟩, hfr⟩ : ∃ x, x = cut1 32 s := ⟨_, rfl⟩
  rw [← hfr] at hcl hc
  simp only at hcl hc
  have HC := Lib.hid hfr.symm
  clear hfr
  go_enter Tryd.func19, Tryd.ntmps19
  go_wp2_with fail
  refine (hc _).mono ?_
  rintro e w2 ⟨rfl, hb2⟩
  have hZ2 : PRow w2 w.heap.size 0 0 0 0 [] 0 := PRow.of_zero (Whole.below (Whole.here w _ _) hb2 (by simp))
  have hB2 : Below w.heap.size w w2 := ((Below.refl w.heap.size w).alloc (Nat.le_refl _) _).trans (hb2.mono (by simp))
  have hb4 : ∀ o, Below w2.heap.size w2 (w2.alloc o) := fun o => (Below.refl w2.heap.size w2).alloc (Nat.le_refl _) o
  have hlt2 : w.heap.size < w2.heap.size := hZ2.lt
  clear hb2 hc
  have HP4 : Hid (PRow (w2.alloc (.cells #[.int .i64 0, .int .u64 0, .int .i64 0, .int .i64 0, .string { data := #[] }, .int .i64 0] 24)) w2.heap.size 0 0 0 0 [] 0) := Lib.hid (PRow.of_zero (Whole.here w2 _ _))
  have HZ4 : Hid (PRow (w2.alloc (.cells #[.int .i64 0, .int .u64 0, .int .i64 0, .int .i64 0, .string { data := #[] }, .int .i64 0] 24)) w.heap.size 0 0 0 0 [] 0) := Lib.hid (hZ2.below (hb4 _) hlt2)
  have HB4 : Hid (Below w.heap.size w (w2.alloc (.cells #[.int .i64 0, .int .u64 0, .int .i64 0, .int .i64 0, .string { data := #[] }, .int .i64 0] 24))) := Lib.hid (hB2.trans ((hb4 _).mono (by omega)))
  clear hZ2 hB2 hb4
  go_upto_block 0 with fail
  generalize (w2.alloc (.cells #[.int .i64 0, .int .u64 0, .int .i64 0, .int .i64 0, .string { data := #[] }, .int .i64 0] 24)) = w4 at *
  obtain ⟨P, hP⟩ : ∃ P, P = w2.heap.size := ⟨_, rfl⟩
  rw [← hP] at HP4 hlt2 ⊢
  clear hP
  go_cut [8] (fun _ wx => PRow wx P (kindOf f) 0 0 0 [] 0 ∧ PRow wx w.heap.size 0 0 0 0 [] 0 ∧ Below w.heap.size w wx)
  case first =>
    have hP4 : PRow w4 P (kBel f 1) 0 0 0 [] 0 := by rw [kBel_one]; exact HP4.out
    have hZ4 := HZ4.out
    have hB4 := HB4.out
    go_wp2_with fail
    go_loopw [8] (fun vk wr => ∃ k : Nat, 1 ≤ k ∧ k ≤ 8 ∧ vk = .int .i64 (k : Int) ∧ PRow wr P (kBel f k) 0 0 0 [] 0 ∧ PRow wr w.heap.size 0 0 0 0 [] 0 ∧ Below w.heap.size w wr) (fun vk _ => (8 - intOf vk).toNat)
    case atStart => exact ⟨1, by omega, by omega, rfl, hP4, hZ4, hB4⟩
    case round =>
      clear hP4 hZ4 hB4 HP4 HZ4 HB4
      obtain ⟨k, hk1, hk8, rfl, hPr, hZr, hBr⟩ := hrel
      by_cases h8 : k = 8
      · subst h8
        rw [kBel_end] at hPr
        have HF := Lib.hid (And.intro hPr (And.intro hZr hBr))
        clear hPr hZr hBr
        go_wp2_with fail
        go_meet
        exact HF.out
      · have hk7 : (k : Int) ≤ 7 := by omega
        have hw := rword k (by omega) wr
        have HPr := Lib.hid hPr
        have HZr := Lib.hid hZr
        have HBr := Lib.hid hBr
        have hlP := hPr.lt
        have hlZ := hZr.lt
        clear hPr hZr hBr h8
        by_cases hkk : kindOf f = (k : Int)
        · have hwf := (kindOf_eq f k hk1 (by omega)).2 hkk
          rw [hwf] at hw
          have HK := Lib.hid (kBel_hit f k hkk)
          clear hwf hkk
          go_wp2_with fail
          refine hw.mono ?_
          rintro e w5 ⟨rfl, hb5⟩
          have hP5 : PRow w5 P (kBel f k) 0 0 0 [] 0 := HPr.out.below hb5 hlP
          have c0 := hP5.cells.1
          have f0 := hP5.frozen 0
          have HP6 := Lib.hid (hP5.set0 (k : Int))
          have HZ6 := Lib.hid ((HZr.out.below hb5 hlZ).far (a := ⟨P, 0, none⟩) (by show w.heap.size ≠ P; omega) (.int .i64 (k : Int)))
          have HB6 := Lib.hid ((HBr.out.trans (hb5.mono HBr.out.size)).setCell (p := ⟨P, 0, none⟩) (by show w.heap.size ≤ P; omega) (.int .i64 (k : Int)))
          clear hP5 hb5 HPr HZr HBr hw
          go_wp2_with fail
          go_roundw
          case rel => exact ⟨k + 1, by omega, by omega, by go_num, by rw [HK.out]; exact HP6.out, HZ6.out, HB6.out⟩
          case measure => simp [intOf]; omega
        · have hwf : ¬ wd (k : Int) = f := fun e => hkk ((kindOf_eq f k hk1 (by omega)).1 e)
          have hb1 : ((sof (wd (k : Int))).toList == (sof f).toList) = false := by rw [sof_beq]; exact decide_eq_false hwf
          have HK := Lib.hid (kBel_miss f k hkk)
          generalize wd (k : Int) = W at hw hb1 hwf
          clear hkk
          go_wp2_with fail
          refine hw.mono ?_
          rintro e w5 ⟨rfl, hb5⟩
          have HP6 := Lib.hid (HPr.out.below hb5 hlP)
          have HZ6 := Lib.hid (HZr.out.below hb5 hlZ)
          have HB6 := Lib.hid (HBr.out.trans (hb5.mono HBr.out.size))
          clear hb5 HPr HZr HBr hw
          go_wp2_with fail
          go_roundw
          case rel => exact ⟨k + 1, by omega, by omega, by go_num, by rw [HK.out]; exact HP6.out, HZ6.out, HB6.out⟩
          case measure => simp [intOf]; omega
  case rest =>
    obtain ⟨hP, hZ, hB⟩ := hcut
    rename World => w5
    have HP5 := Lib.hid hP
    have HZ5 := Lib.hid hZ
    have HB5 := Lib.hid hB
    have c0 := hP.cells.1
    clear hP hZ hB HP4 HZ4 HB4
    go_upto_block 2 with fail
    go_cut [5, 34] (fun _ _ wx => ParR w.heap.size P s w wx)
    case first =>
      have hrng := kindOf_rng f
      have hlP := HP5.out.lt
      rcases (by omega : (kindOf f = 1 ∨ kindOf f = 2 ∨ kindOf f = 3) ∨ (kindOf f = 4 ∨ kindOf f = 5) ∨ kindOf f = 6 ∨ kindOf f = 7 ∨ kindOf f = 0) with hk | hk | hk | hk | hk
      · have HL := Lib.hid (lp_mask HC.out hk)
        have hP5 := HP5.out
        have hZ5 := HZ5.out
        have hB5 := HB5.out
        obtain ⟨M, hM⟩ : ∃ M, M = por 0 (spl 44 r) := ⟨_, rfl⟩
        rw [← hM] at HL
        have hM0 := hM.symm
        have hr9 : r.length ≤ 900 := by omega
        clear hM
        rcases hk with hk | hk | hk
        all_goals
          go_wp2_with fail
          go_loopw [5, 9] (fun vq vm wr => ∃ (q : List B8) (m : Nat) (mo : Bool), vq = .string (sof q) ∧ vm = .bool mo ∧ q.length ≤ 900 ∧ m < 18446744073709551616 ∧ Hid ((if mo = true then por m (spl 44 q) else m) = M) ∧ PRow wr P (kindOf f) (m : Int) 0 0 [] 0 ∧ PRow wr w.heap.size 0 0 0 0 [] 0 ∧ Below w.heap.size w wr) (fun vq vm _ => strN vq + booN vm)
          case atStart => exact ⟨r, 0, true, rfl, rfl, hr9, by omega, Lib.hid (by rw [if_pos rfl]; exact hM0), hP5, hZ5, hB5⟩
          case round =>
            clear hP5 hZ5 hB5 hM0 HP5 HZ5 HB5 hk c0
            obtain ⟨q, m, mo, rfl, rfl, hq9, hm, hacc, hPr, hZr, hBr⟩ := hrel
            cases mo with
            | false =>
              have hmM : m = M := by have := hacc.out; rw [if_neg (by simp)] at this; exact this
              subst hmM
              have HF : Hid (ParR w.heap.size P s w wr) := Lib.hid ⟨by rw [HL.out]; exact hPr, hZr, hBr, by rw [HL.out]; exact hm, by rw [HL.out]; simp⟩
              clear hPr hZr hBr hacc
              go_wp2_with fail
              go_meet
              exact HF.out
            | true =>
              have hsz := sof_size q
              have hq1 : (q.length : Int) < 1000 := by omega
              obtain ⟨x, q', b, hcx, hst, hxl, hql, hdn⟩ := cut_step m q M (by have := hacc.out; rw [if_pos rfl] at this; exact this)
              have hw := rcut q 44 44 (by have := bv_lit 44 (by omega); exact this.symm) (by omega) wr
              rw [hcx] at hw
              simp only at hw
              have hdx := fun W => rdigits x (by omega) W
              have HST := Lib.hid hst
              have hmx := pin_lt x hm
              have HPr := Lib.hid hPr
              have HZr := Lib.hid hZr
              have HBr := Lib.hid hBr
              have hlPr := hPr.lt
              have hlZr := hZr.lt
              clear hPr hZr hBr hacc hst hcx
              go_wp2_with fail
              refine hw.mono ?_
              rintro e w6 ⟨rfl, hb6⟩
              have HP6 := Lib.hid (HPr.out.below hb6 hlPr)
              have HZ6 := Lib.hid (HZr.out.below hb6 hlZr)
              have HB6 := Lib.hid (HBr.out.trans (hb6.mono HBr.out.size))
              clear hb6 HPr HZr HBr hw hlPr hlZr
              go_wp2_with fail
              refine (hdx _).mono ?_
              rintro e w7 ⟨rfl, hb7⟩
              have hP7 : PRow w7 P (kindOf f) (m : Int) 0 0 [] 0 := HP6.out.below hb7 HP6.out.lt
              have hZ7 : PRow w7 w.heap.size 0 0 0 0 [] 0 := HZ6.out.below hb7 HZ6.out.lt
              have hB7 := HB6.out.trans (hb7.mono HB6.out.size)
              have c1 := hP7.cells.2.1
              have f1 := hP7.frozen 1
              have HP7 := Lib.hid hP7
              have HZ7 := Lib.hid hZ7
              have HB7 := Lib.hid hB7
              clear hb7 HP6 HZ6 HB6 hdx hP7 hZ7 hB7
              by_cases hd : 0 ≤ dg x ∧ dg x < 64
              · have hpx : pin m x = m ||| 2 ^ (dg x).toNat := if_pos hd
                obtain ⟨n, hn⟩ := Int.eq_ofNat_of_zero_le hd.1
                rw [hn] at hd hpx ⊢
                have hd1 : (n : Int) < 64 := hd.2
                have hd0 : (0 : Int) ≤ (n : Int) := hd.1
                have hob := or_bit m n hm (by omega)
                rw [Int.toNat_natCast] at hpx
                rw [← hpx] at hob
                generalize pin m x = m2 at hpx hob HST hmx
                have HPs := Lib.hid (HP7.out.set1 (m2 : Int))
                have HZs := Lib.hid (HZ7.out.far (a := ⟨P, 1, none⟩) (by show w.heap.size ≠ P; omega) (.int .u64 (m2 : Int)))
                have HBs := Lib.hid (HB7.out.setCell (p := ⟨P, 1, none⟩) (by show w.heap.size ≤ P; omega) (.int .u64 (m2 : Int)))
                clear hd hpx hn HP7 HZ7 HB7
                go_wp2_with fail
                go_roundw
                case rel => exact ⟨q', m2, b, rfl, rfl, by omega, hmx, HST, HPs.out, HZs.out, HBs.out⟩
                case measure => simp only [strN, sof_size, booN] at hdn ⊢; omega
              · have hpx : pin m x = m := if_neg hd
                rw [hpx] at HST hmx
                clear hpx
                generalize dg x = d at *
                rcases (show ¬ 0 ≤ d ∨ (0 ≤ d ∧ ¬ d < 64) by omega) with hd0 | ⟨hd0, hd1⟩
                all_goals
                  clear hd c1 f1
                  go_wp2_with fail
                  go_roundw
                  case rel => exact ⟨q', m, b, rfl, rfl, by omega, hmx, HST, HP7.out, HZ7.out, HB7.out⟩
                  case measure => simp only [strN, sof_size, booN] at hdn ⊢; omega
      · have hL := lp_span HC.out hk
        have hcl2 := cut1_len 45 r
        have hw := rcut r 45 45 (by have := bv_lit 45 (by omega); exact this.symm) (by omega) w5
        obtain ⟨⟨x, y, b⟩, hxy⟩ : ∃ z, z = cut1 45 r := ⟨_, rfl⟩
        rw [← hxy] at hL hw hcl2
        simp only at hL hw hcl2
        have HL := Lib.hid hL
        have hdx := fun W => rdigits x (by omega) W
        have hdy := fun W => rdigits y (by omega) W
        generalize dg x = X at hdx HL hL
        generalize dg y = Y at hdy HL hL
        clear hL hxy hcl2
        rcases hk with hk | hk
        all_goals
          go_wp2_with fail
          refine hw.mono ?_
          rintro e w6 ⟨rfl, hb6⟩
          have HP6 := Lib.hid (HP5.out.below hb6 hlP)
          have HZ6 := Lib.hid (HZ5.out.below hb6 HZ5.out.lt)
          have HB6 := Lib.hid (HB5.out.trans (hb6.mono HB5.out.size))
          clear hb6 HP5 HZ5 HB5 hw
          go_wp2_with fail
          refine (hdx _).mono ?_
          rintro e w7 ⟨rfl, hb7⟩
          have HP7 := Lib.hid (HP6.out.below hb7 HP6.out.lt)
          have HZ7 := Lib.hid (HZ6.out.below hb7 HZ6.out.lt)
          have HB7 := Lib.hid (HB6.out.trans (hb7.mono HB6.out.size))
          clear hb7 HP6 HZ6 HB6 hdx
          go_wp2_with fail
          refine (hdy _).mono ?_
          rintro e w8 ⟨rfl, hb8⟩
          have hP8 : PRow w8 P (kindOf f) 0 0 0 [] 0 := HP7.out.below hb8 HP7.out.lt
          have hZ8 : PRow w8 w.heap.size 0 0 0 0 [] 0 := HZ7.out.below hb8 HZ7.out.lt
          have hB8 := HB7.out.trans (hb8.mono HB7.out.size)
          have c2 := hP8.cells.2.2.1
          have c3 := hP8.cells.2.2.2.1
          have f2 := hP8.frozen 2
          have f3 := hP8.frozen 3
          have HF : Hid (ParR w.heap.size P s w ((w8.setCell ⟨P, 2, none⟩ (.int .i64 X)).setCell ⟨P, 3, none⟩ (.int .i64 Y))) := Lib.hid
            ⟨by rw [HL.out]; exact (hP8.set2 X).set3 Y, (hZ8.far (a := ⟨P, 2, none⟩) (by show w.heap.size ≠ P; omega) _).far (a := ⟨P, 3, none⟩) (by show w.heap.size ≠ P; omega) _,
              (hB8.setCell (p := ⟨P, 2, none⟩) (by show w.heap.size ≤ P; omega) _).setCell (p := ⟨P, 3, none⟩) (by show w.heap.size ≤ P; omega) _, by rw [HL.out]; show (0 : Nat) < 18446744073709551616; omega, by rw [HL.out]; simp⟩
          clear hb8 HP7 HZ7 HB7 hP8 hZ8 hB8 hdy HL
          go_wp2_with fail
          go_meet
          exact HF.out
      · have HL := Lib.hid (lp_name HC.out hk)
        have hP5 := HP5.out
        have c4 := hP5.cells.2.2.2.2.1
        have f4 := hP5.frozen 4
        have HF : Hid (ParR w.heap.size P s w (w5.setCell ⟨P, 4, none⟩ (.string (sof r)))) := Lib.hid
          ⟨by rw [HL.out]; exact hP5.set4 r, HZ5.out.far (a := ⟨P, 4, none⟩) (by show w.heap.size ≠ P; omega) _, HB5.out.setCell (p := ⟨P, 4, none⟩) (by show w.heap.size ≤ P; omega) _, by rw [HL.out]; show (0 : Nat) < 18446744073709551616; omega, by rw [HL.out]; show r.length ≤ 1000000; omega⟩
        clear hP5 HP5 HZ5 HB5 HL
        go_wp2_with fail
        go_meet
        exact HF.out
      · have HL := Lib.hid (lp_num HC.out hk)
        have hd := rdigits r (by omega) w5
        generalize dg r = R at hd HL
        go_wp2_with fail
        refine hd.mono ?_
        rintro e w6 ⟨rfl, hb6⟩
        have hP6 : PRow w6 P (kindOf f) 0 0 0 [] 0 := HP5.out.below hb6 hlP
        have hZ6 : PRow w6 w.heap.size 0 0 0 0 [] 0 := HZ5.out.below hb6 HZ5.out.lt
        have hB6 := HB5.out.trans (hb6.mono HB5.out.size)
        have c5 := hP6.cells.2.2.2.2.2
        have f5 := hP6.frozen 5
        have HF : Hid (ParR w.heap.size P s w (w6.setCell ⟨P, 5, none⟩ (.int .i64 R))) := Lib.hid
          ⟨by rw [HL.out]; exact hP6.set5 R, hZ6.far (a := ⟨P, 5, none⟩) (by show w.heap.size ≠ P; omega) _, hB6.setCell (p := ⟨P, 5, none⟩) (by show w.heap.size ≤ P; omega) _, by rw [HL.out]; show (0 : Nat) < 18446744073709551616; omega, by rw [HL.out]; simp⟩
        clear hb6 hP6 hZ6 hB6 HP5 HZ5 HB5 HL
        go_wp2_with fail
        go_meet
        exact HF.out
      · have HL := Lib.hid (lp_none HC.out hk)
        have HF : Hid (ParR w.heap.size P s w w5) := Lib.hid ⟨by rw [HL.out]; have := HP5.out; rw [hk] at this; exact this, HZ5.out, HB5.out, by rw [HL.out]; show (0 : Nat) < 18446744073709551616; omega, by rw [HL.out]; simp⟩
        clear HP5 HZ5 HB5 HL
        go_wp2_with fail
        go_meet
        exact HF.out
    case rest =>
      obtain ⟨hP, hZ, hB, hm, hn⟩ := hcut
      rename World => w6
      have hFm := rformat (lp s) hm (by omega) w6
      obtain ⟨L, hL⟩ : ∃ x, x = lp s := ⟨_, rfl⟩
      rw [← hL] at hP hm hn hFm
      have HLs := Lib.hid hL
      clear hL
      obtain ⟨kk, m, lo, hi, nm, nu⟩ := L
      unfold pv at hFm
      simp only at hP hm hn hFm
      have HP6 := Lib.hid hP
      have HZ6 := Lib.hid hZ
      have HB6 := Lib.hid hB
      have hlP := hP.lt
      have hlZ := hZ.lt
      clear hP hZ hB HP5 HZ5 HB5 c0
      by_cases hp : pok ⟨kk, m, lo, hi, nm, nu⟩
      · have hf : fm ⟨kk, m, lo, hi, nm, nu⟩ = (pfmt ⟨kk, m, lo, hi, nm, nu⟩, 0) := by unfold fm; rw [if_pos hp]
        rw [hf] at hFm
        simp only at hFm
        clear hf
        by_cases ht : pfmt ⟨kk, m, lo, hi, nm, nu⟩ = s
        · have HE : Hid (ps s = (⟨kk, m, lo, hi, nm, nu⟩, 0)) := Lib.hid (by unfold ps; rw [← HLs.out, if_pos ⟨hp, ht⟩])
          rw [ht] at hFm
          clear hp ht
          go_wp2_with (first | (with_reducible refine wpList_load_prd rfl _ rfl (g := P) rfl HP6.out ?_))
          refine hFm.mono ?_
          rintro e w7 ⟨rfl, hb7⟩
          have HP7 := Lib.hid (HP6.out.below hb7 hlP)
          have HZ7 := Lib.hid (HZ6.out.below hb7 hlZ)
          have HB7 := Lib.hid (HB6.out.trans (hb7.mono HB6.out.size))
          clear hb7 HP6 HZ6 HB6 hFm
          go_wp2_with (first | (with_reducible refine wpList_load_prd rfl _ rfl (g := P) rfl HP7.out ?_) | (with_reducible refine wpList_store_prd rfl _ _ rfl (g := w.heap.size) rfl rfl HZ7.out ?_))
          refine bodyPost_ret (results_prd1 (g := w.heap.size) Tryd.results19 _ rfl _ rfl (Whole.setRow HZ7.out _)) rfl ?_
          refine ⟨?_, below_setRow HB7.out (Nat.le_refl _) _⟩
          rw [HE.out, pv_row]; rfl
        · have HE : Hid (ps s = (.zero, 8)) := Lib.hid (by unfold ps; rw [← HLs.out, if_neg (fun h => ht h.2)])
          have hb1 : ((sof (pfmt ⟨kk, m, lo, hi, nm, nu⟩)).toList == (sof s).toList) = false := by rw [sof_beq]; exact decide_eq_false ht
          generalize pfmt ⟨kk, m, lo, hi, nm, nu⟩ = T at hFm hb1 ht
          clear hp
          go_wp2_with (first | (with_reducible refine wpList_load_prd rfl _ rfl (g := P) rfl HP6.out ?_))
          refine hFm.mono ?_
          rintro e w7 ⟨rfl, hb7⟩
          have HZ7 := Lib.hid (HZ6.out.below hb7 hlZ)
          have HB7 := Lib.hid (HB6.out.trans (hb7.mono HB6.out.size))
          clear hb7 HP6 HZ6 HB6 hFm
          go_wp2_with (first | (with_reducible refine wpList_store_prdz rfl _ _ rfl (g := w.heap.size) rfl rfl HZ7.out ?_))
          refine bodyPost_ret (results_prd1 (g := w.heap.size) Tryd.results19 _ rfl _ rfl (PRow.setRow HZ7.out 0 0 0 0 [] 0)) rfl ?_
          refine ⟨?_, below_setRow HB7.out (Nat.le_refl _) _⟩
          rw [HE.out, pv_row]; rfl
      · have hf : fm ⟨kk, m, lo, hi, nm, nu⟩ = ([], 5) := by unfold fm; rw [if_neg hp]
        rw [hf] at hFm
        simp only at hFm
        have HE : Hid (ps s = (.zero, 8)) := Lib.hid (by unfold ps; rw [← HLs.out, if_neg (fun h => hp h.1)])
        clear hf hp
        go_wp2_with (first | (with_reducible refine wpList_load_prd rfl _ rfl (g := P) rfl HP6.out ?_))
        refine hFm.mono ?_
        rintro e w7 ⟨rfl, hb7⟩
        have HZ7 := Lib.hid (HZ6.out.below hb7 hlZ)
        have HB7 := Lib.hid (HB6.out.trans (hb7.mono HB6.out.size))
        clear hb7 HP6 HZ6 HB6 hFm
        go_wp2_with (first | (with_reducible refine wpList_store_prdz rfl _ _ rfl (g := w.heap.size) rfl rfl HZ7.out ?_))
        refine bodyPost_ret (results_prd1 (g := w.heap.size) Tryd.results19 _ rfl _ rfl (PRow.setRow HZ7.out 0 0 0 0 [] 0)) rfl ?_
        refine ⟨?_, below_setRow HB7.out (Nat.le_refl _) _⟩
        rw [HE.out, pv_row]; rfl
end Go.Proofs.YtpodgmmgphibfaaDoor
