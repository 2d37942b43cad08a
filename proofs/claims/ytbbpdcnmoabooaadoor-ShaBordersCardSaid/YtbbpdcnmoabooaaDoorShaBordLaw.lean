/-
  The law of ShaBorders: true, for all arguments.
-/
import Derived.Test.YtbbpdcnmoabooaaDoorShaStateLaw
namespace Go.Proofs.YtbbpdcnmoabooaaDoor
open Go Go.RowKit Sh Leaf

def borders : List Nat := [0, 55, 56, 63, 64, 65, 119, 120, 127, 128, 183, 184]
theorem borders_le (r : Nat) : borders.getD r 0 ≤ 184 := by
  rw [List.getD_eq_getElem?_getD]
  by_cases h : r < 12
  · have hc : r = 0 ∨ r = 1 ∨ r = 2 ∨ r = 3 ∨ r = 4 ∨ r = 5 ∨ r = 6 ∨ r = 7 ∨ r = 8 ∨ r = 9 ∨ r = 10 ∨ r = 11 := by omega
    rcases hc with rfl | rfl | rfl | rfl | rfl | rfl | rfl | rfl | rfl | rfl | rfl | rfl <;> decide
  · rw [List.getElem?_eq_none (by simp [borders]; omega)]
    exact Nat.zero_le _
abbrev borderRow : Array Value := #[.int .i64 0, .int .i64 55, .int .i64 56, .int .i64 63, .int .i64 64, .int .i64 65, .int .i64 119, .int .i64 120, .int .i64 127, .int .i64 128, .int .i64 183, .int .i64 184]
theorem border_cell (r : Nat) (h : r < 12) : borderRow[r]? = some (.int .i64 ((borders.getD r 0 : Nat) : Int)) := by
  have hc : r = 0 ∨ r = 1 ∨ r = 2 ∨ r = 3 ∨ r = 4 ∨ r = 5 ∨ r = 6 ∨ r = 7 ∨ r = 8 ∨ r = 9 ∨ r = 10 ∨ r = 11 := by omega
  rcases hc with rfl | rfl | rfl | rfl | rfl | rfl | rfl | rfl | rfl | rfl | rfl | rfl <;> rfl

set_option maxRecDepth 20000 in
set_option maxHeartbeats 2000000 in
theorem borders_law (k x : Nat) (w : World) (hk : k < 256) (hT : Tables w) :
    Calls Tryd.prog 7 #[.int .u8 k, .int .u8 x] w fun e w' => e = .returned (.bool true) ∧ Below w.heap.size w w' := by
  obtain ⟨r, hr⟩ : ∃ r, r = k % 12 := ⟨_, rfl⟩
  have hrl : r < 12 := by omega
  obtain ⟨n, hn⟩ : ∃ n, n = borders.getD r 0 := ⟨_, rfl⟩
  have hnl : n ≤ 184 := by rw [hn]; exact borders_le r
  have hcell : ∀ fr, (w.alloc (.cells borderRow 3 fr)).cell? ⟨w.heap.size, r, none⟩ = some (.int .i64 (n : Int)) := fun fr => by
    rw [World.cell?_alloc_mark, border_cell r hrl, hn]
  have hri : (k : Int) % 12 = (r : Int) := by omega
  have hrt : ((k : Int) % 12).toNat = r := by omega
  have hq0 : Below w.heap.size w (w.alloc (.cells borderRow 3)) := (Below.refl _ _).alloc (Nat.le_refl _) _
  have HT := Lib.hid hT
  have hmk := make_bytes (n : Int) n rfl (by omega)
  have hrz : (r : Int) < 12 := by omega
  clear hr hn hT
  go_enter Tryd.func7, Tryd.ntmps7
  go_wp2
  have k0 : Whole ((w.alloc (.cells borderRow 3)).alloc (.cells (brow n fun _ => 0) 5)) (w.heap.size + 1) 5 (brow n fun _ => 0) := Whole.at_ _ _ _ _ (by simp)
  have hq1 := hq0.alloc hq0.size (.cells (brow n fun _ => 0) 5)
  have K0 := Lib.hid k0
  have HQ1 := Lib.hid hq1
  clear k0 hq1 hcell hq0 hmk hri hrt hrz
  go_loopw [7] (fun i wr => ∃ j : Nat, j ≤ n ∧ i = .int .i64 j ∧ Whole wr (w.heap.size + 1) 5 (brow n fun a => if a < j then BitVec.ofNat 8 (x + a) else 0) ∧ Below w.heap.size w wr) (fun i _ => n - (intOf i).toNat)
  case atStart => exact ⟨0, by omega, rfl, by simpa using K0.out, HQ1.out⟩
  case round =>
    obtain ⟨j, hj, rfl, hw, hbr⟩ := hrel
    by_cases hlt : j < n
    · have hcell : wr.cell? ⟨w.heap.size + 1, j, none⟩ = some (byt 0) := by rw [hw.cell, brow_get n _ j hlt, if_neg (by omega)]
      have hfr : wr.frozen? ⟨w.heap.size + 1, j, none⟩ = false := hw.frozen j
      have hset := hw.set j (byt (BitVec.ofNat 8 (x + j)))
      rw [brow_set n _ j _ hlt, brow_congr (g := fun a => if a < j + 1 then BitVec.ofNat 8 (x + a) else 0) (fun a _ => by
        by_cases e1 : a = j
        · subst e1; rw [if_pos rfl, if_pos (by omega)]
        · by_cases e2 : a < j
          · rw [if_neg e1, if_pos e2, if_pos (by omega)]
          · rw [if_neg e1, if_neg e2, if_neg (by omega)])] at hset
      have hbr2 := hbr.setCell (p := ⟨w.heap.size + 1, j, none⟩) (by simp) (byt (BitVec.ofNat 8 (x + j)))
      have hval : bv (BitVec.ofNat 8 (x + j)) = ((x : Int) + (j : Int)) % 256 := by rw [bv_ofNat]; omega
      rw [byt, hval] at hset hbr2
      have HS := Lib.hid (And.intro hset hbr2)
      clear hset hbr2 hw hbr hval
      go_wp2
      go_roundw
      case rel => exact ⟨j + 1, by omega, by go_num, HS.out.1, HS.out.2⟩
      case measure => simp [intOf]; omega
    · have hjn : j = n := by omega
      subst hjn
      obtain ⟨K, hK⟩ : ∃ K : List B8, K = (List.range j).map fun a => BitVec.ofNat 8 (x + a) := ⟨_, rfl⟩
      have hKl : K.length = j := by rw [hK]; simp
      have hKr : brow j (fun a => if a < j then BitVec.ofNat 8 (x + a) else 0) = (K.map byt).toArray := by
        rw [← brow_list, hKl]
        refine brow_congr fun a ha => ?_
        rw [if_pos ha, hK]
        simp [List.getD_eq_getElem?_getD, ha]
      rw [hKr] at hw
      have hbk := hw.bytes (by omega)
      rw [hKl] at hbk
      have hT1 := HT.out.below (Nat.le_refl _) hbr
      clear hw hKr hK K0 HQ1
      go_wp2_with fail
      refine (new_st _ hT1).mono ?_
      rintro e w1 ⟨rfl, hb1⟩
      have hbk1 := hbk.below hb1 (Nat.le_refl _)
      have hT2 := hT1.below (Nat.le_refl _) hb1
      have hw1 := hbr.trans (hb1.mono hbr.size)
      clear hbk hT1 hb1 hbr
      have k1 : Whole (w1.alloc (.cells (hstate [] (.slice none 0 0)) 34)) w1.heap.size 34 (hstate [] (.slice none 0 0)) := Whole.here _ _ _
      have hz1 : Below w1.heap.size w1 (w1.alloc (.cells (hstate [] (.slice none 0 0)) 34)) := (Below.refl _ _).alloc (Nat.le_refl _) _
      have HK1 := Lib.hid k1
      have HZ1 := Lib.hid hz1
      have HBK := Lib.hid hbk1
      have HT2 := Lib.hid hT2
      clear k1 hz1 hbk1 hT2
      go_wp2
      go_loopw [9] (fun vi wr => ∃ i : Nat, ∃ A2 : Option Addr, ∃ c2 : Nat, i ≤ j ∧ vi = .int .i64 i ∧ Whole wr w1.heap.size 34 (hstate (K.take i) (.slice A2 (restOf (K.take i)).length c2)) ∧ Bytes wr (fun g => g ≠ w1.heap.size) (.slice A2 (restOf (K.take i)).length c2) (restOf (K.take i)) ∧ Below w1.heap.size w1 wr) (fun vi _ => j - (intOf vi).toNat)
      case atStart => exact ⟨0, none, 0, by omega, rfl, by rw [List.take_zero]; exact HK1.out, by rw [List.take_zero]; exact Bytes.nil _ _, HZ1.out⟩
      case round =>
        obtain ⟨i, A2, c2, hi, rfl, hk1, hv, hz⟩ := hrel
        obtain ⟨P, hP⟩ : ∃ P, P = K.take i := ⟨_, rfl⟩
        have hPl : P.length = i := by rw [hP, List.length_take]; omega
        rw [← hP] at hk1 hv
        by_cases hlti : i < j
        · have hbx := HBK.out.below hz (Nat.le_refl _)
          have hcut := fun W => run_cut_mid (some ⟨w.heap.size + 1, 0, none⟩) j j i (i + 1) (by omega) (by omega) W
          have hby := (hbx.drop i (by omega)).take 1 (by rw [List.length_drop]; omega)
          rw [if_neg (by omega), show i + 1 - i = 1 by omega] at hcut
          rw [if_neg (by omega)] at hby
          simp only [Option.map_some, Addr.add_mid, Nat.zero_add, Int.natCast_add, Int.natCast_one] at hcut hby
          obtain ⟨X, hX⟩ : ∃ X, X = (K.drop i).take 1 := ⟨_, rfl⟩
          have hXl : X.length = 1 := by rw [hX, List.length_take, List.length_drop]; omega
          have hPX : P ++ X = K.take (i + 1) := by rw [hP, hX, List.take_add]
          rw [← hX] at hby
          have HPX := Lib.hid hPX
          have HPL := Lib.hid hPl
          clear hPX hX hP hPl
          have hrg : wr.rangeAt w1.heap.size 0 (hstate P (.slice A2 (restOf P).length c2)).toList := by
            intro a v hv
            rw [Nat.zero_add, hk1.cell]
            simpa using hv
          have HC := Lib.hid hcut
          have HR := Lib.hid hrg
          have HY := Lib.hid hby
          have HV := Lib.hid hv
          have HK := Lib.hid hk1
          have HZ := Lib.hid hz
          clear hcut hrg hby hv hk1 hz hbx
          go_wp2
          refine wp_region_still_tail 6 (by kernel_rfl) (by kernel_rfl) ?_
          simp only [List.take_succ_cons, List.take_zero, List.drop_succ_cons, List.drop_zero]
          change wpStill _ _ wr.drew (fun a' => wpList _ _ _ _ a' wr.drew) _ _
          refine wpStill_load_run rfl 34 _ rfl w1.heap.size 0 rfl _ _ ((World.rangeAt_drew _ _ _ _).2 HR.out) Tryd.underlying34 rfl (by kernel_rfl) ?_
          refine wpStill_step (fun K hK => ?_); go_simp; refine hK _ ?_; clear hK K
          refine wpStill_step (fun K hK => ?_); go_simp; refine hK _ ?_; clear hK K
          refine wpStill_step (fun K hK => ?_); go_simp; refine hK _ ?_; clear hK K
          refine wpStill_step (fun K hK => ?_); go_simp; (try go_bits); refine hK _ ?_; clear hK K
          refine wpStill_slice_run rfl 22 _ _ _ _ rfl _ (HC.out _) ?_
          refine wpStill_nil ?_
          clear HR HC
          go_wp2_with fail
          refine (write_st P X _ _ _ _ wr.drew HV.out HY.out (HT2.out.below (Nat.le_refl _) HZ.out).1 (by have := HPL.out; omega) (by omega)).mono ?_
          rintro e w5 ⟨v5, rfl, hv5, hb5⟩
          rw [HPX.out] at hv5 ⊢
          have hb5' : Below wr.heap.size wr w5 := ((Below.refl _ _).drew).trans hb5
          have hk5 := HK.out.below hb5' HK.out.lt
          have hz5 := HZ.out.trans (hb5'.mono HZ.out.size)
          have hgl : w1.heap.size < wr.heap.size := HK.out.lt
          obtain ⟨A5, c5, rfl, -⟩ := id hv5
          obtain ⟨N, hN⟩ : ∃ N, N = K.take (i + 1) := ⟨_, rfl⟩
          rw [← hN] at hv5 ⊢
          have HN := Lib.hid hN
          clear hN hb5 hb5' HK HZ HV HY
          go_wp2_with (with_reducible refine wpList_store_row rfl 34 _ _ rfl w1.heap.size _ rfl rfl _ _ hk5.eq ?_ ?_ ?_ ?_)
          · kernel_rfl
          · simp
          · simp [Value.oneCell']
          · have hk6 := hk5.setRow (hstate N (.slice A5 (restOf N).length c5))
            have hz6 := below_setRow hz5 (Nat.le_refl _) (hstate N (.slice A5 (restOf N).length c5))
            have hv6 := (hv5.mono (Q' := fun g => g ≠ w1.heap.size) (fun g _ hg => by have hg' : wr.heap.size ≤ g := hg; omega)).setRow (b := w1.heap.size) (fun g hg => hg) (hstate N (.slice A5 (restOf N).length c5))
            have H6 := Lib.hid (And.intro hk6 (And.intro hv6 hz6))
            clear hk6 hv6 hz6 hk5 hz5 hv5
            go_roundw
            case rel => exact ⟨i + 1, A5, c5, by omega, by go_num, by rw [← HN.out]; exact H6.out.1, by rw [← HN.out]; exact H6.out.2.1, H6.out.2.2⟩
            case measure => simp [intOf]; omega
        · have hij : i = j := by omega
          have hPK : P = K := by rw [hP, hij, ← hKl]; exact List.take_length
          rw [hPK] at hk1 hv
          clear hP hPl hPK
          have hbx := HBK.out.below hz (Nat.le_refl _)
          have hTx := HT2.out.below (Nat.le_refl _) hz
          have hwx := hw1.trans (hz.mono hw1.size)
          have hrl : (restOf K).length ≤ 1000 := by rw [restOf_length]; omega
          have hc1 := fun W h1 h2 => of_ (.slice (some ⟨w.heap.size + 1, 0, none⟩) j j) K (fun b => b = w.heap.size + 1) W h1 h2 (by omega)
          have hc2 := fun W h1 => ref_sha (.slice (some ⟨w.heap.size + 1, 0, none⟩) j j) K (fun b => b = w.heap.size + 1) W h1 (by omega)
          have hc3 : ∀ W Q', Bytes W Q' (.slice A2 (restOf K).length c2) (restOf K) → Tables W → Calls Tryd.prog 20 #[.agg (hashv (stAfter K) (.slice A2 (restOf K).length c2) (K.length : Int))] W fun e w' => e = .returned (tagv (sha K)) ∧ Below W.heap.size W w' := fun W Q' h1 h2 => sum_st K _ Q' W h1 h2.1 (by omega)
          have hc5 : ∀ W, Bytes W (fun b => b = w.heap.size + 1) (.slice (some ⟨w.heap.size + 1, 0, none⟩) j j) K → Calls Tryd.prog 18 #[.slice (some ⟨w.heap.size + 1, 0, none⟩) j j] W fun e w' => ∃ v', e = .returned (.agg (hashv (stAfter K) v' (K.length : Int))) ∧ Bytes w' (fun g => W.heap.size ≤ g) v' (restOf K) ∧ Below W.heap.size W w' := fun W h1 => ref_state _ K _ W h1 (by omega)
          have hc6 : ∀ W v' Q1 Q2, Bytes W Q1 (.slice A2 (restOf K).length c2) (restOf K) → Bytes W Q2 v' (restOf K) → Calls Tryd.prog 16 #[.agg (hashv (stAfter K) (.slice A2 (restOf K).length c2) (K.length : Int)), .agg (hashv (stAfter K) v' (K.length : Int))] W fun e w' => e = .returned (.bool true) ∧ Below W.heap.size W w' := fun W v' Q1 Q2 h1 h2 => same_states (stAfter K) _ v' _ (restOf K) Q1 Q2 W h1 h2 hrl
          have ml : (sha K).length = 32 := sha_length _
          have te := tag_eql (sha K) ml
          change Whole wr w1.heap.size 34 (hashv (stAfter K) (.slice A2 (restOf K).length c2) (K.length : Int)) at hk1
          generalize sha K = M at hc1 hc2 hc3 te ml
          generalize (K.length : Int) = nI at hc3 hc5 hc6 hk1
          generalize stAfter K = s at hc3 hc5 hc6 hk1
          generalize restOf K = ρ at hc3 hc5 hc6 hk1 hv hrl
          have hd0 : ∀ o, wr.cell? ⟨w1.heap.size, o, none⟩ = (hashv s (.slice A2 ρ.length c2) nI)[o]? := fun o => hk1.cell o
          have hd0' : ∀ o, wr.drew.cell? ⟨w1.heap.size, o, none⟩ = (hashv s (.slice A2 ρ.length c2) nI)[o]? := hd0
          have hgl : w1.heap.size < wr.heap.size := hk1.lt
          have HBX := Lib.hid hbx
          have HTX := Lib.hid hTx
          have HWX := Lib.hid hwx
          have HVX := Lib.hid hv
          have C1 := Lib.hid hc1
          have C2 := Lib.hid hc2
          have C3 := Lib.hid hc3
          have C5 := Lib.hid hc5
          have C6 := Lib.hid hc6
          clear hbx hTx hwx hv hk1 hz hw1 hc1 hc2 hc3 hc5 hc6 ml HBK HT2 HK1 HZ1 HT
          go_wp2
          go_region_held3 (fun w' => ∀ o, w'.cell? ⟨w1.heap.size, o, none⟩ = (hashv s (.slice A2 ρ.length c2) nI)[o]?)
            (with_reducible assumption)
            (first
            | (go_at_call 15; refine (awake _ (HTX.out.below (Nat.le_refl _) hq26)).mono ?_; rintro e w27 ⟨rfl, hb27⟩; have hq27 := hq26.trans (hb27.mono hq26.size); have hd27 : ∀ o, w27.cell? ⟨w1.heap.size, o, none⟩ = (hashv s (.slice A2 ρ.length c2) nI)[o]? := fun o => (hq27.cell (p := ⟨w1.heap.size, o, none⟩) hgl).trans (hd0 o))
            | (go_at_call 16; refine (C6.out _ _ _ _ (HVX.out.below hq25 (Nat.le_refl _)) hv25).mono ?_; rintro e w26 ⟨rfl, hb26⟩; have hq26 := hq25.trans (hb26.mono hq25.size); have hd26 : ∀ o, w26.cell? ⟨w1.heap.size, o, none⟩ = (hashv s (.slice A2 ρ.length c2) nI)[o]? := fun o => (hq26.cell (p := ⟨w1.heap.size, o, none⟩) hgl).trans (hd0 o))
            | (go_at_call 18; refine (C5.out _ (HBX.out.below hq24 (Nat.le_refl _))).mono ?_; rintro e w25 ⟨v25, rfl, hv25, hb25⟩; have hq25 := hq24.trans (hb25.mono hq24.size); have hd25 : ∀ o, w25.cell? ⟨w1.heap.size, o, none⟩ = (hashv s (.slice A2 ρ.length c2) nI)[o]? := fun o => (hq25.cell (p := ⟨w1.heap.size, o, none⟩) hgl).trans (hd0 o))
            | (go_at_call 14; refine (C2.out _ (HBX.out.below hq23 (Nat.le_refl _))).mono ?_; rintro e w24 ⟨rfl, hb24⟩; have hq24 := hq23.trans (hb24.mono hq23.size); have hd24 : ∀ o, w24.cell? ⟨w1.heap.size, o, none⟩ = (hashv s (.slice A2 ρ.length c2) nI)[o]? := fun o => (hq24.cell (p := ⟨w1.heap.size, o, none⟩) hgl).trans (hd0 o))
            | (go_at_call 20; refine (C3.out _ _ (HVX.out.below hq22 (Nat.le_refl _)) (HTX.out.below (Nat.le_refl _) hq22)).mono ?_; rintro e w23 ⟨rfl, hb23⟩; have hq23 := hq22.trans (hb23.mono hq22.size); have hd23 : ∀ o, w23.cell? ⟨w1.heap.size, o, none⟩ = (hashv s (.slice A2 ρ.length c2) nI)[o]? := fun o => (hq23.cell (p := ⟨w1.heap.size, o, none⟩) hgl).trans (hd0 o))
            | (go_at_call 14; refine (C2.out _ (HBX.out.below hq21 (Nat.le_refl _))).mono ?_; rintro e w22 ⟨rfl, hb22⟩; have hq22 := hq21.trans (hb22.mono hq21.size); have hd22 : ∀ o, w22.cell? ⟨w1.heap.size, o, none⟩ = (hashv s (.slice A2 ρ.length c2) nI)[o]? := fun o => (hq22.cell (p := ⟨w1.heap.size, o, none⟩) hgl).trans (hd0 o))
            | (go_at_call 13; refine (C1.out wr.drew HBX.out HTX.out).mono ?_; rintro e w21 ⟨rfl, hb21⟩; have hq21 : Below wr.heap.size wr w21 := ((Below.refl _ _).drew).trans hb21; have hd21 : ∀ o, w21.cell? ⟨w1.heap.size, o, none⟩ = (hashv s (.slice A2 ρ.length c2) nI)[o]? := fun o => (hq21.cell (p := ⟨w1.heap.size, o, none⟩) hgl).trans (hd0 o)))
          go_wp2
          go_ret
          exact ⟨rfl, HWX.out.trans (hq27.mono HWX.out.size)⟩
end Go.Proofs.YtbbpdcnmoabooaaDoor
