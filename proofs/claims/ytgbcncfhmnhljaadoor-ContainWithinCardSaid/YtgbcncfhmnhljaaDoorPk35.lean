/-
  The reference's Of.
-/
import Derived.Test.YtgbcncfhmnhljaaDoorPk32
namespace Go.Proofs.YtgbcncfhmnhljaaDoor
open Go Go.RowKit Sh Leaf

set_option maxRecDepth 100000 in
set_option maxHeartbeats 8000000 in
theorem rof (l : List Prd) (A : Option Addr) (k : Nat) (Q : Nat → Prop) (w : World) (hI : Prds w Q A k l) :
    Calls Tryd.prog 17 #[.slice A l.length k] w fun e w' => (∃ x m er, e = .returned (.tuple #[x, .int .i64 er]) ∧ Av w' (fun b => w.heap.size ≤ b) x m ∧ OfR l m er) ∧ Below w.heap.size w w' := by
  have hlen : l.length ≤ 9223372036854775807 := by
    have := hI.1
    have := hI.2.1
    unfold maxLen at this
    omega
  have hPl : Prds w (fun b => b < w.heap.size) A k l := hI.mono fun g hg _ => hg
  have HP := Lib.hid hPl
  have esn : sof [] = { data := #[] } := by unfold sof; rfl
  have HSN := Lib.hid esn
  have hz : ARow (w.alloc (.cells #[.bool false, .int .u64 0, .int .u64 0, .int .u64 0, .int .i64 0, .int .i64 0, .slice none 0 0, .string { data := #[] }] 25)) w.heap.size false 0 0 0 0 0 (.slice none 0 0) [] := by
    show Whole _ _ _ #[_, _, _, _, _, _, _, .string (sof [])]
    rw [esn]
    exact Whole.here _ _ _
  have HZ := Lib.hid hz
  have HB0 : Hid (Below w.heap.size w (w.alloc (.cells #[.bool false, .int .u64 0, .int .u64 0, .int .u64 0, .int .i64 0, .int .i64 0, .slice none 0 0, .string { data := #[] }] 25))) := Lib.hid ((Below.refl w.heap.size w).alloc (Nat.le_refl _) _)
  obtain ⟨n, hn⟩ : ∃ n, n = l.length := ⟨_, rfl⟩
  rw [← hn] at hlen ⊢
  have HN := Lib.hid hn
  clear hI hPl esn hz hn
  by_cases h64 : 64 < n
  · have h64' : (64 : Int) < (n : Int) := by omega
    have HR : Hid (OfR l zeroA 2) := Lib.hid (.inl ⟨by rw [← HN.out]; exact h64, rfl, rfl⟩)
    go_enter Tryd.func17, Tryd.ntmps17
    go_wp2_with (with_reducible refine wpList_store_aut rfl _ _ rfl (g := w.heap.size) rfl rfl HZ.out (by with_unfolding_all rfl) (by with_unfolding_all rfl) (by with_unfolding_all rfl) ?_)
    refine bodyPost_ret (results_aut2 (g := w.heap.size) Tryd.results17 _ rfl _ rfl rfl (Whole.setRow HZ.out _)) rfl ?_
    exact ⟨⟨_, zeroA, 2, rfl, by rw [← HSN.out]; exact av_zero _ _, HR.out⟩, below_setRow HB0.out (Nat.le_refl _) _⟩
  have h64' : ¬ (64 : Int) < (n : Int) := by omega
  go_enter Tryd.func17, Tryd.ntmps17
  go_wp2_with fail
  refine (rfull _).mono ?_
  rintro e w2 ⟨⟨x, rfl, hx⟩, hb2⟩
  obtain ⟨A2, c2, rfl, hS2, -⟩ := hx
  have hs2 := hb2.size
  have hlt2 : w.heap.size < w2.heap.size := by simp at hs2; omega
  have HZ2 := Lib.hid (Whole.below HZ.out hb2 (by simp))
  have HB2 : Hid (Below w.heap.size w w2) := Lib.hid (HB0.out.trans (hb2.mono (by simp)))
  have hT : ∀ o, Calls Tryd.prog 24 #[.agg (arow false 18446744073709551615 4294967295 127 0 67108864 (.slice A2 1 c2) [])] (w2.alloc o) fun e w' => (∃ g, e = .returned (.pointer (some ⟨g, 0, none⟩)) ∧ TRow w' g (0 : Nat) (67108864 : Nat) 127 (fun _ => true) ∧ w2.heap.size < g) ∧ Below (w2.heap.size + 1) (w2.alloc o) w' := fun o =>
    (ttimes false 18446744073709551615 4294967295 127 0 67108864 A2 c2 [((0 : Int), (1439 : Int))] [] (w2.alloc o) (Seq.alloc hS2 o) (fun s hs => by rw [List.mem_singleton.1 hs]; simp)).mono fun e w' h => ⟨⟨_, h.1, h.2.1.congr fun k hk => by
      have : spm [((0 : Int), (1439 : Int))] (k : Int) := ⟨(0, 1439), by simp, by simp only; omega, by simp only; omega⟩
      exact (spb_iff _ _).2 this, by simp only [World.size_alloc]; omega⟩, by have := h.2.2; simpa using this⟩
  unfold arow at hT
  unfold avl arow
  simp only [List.length_cons, List.length_nil, Nat.zero_add]
  clear hb2 hs2 HZ HB0 hS2
  go_wp2_with fail
  refine (hT _).mono ?_
  rintro e w3 ⟨⟨g, rfl, ht3, hg⟩, hb3⟩
  obtain ⟨GA, hGA⟩ : ∃ G, G = w2.heap.size := ⟨_, rfl⟩
  have HO : Hid (Ofw w w3 w2.heap.size g (.slice A2 1 c2) 18446744073709551615 4294967295 0 67108864 127 (fun _ => true) []) := Lib.hid ⟨Whole.below (Whole.alloc HZ2.out _) hb3 (by omega), Whole.below (Whole.here _ _ _) hb3 (by omega), ht3, (HB2.out.alloc HB2.out.size _).trans (hb3.mono (by omega))⟩
  rw [← hGA] at HO hg hlt2 ⊢
  have HI0 := Lib.hid (OfI.start l)
  clear hT HZ2 HB2 ht3 hb3 hGA
  go_wp2_with fail
  go_loopw [6, 7] (fun nv iv wr => ∃ (i : Nat) (no : Bool) (Z Ln F L D : Nat) (M : Nat → Bool) (h : List B8), iv = .int .i64 i ∧ nv = .bool no ∧ i ≤ n ∧ OfI l i Z Ln F L D M no h ∧ Ofw w wr GA g (.slice A2 1 c2) Z Ln F L D M h) (fun _ iv _ => n - (intOf iv).toNat)
  case atStart => exact ⟨0, false, _, _, _, _, _, _, _, rfl, rfl, by omega, HI0.out, HO.out⟩
  case round =>
    obtain ⟨i, no, Z, Ln, F, L, D, M, h, rfl, rfl, hi, hinv, hof⟩ := hrel
    have HV := Lib.hid hinv
    have HW := Lib.hid hof
    by_cases hlt : i < n
    · obtain ⟨p, hp⟩ : ∃ p, l[i]? = some p := ⟨_, List.getElem?_eq_getElem (by have := HN.out; omega)⟩
      have hPr : Prds wr (fun b => b < w.heap.size) A k l := HP.out.keep hof.low.size fun b _ hb => hof.low.block b hb
      have hpb := hPr.2.2.2.1 p (List.mem_of_getElem? hp)
      obtain ⟨gp, o, rfl, hQ, hg2, c0, c1, c2', c3, c4, c5⟩ := hPr.get i p hp
      have hval := fun W => rvalid p hpb.1 hpb.2 W
      rw [pv_row] at hval
      obtain ⟨pk, pm, pl, ph, pn, pu⟩ := p
      simp only at hval c0 c1 c2' c3 c4 c5
      have HI := Lib.hid hp
      have HPM := Lib.hid hpb.1
      have j0 : (0 : Int) ≤ (i : Int) := by omega
      have jl : (i : Int) < (n : Int) := by omega
      have hszA := hof.a.lt
      have hszT := hof.t.lt
      have hsz0 := hof.r.lt
      clear HI0 HO hPr hinv hof hp hpb hQ
      go_wp2_with fail
      refine (hval _).mono ?_
      rintro e w4 ⟨rfl, hb4⟩
      have hb4' : Below wr.heap.size wr w4 := ((Below.refl wr.heap.size wr).alloc (Nat.le_refl _) _).trans (hb4.mono (by simp))
      have hp4 : PRow w4 wr.heap.size pk pm pl ph pn pu := Whole.below (Whole.here _ _ _) hb4 (by simp)
      have hw4 := HW.out.below hb4' hsz0 hszA hszT
      obtain ⟨p0, p1, p2, p3, p4, p5⟩ := PRow.cells hp4
      obtain ⟨a0, a1, a2, a3, a4, a5, a6, a7⟩ := ARow.cells hw4.a
      have fa1 := Whole.frozen hw4.a 1
      have fa2 := Whole.frozen hw4.a 2
      have fa7 := Whole.frozen hw4.a 7
      have t0 := TRow.c0 hw4.t
      have t1 := TRow.c1 hw4.t
      have t2 := TRow.c2 hw4.t
      have ft0 := Whole.frozen hw4.t 0
      have ft1 := Whole.frozen hw4.t 1
      have ft2 := Whole.frozen hw4.t 2
      have HW4 := Lib.hid hw4
      have HG : Hid (¬ GA = g ∧ w.heap.size < GA ∧ w.heap.size < g ∧ ¬ wr.heap.size = g) := Lib.hid (by omega)
      have HP4 := Lib.hid hp4
      clear hval hb4 hb4' hw4 hp4 c0 c1 c2' c3 c4 c5 HW hg2 hszA hszT hsz0 a0 a3 a4 a5 a6
      by_cases hpk : pok ⟨pk, pm, pl, ph, pn, pu⟩
      case neg =>
        rw [decide_eq_false hpk]
        have HR : Hid (OfR l zeroA 5) := Lib.hid (.inr (.inl ⟨by rw [← HN.out]; omega, fun h => hpk (h _ (List.mem_of_getElem? HI.out)), rfl, rfl⟩))
        clear hpk
        go_wp2_with (with_reducible refine wpList_store_aut rfl _ _ rfl (g := w.heap.size) rfl rfl HW4.out.r (by with_unfolding_all rfl) (by with_unfolding_all rfl) (by with_unfolding_all rfl) ?_)
        refine bodyPost_ret (results_aut2 (g := w.heap.size) Tryd.results17 _ rfl _ rfl rfl (Whole.setRow HW4.out.r _)) rfl ?_
        exact ⟨⟨_, zeroA, 5, rfl, by rw [← HSN.out]; exact av_zero _ _, HR.out⟩, below_setRow HW4.out.low (Nat.le_refl _) _⟩
      rw [decide_eq_true hpk]
      have HK := Lib.hid hpk
      have hkind : pk = 1 ∨ pk = 2 ∨ pk = 3 ∨ pk = 4 ∨ pk = 5 ∨ pk = 6 ∨ pk = 7 := by have := pok_kind hpk; simp only at this; omega
      have hzl : Z < 18446744073709551616 := HV.out.zlt
      have hll : Ln < 18446744073709551616 := by have := HV.out.llt; omega
      have hdl : D < 18446744073709551616 := by have := HV.out.dlt; omega
      have hpm : pm < 18446744073709551616 := HPM.out
      have eZ : bits .and .u64 (Z : Int) (pm : Int) = ((Z &&& pm : Nat) : Int) := bits_and_u64_nat _ _ hzl hpm
      have eL : bits .and .u64 (Ln : Int) (pm : Int) = ((Ln &&& pm : Nat) : Int) := bits_and_u64_nat _ _ hll hpm
      have eD : bits .and .u64 (D : Int) (pm : Int) = ((D &&& pm : Nat) : Int) := bits_and_u64_nat _ _ hdl hpm
      clear hpk hzl hll hdl hpm
      rcases hkind with rfl | rfl | rfl | rfl | rfl | rfl | rfl
      · have HF : Hid (Ofw w (w4.setCell ⟨GA, 1, none⟩ (.int .u64 ((Z &&& pm : Nat) : Int))) GA g (.slice A2 1 c2) (Z &&& pm) Ln F L D M h) := Lib.hid (HW4.out.zones HG.out.1 HG.out.2.1 _)
        have HI2 := Lib.hid (HV.out.zone HI.out HK.out)
        clear eL eD
        go_wp2_with fail
        go_roundw
        case rel => exact ⟨i + 1, no, _, _, _, _, _, _, _, by go_num, rfl, by omega, HI2.out, HF.out⟩
        case measure => simp [intOf]; omega
      · have HF : Hid (Ofw w (w4.setCell ⟨GA, 2, none⟩ (.int .u64 ((Ln &&& pm : Nat) : Int))) GA g (.slice A2 1 c2) Z (Ln &&& pm) F L D M h) := Lib.hid (HW4.out.lines HG.out.1 HG.out.2.1 _)
        have HI2 := Lib.hid (HV.out.line HI.out HK.out)
        clear eZ eD
        go_wp2_with fail
        go_roundw
        case rel => exact ⟨i + 1, no, _, _, _, _, _, _, _, by go_num, rfl, by omega, HI2.out, HF.out⟩
        case measure => simp [intOf]; omega
      · have HF : Hid (Ofw w (w4.setCell ⟨g, 2, none⟩ (.int .u64 ((D &&& pm : Nat) : Int))).drew GA g (.slice A2 1 c2) Z Ln F L (D &&& pm) M h) := Lib.hid (HW4.out.days HG.out.1 HG.out.2.2.1 _)
        have HI2 := Lib.hid (HV.out.days HI.out HK.out)
        clear eZ eL
        go_wp2_with fail
        refine wp_region_G (fun W : World => W.cell? ⟨g, 2, none⟩ = some (.int .u64 (D : Int)) ∧ W.cell? ⟨wr.heap.size, 1, none⟩ = some (.int .u64 (pm : Int))) (fun _ => True) [10] (by kernel_rfl) ?_
        have hHeld : (fun W : World => W.cell? ⟨g, 2, none⟩ = some (.int .u64 (D : Int)) ∧ W.cell? ⟨wr.heap.size, 1, none⟩ = some (.int .u64 (pm : Int))) (w4.drew) := ⟨t2, p1⟩
        have hBeld : (fun _ => True) (w4.drew) := trivial
        apply AnyG_pure (i := 0) rfl (by kernel_rfl) (by kernel_rfl) (by kernel_rfl) (by kernel_rfl)
        case hQ => exact fun _ _ _ h => h
        case hB => exact hBeld
        case hC => exact .inr hHeld
        case hy => (refine Or.inl ⟨by rfl, ?_⟩; intro w hSw; (try go_split_ands); go_simp; (try with_reducible rfl))
        (try simp only [List.getElem_toArray, List.getElem_cons_zero, Act.put, List.setIfInBounds_toArray, List.set_cons_zero, List.set_cons_succ])
        apply AnyG_pure (i := 1) rfl (by kernel_rfl) (by kernel_rfl) (by kernel_rfl) (by kernel_rfl)
        case hQ => exact fun _ _ _ h => h
        case hB => exact hBeld
        case hC => exact .inr hHeld
        case hy => (refine Or.inl ⟨by rfl, ?_⟩; intro w hSw; (try go_split_ands); go_simp; (try with_reducible rfl))
        (try simp only [List.getElem_toArray, List.getElem_cons_succ, List.getElem_cons_zero, Act.put, List.setIfInBounds_toArray, List.set_cons_zero, List.set_cons_succ])
        apply AnyG_pure (i := 2) rfl (by kernel_rfl) (by kernel_rfl) (by kernel_rfl) (by kernel_rfl)
        case hQ => exact fun _ _ _ h => h
        case hB => exact hBeld
        case hC => exact .inr hHeld
        case hy => (refine Or.inl ⟨by rfl, ?_⟩; intro w hSw; (try go_split_ands); go_simp; (try with_reducible rfl))
        (try simp only [List.getElem_toArray, List.getElem_cons_succ, List.getElem_cons_zero, Act.put, List.setIfInBounds_toArray, List.set_cons_zero, List.set_cons_succ])
        apply AnyG_pure (i := 3) rfl (by kernel_rfl) (by kernel_rfl) (by kernel_rfl) (by kernel_rfl)
        case hQ => exact fun _ _ _ h => h
        case hB => exact hBeld
        case hC => exact .inr hHeld
        case hy => (refine Or.inl ⟨by rfl, ?_⟩; intro w hSw; (try go_split_ands); go_simp; (try with_reducible rfl))
        (try simp only [List.getElem_toArray, List.getElem_cons_succ, List.getElem_cons_zero, Act.put, List.setIfInBounds_toArray, List.set_cons_zero, List.set_cons_succ])
        apply AnyG_take (i := 4) rfl (by kernel_rfl) (by kernel_rfl) (by kernel_rfl) (by kernel_rfl)
        case hQ => exact fun _ _ _ h => h
        case hB => exact hBeld
        case hC => exact hHeld
        case hy => (refine Or.inl ⟨by rfl, ?_⟩; intro w hSw; (try go_split_ands); go_simp; (try with_reducible rfl))
        (try simp only [List.getElem_toArray, List.getElem_cons_succ, List.getElem_cons_zero, Act.put, List.setIfInBounds_toArray, List.set_cons_zero, List.set_cons_succ])
        apply AnyG_pure (i := 5) rfl (by kernel_rfl) (by kernel_rfl) (by kernel_rfl) (by kernel_rfl)
        case hQ => exact fun _ _ _ h => h
        case hB => exact hBeld
        case hC => exact .inr hHeld
        case hy => (refine Or.inl ⟨by rfl, ?_⟩; intro w hSw; (try go_split_ands); go_simp; (try with_reducible rfl))
        (try simp only [List.getElem_toArray, List.getElem_cons_succ, List.getElem_cons_zero, Act.put, List.setIfInBounds_toArray, List.set_cons_zero, List.set_cons_succ])
        apply AnyG_take (i := 6) rfl (by kernel_rfl) (by kernel_rfl) (by kernel_rfl) (by kernel_rfl)
        case hQ => exact fun _ _ _ h => h
        case hB => exact hBeld
        case hC => exact hHeld
        case hy => (refine Or.inl ⟨by rfl, ?_⟩; intro w hSw; (try go_split_ands); go_simp; (try with_reducible rfl))
        (try simp only [List.getElem_toArray, List.getElem_cons_succ, List.getElem_cons_zero, Act.put, List.setIfInBounds_toArray, List.set_cons_zero, List.set_cons_succ])
        apply AnyG_pure (i := 7) rfl (by kernel_rfl) (by kernel_rfl) (by kernel_rfl) (by kernel_rfl)
        case hQ => exact fun _ _ _ h => h
        case hB => exact hBeld
        case hC => exact .inr hHeld
        case hy => (refine Or.inl ⟨by rfl, ?_⟩; intro w hSw; (try go_split_ands); go_simp; (try with_reducible rfl))
        (try simp only [List.getElem_toArray, List.getElem_cons_succ, List.getElem_cons_zero, Act.put, List.setIfInBounds_toArray, List.set_cons_zero, List.set_cons_succ])
        apply AnyG_pure (i := 8) rfl (by kernel_rfl) (by kernel_rfl) (by kernel_rfl) (by kernel_rfl)
        case hQ => exact fun _ _ _ h => h
        case hB => exact hBeld
        case hC => exact .inr hHeld
        case hy => (refine Or.inl ⟨by rfl, ?_⟩; intro w hSw; (try go_split_ands); go_simp; (try with_reducible rfl))
        (try simp only [List.getElem_toArray, List.getElem_cons_succ, List.getElem_cons_zero, Act.put, List.setIfInBounds_toArray, List.set_cons_zero, List.set_cons_succ])
        apply AnyG_pure (i := 9) rfl (by kernel_rfl) (by kernel_rfl) (by kernel_rfl) (by kernel_rfl)
        case hQ => exact fun _ _ _ h => h
        case hB => exact hBeld
        case hC => exact .inr hHeld
        case hy => (refine Or.inl ⟨by rfl, ?_⟩; intro w hSw; (try go_split_ands); go_simp; (try with_reducible rfl))
        (try simp only [List.getElem_toArray, List.getElem_cons_succ, List.getElem_cons_zero, Act.put, List.setIfInBounds_toArray, List.set_cons_zero, List.set_cons_succ])
        refine AnyG_one (i := 10) (by kernel_rfl) rfl (fun K hK => ?_)
        (try simp only [List.getElem_toArray, List.getElem_cons_succ, List.getElem_cons_zero])
        go_simp
        clear hHeld
        refine hK.out _ _ (.inl (by kernel_rfl)) (trivial) ?_
        clear hK K
        (try simp only [List.getElem_toArray, List.getElem_cons_succ, List.getElem_cons_zero, Act.put, List.setIfInBounds_toArray, List.set_cons_zero, List.set_cons_succ])
        refine AnyG_done (by kernel_rfl) ?_ _
        clear hBeld
        go_wp2_with fail
        go_roundw
        case rel => exact ⟨i + 1, no, _, _, _, _, _, _, _, by go_num, rfl, by omega, HI2.out, HF.out⟩
        case measure => simp [intOf]; omega
      · have hb4 : 0 ≤ pl ∧ pl ≤ ph ∧ ph ≤ 67108864 := by have := HK.out; unfold pok at this; simp at this; omega
        obtain ⟨lo, rfl⟩ : ∃ n : Nat, pl = n := ⟨pl.toNat, by omega⟩
        obtain ⟨hi', rfl⟩ : ∃ n : Nat, ph = n := ⟨ph.toNat, by omega⟩
        have eF : (if F < lo then (lo : Int) else (F : Int)) = ((max F lo : Nat) : Int) := by split <;> omega
        have eT : (if hi' < L then (hi' : Int) else (L : Int)) = ((min L hi' : Nat) : Int) := by split <;> omega
        have HI2 := Lib.hid (HV.out.time HI.out HK.out)
        simp only [Int.toNat_natCast] at HI2
        obtain ⟨F', hF'⟩ : ∃ n, n = max F lo := ⟨_, rfl⟩
        obtain ⟨L', hL'⟩ : ∃ n, n = min L hi' := ⟨_, rfl⟩
        rw [← hF'] at eF HI2
        rw [← hL'] at eT HI2
        have HF : Hid (Ofw w ((w4.setCell ⟨g, 0, none⟩ (.int .i64 (F' : Int))).setCell ⟨g, 1, none⟩ (.int .i64 (L' : Int))).drew GA g (.slice A2 1 c2) Z Ln F' L' D M h) := Lib.hid (HW4.out.span HG.out.1 HG.out.2.2.1 _ _)
        have hB1 : (w4.setCell ⟨g, 0, none⟩ (.int .i64 (F' : Int))).drew.cell? ⟨wr.heap.size, 2, none⟩ = some (.int .i64 (lo : Int)) ∧ (w4.setCell ⟨g, 0, none⟩ (.int .i64 (F' : Int))).drew.cell? ⟨wr.heap.size, 3, none⟩ = some (.int .i64 (hi' : Int)) := ⟨(World.cell?_setCell_far _ _ _ _ (fun e => HG.out.2.2.2 e.symm)).trans p2, (World.cell?_setCell_far _ _ _ _ (fun e => HG.out.2.2.2 e.symm)).trans p3⟩
        have hB2 : ((w4.setCell ⟨g, 0, none⟩ (.int .i64 (F' : Int))).setCell ⟨g, 1, none⟩ (.int .i64 (L' : Int))).drew.cell? ⟨wr.heap.size, 2, none⟩ = some (.int .i64 (lo : Int)) ∧ ((w4.setCell ⟨g, 0, none⟩ (.int .i64 (F' : Int))).setCell ⟨g, 1, none⟩ (.int .i64 (L' : Int))).drew.cell? ⟨wr.heap.size, 3, none⟩ = some (.int .i64 (hi' : Int)) := ⟨(World.cell?_setCell_far _ _ _ _ (fun e => HG.out.2.2.2 e.symm)).trans hB1.1, (World.cell?_setCell_far _ _ _ _ (fun e => HG.out.2.2.2 e.symm)).trans hB1.2⟩
        have HB1 := Lib.hid hB1
        have HB2 := Lib.hid hB2
        clear eZ eL eD hb4 hF' hL' hB1 hB2
        go_wp2_with fail
        refine wp_region_G (fun W : World => W.cell? ⟨g, 0, none⟩ = some (.int .i64 (F : Int)) ∧ W.cell? ⟨g, 1, none⟩ = some (.int .i64 (L : Int))) (fun W : World => W.cell? ⟨wr.heap.size, 2, none⟩ = some (.int .i64 (lo : Int)) ∧ W.cell? ⟨wr.heap.size, 3, none⟩ = some (.int .i64 (hi' : Int))) [18] (by kernel_rfl) ?_
        have hHeld : (fun W : World => W.cell? ⟨g, 0, none⟩ = some (.int .i64 (F : Int)) ∧ W.cell? ⟨g, 1, none⟩ = some (.int .i64 (L : Int))) (w4.drew) := ⟨t0, t1⟩
        have hBeld : (fun W : World => W.cell? ⟨wr.heap.size, 2, none⟩ = some (.int .i64 (lo : Int)) ∧ W.cell? ⟨wr.heap.size, 3, none⟩ = some (.int .i64 (hi' : Int))) (w4.drew) := ⟨p2, p3⟩
        apply AnyG_pure (i := 0) rfl (by kernel_rfl) (by kernel_rfl) (by kernel_rfl) (by kernel_rfl)
        case hQ => exact fun _ _ _ h => h
        case hB => exact hBeld
        case hC => exact .inr hHeld
        case hy => (refine Or.inl ⟨by rfl, ?_⟩; intro w hSw; (try go_split_ands); go_simp; (try with_reducible rfl))
        (try simp only [List.getElem_toArray, List.getElem_cons_zero, Act.put, List.setIfInBounds_toArray, List.set_cons_zero, List.set_cons_succ])
        apply AnyG_pure (i := 1) rfl (by kernel_rfl) (by kernel_rfl) (by kernel_rfl) (by kernel_rfl)
        case hQ => exact fun _ _ _ h => h
        case hB => exact hBeld
        case hC => exact .inr hHeld
        case hy => (refine Or.inl ⟨by rfl, ?_⟩; intro w hSw; (try go_split_ands); go_simp; (try with_reducible rfl))
        (try simp only [List.getElem_toArray, List.getElem_cons_succ, List.getElem_cons_zero, Act.put, List.setIfInBounds_toArray, List.set_cons_zero, List.set_cons_succ])
        apply AnyG_pure (i := 2) rfl (by kernel_rfl) (by kernel_rfl) (by kernel_rfl) (by kernel_rfl)
        case hQ => exact fun _ _ _ h => h
        case hB => exact hBeld
        case hC => exact .inr hHeld
        case hy => (refine Or.inl ⟨by rfl, ?_⟩; intro w hSw; (try go_split_ands); go_simp; (try with_reducible rfl))
        (try simp only [List.getElem_toArray, List.getElem_cons_succ, List.getElem_cons_zero, Act.put, List.setIfInBounds_toArray, List.set_cons_zero, List.set_cons_succ])
        apply AnyG_pure (i := 3) rfl (by kernel_rfl) (by kernel_rfl) (by kernel_rfl) (by kernel_rfl)
        case hQ => exact fun _ _ _ h => h
        case hB => exact hBeld
        case hC => exact .inr hHeld
        case hy => (refine Or.inl ⟨by rfl, ?_⟩; intro w hSw; (try go_split_ands); go_simp; (try with_reducible rfl))
        (try simp only [List.getElem_toArray, List.getElem_cons_succ, List.getElem_cons_zero, Act.put, List.setIfInBounds_toArray, List.set_cons_zero, List.set_cons_succ])
        apply AnyG_pure (i := 4) rfl (by kernel_rfl) (by kernel_rfl) (by kernel_rfl) (by kernel_rfl)
        case hQ => exact fun _ _ _ h => h
        case hB => exact hBeld
        case hC => exact .inr hHeld
        case hy => (refine Or.inl ⟨by rfl, ?_⟩; intro w hSw; (try go_split_ands); go_simp; (try with_reducible rfl))
        (try simp only [List.getElem_toArray, List.getElem_cons_succ, List.getElem_cons_zero, Act.put, List.setIfInBounds_toArray, List.set_cons_zero, List.set_cons_succ])
        apply AnyG_take (i := 5) rfl (by kernel_rfl) (by kernel_rfl) (by kernel_rfl) (by kernel_rfl)
        case hQ => exact fun _ _ _ h => h
        case hB => exact hBeld
        case hC => exact hHeld
        case hy => (refine Or.inl ⟨by rfl, ?_⟩; intro w hSw; (try go_split_ands); go_simp; (try with_reducible rfl))
        (try simp only [List.getElem_toArray, List.getElem_cons_succ, List.getElem_cons_zero, Act.put, List.setIfInBounds_toArray, List.set_cons_zero, List.set_cons_succ])
        apply AnyG_pure (i := 6) rfl (by kernel_rfl) (by kernel_rfl) (by kernel_rfl) (by kernel_rfl)
        case hQ => exact fun _ _ _ h => h
        case hB => exact hBeld
        case hC => exact .inr hHeld
        case hy => (refine Or.inl ⟨by rfl, ?_⟩; intro w hSw; (try go_split_ands); go_simp; (try with_reducible rfl))
        (try simp only [List.getElem_toArray, List.getElem_cons_succ, List.getElem_cons_zero, Act.put, List.setIfInBounds_toArray, List.set_cons_zero, List.set_cons_succ])
        apply AnyG_pure (i := 7) rfl (by kernel_rfl) (by kernel_rfl) (by kernel_rfl) (by kernel_rfl)
        case hQ => exact fun _ _ _ h => h
        case hB => exact hBeld
        case hC => exact .inr hHeld
        case hy => (refine Or.inl ⟨by rfl, ?_⟩; intro w hSw; (try go_split_ands); go_simp; (try with_reducible rfl))
        (try simp only [List.getElem_toArray, List.getElem_cons_succ, List.getElem_cons_zero, Act.put, List.setIfInBounds_toArray, List.set_cons_zero, List.set_cons_succ])
        apply AnyG_pure (i := 8) rfl (by kernel_rfl) (by kernel_rfl) (by kernel_rfl) (by kernel_rfl)
        case hQ => exact fun _ _ _ h => h
        case hB => exact hBeld
        case hC => exact .inr hHeld
        case hy => (refine Or.inl ⟨by rfl, ?_⟩; intro w hSw; (try go_split_ands); go_simp; (try with_reducible rfl))
        (try simp only [List.getElem_toArray, List.getElem_cons_succ, List.getElem_cons_zero, Act.put, List.setIfInBounds_toArray, List.set_cons_zero, List.set_cons_succ])
        apply AnyG_pure (i := 9) rfl (by kernel_rfl) (by kernel_rfl) (by kernel_rfl) (by kernel_rfl)
        case hQ => exact fun _ _ _ h => h
        case hB => exact hBeld
        case hC => exact .inr hHeld
        case hy => (refine Or.inl ⟨by rfl, ?_⟩; intro w hSw; (try go_split_ands); go_simp; (try with_reducible rfl))
        (try simp only [List.getElem_toArray, List.getElem_cons_succ, List.getElem_cons_zero, Act.put, List.setIfInBounds_toArray, List.set_cons_zero, List.set_cons_succ])
        apply AnyG_pure (i := 10) rfl (by kernel_rfl) (by kernel_rfl) (by kernel_rfl) (by kernel_rfl)
        case hQ => exact fun _ _ _ h => h
        case hB => exact hBeld
        case hC => exact .inr hHeld
        case hy => (refine Or.inl ⟨by rfl, ?_⟩; intro w hSw; (try go_split_ands); go_simp; (try with_reducible rfl))
        (try simp only [List.getElem_toArray, List.getElem_cons_succ, List.getElem_cons_zero, Act.put, List.setIfInBounds_toArray, List.set_cons_zero, List.set_cons_succ])
        apply AnyG_pure (i := 11) rfl (by kernel_rfl) (by kernel_rfl) (by kernel_rfl) (by kernel_rfl)
        case hQ => exact fun _ _ _ h => h
        case hB => exact hBeld
        case hC => exact .inr hHeld
        case hy => (refine Or.inl ⟨by rfl, ?_⟩; intro w hSw; (try go_split_ands); go_simp; (try with_reducible rfl))
        (try simp only [List.getElem_toArray, List.getElem_cons_succ, List.getElem_cons_zero, Act.put, List.setIfInBounds_toArray, List.set_cons_zero, List.set_cons_succ])
        apply AnyG_take (i := 12) rfl (by kernel_rfl) (by kernel_rfl) (by kernel_rfl) (by kernel_rfl)
        case hQ => exact fun _ _ _ h => h
        case hB => exact hBeld
        case hC => exact hHeld
        case hy => (refine Or.inl ⟨by rfl, ?_⟩; intro w hSw; (try go_split_ands); go_simp; (try with_reducible rfl))
        (try simp only [List.getElem_toArray, List.getElem_cons_succ, List.getElem_cons_zero, Act.put, List.setIfInBounds_toArray, List.set_cons_zero, List.set_cons_succ])
        apply AnyG_pure (i := 13) rfl (by kernel_rfl) (by kernel_rfl) (by kernel_rfl) (by kernel_rfl)
        case hQ => exact fun _ _ _ h => h
        case hB => exact hBeld
        case hC => exact .inr hHeld
        case hy => (refine Or.inl ⟨by rfl, ?_⟩; intro w hSw; (try go_split_ands); go_simp; (try with_reducible rfl))
        (try simp only [List.getElem_toArray, List.getElem_cons_succ, List.getElem_cons_zero, Act.put, List.setIfInBounds_toArray, List.set_cons_zero, List.set_cons_succ])
        apply AnyG_pure (i := 14) rfl (by kernel_rfl) (by kernel_rfl) (by kernel_rfl) (by kernel_rfl)
        case hQ => exact fun _ _ _ h => h
        case hB => exact hBeld
        case hC => exact .inr hHeld
        case hy => (refine Or.inl ⟨by rfl, ?_⟩; intro w hSw; (try go_split_ands); go_simp; (try with_reducible rfl))
        (try simp only [List.getElem_toArray, List.getElem_cons_succ, List.getElem_cons_zero, Act.put, List.setIfInBounds_toArray, List.set_cons_zero, List.set_cons_succ])
        apply AnyG_pure (i := 15) rfl (by kernel_rfl) (by kernel_rfl) (by kernel_rfl) (by kernel_rfl)
        case hQ => exact fun _ _ _ h => h
        case hB => exact hBeld
        case hC => exact .inr hHeld
        case hy => (refine Or.inl ⟨by rfl, ?_⟩; intro w hSw; (try go_split_ands); go_simp; (try with_reducible rfl))
        (try simp only [List.getElem_toArray, List.getElem_cons_succ, List.getElem_cons_zero, Act.put, List.setIfInBounds_toArray, List.set_cons_zero, List.set_cons_succ])
        apply AnyG_pure (i := 16) rfl (by kernel_rfl) (by kernel_rfl) (by kernel_rfl) (by kernel_rfl)
        case hQ => exact fun _ _ _ h => h
        case hB => exact hBeld
        case hC => exact .inr hHeld
        case hy => (refine Or.inl ⟨by rfl, ?_⟩; intro w hSw; (try go_split_ands); go_simp; (try with_reducible rfl))
        (try simp only [List.getElem_toArray, List.getElem_cons_succ, List.getElem_cons_zero, Act.put, List.setIfInBounds_toArray, List.set_cons_zero, List.set_cons_succ])
        apply AnyG_pure (i := 17) rfl (by kernel_rfl) (by kernel_rfl) (by kernel_rfl) (by kernel_rfl)
        case hQ => exact fun _ _ _ h => h
        case hB => exact hBeld
        case hC => exact .inr hHeld
        case hy => (refine Or.inl ⟨by rfl, ?_⟩; intro w hSw; (try go_split_ands); go_simp; (try with_reducible rfl))
        (try simp only [List.getElem_toArray, List.getElem_cons_succ, List.getElem_cons_zero, Act.put, List.setIfInBounds_toArray, List.set_cons_zero, List.set_cons_succ])
        refine AnyG_one (i := 18) (by kernel_rfl) rfl (fun K hK => ?_)
        (try simp only [List.getElem_toArray, List.getElem_cons_succ, List.getElem_cons_zero])
        go_simp
        clear hHeld
        refine hK.out _ _ (.inl (by kernel_rfl)) (by first | exact HB1.out | exact HB2.out) ?_
        clear hK K
        (try simp only [List.getElem_toArray, List.getElem_cons_succ, List.getElem_cons_zero, Act.put, List.setIfInBounds_toArray, List.set_cons_zero, List.set_cons_succ])
        apply AnyG_pure (i := 19) rfl (by kernel_rfl) (by kernel_rfl) (by kernel_rfl) (by kernel_rfl)
        case hQ => exact fun _ _ _ h => h
        case hB => exact (by first | exact HB1.out | exact HB2.out)
        case hC => exact .inl (by kernel_rfl)
        case hy => (refine Or.inl ⟨by rfl, ?_⟩; intro w hSw; (try go_split_ands); go_simp; (try with_reducible rfl))
        (try simp only [List.getElem_toArray, List.getElem_cons_succ, List.getElem_cons_zero, Act.put, List.setIfInBounds_toArray, List.set_cons_zero, List.set_cons_succ])
        apply AnyG_pure (i := 20) rfl (by kernel_rfl) (by kernel_rfl) (by kernel_rfl) (by kernel_rfl)
        case hQ => exact fun _ _ _ h => h
        case hB => exact (by first | exact HB1.out | exact HB2.out)
        case hC => exact .inl (by kernel_rfl)
        case hy => (refine Or.inl ⟨by rfl, ?_⟩; intro w hSw; (try go_split_ands); go_simp; (try with_reducible rfl))
        (try simp only [List.getElem_toArray, List.getElem_cons_succ, List.getElem_cons_zero, Act.put, List.setIfInBounds_toArray, List.set_cons_zero, List.set_cons_succ])
        refine AnyG_one (i := 21) (by kernel_rfl) rfl (fun K hK => ?_)
        (try simp only [List.getElem_toArray, List.getElem_cons_succ, List.getElem_cons_zero])
        go_simp
        refine hK.out _ _ (.inl (by kernel_rfl)) (by first | exact HB1.out | exact HB2.out) ?_
        clear hK K
        (try simp only [List.getElem_toArray, List.getElem_cons_succ, List.getElem_cons_zero, Act.put, List.setIfInBounds_toArray, List.set_cons_zero, List.set_cons_succ])
        refine AnyG_done (by kernel_rfl) ?_ _
        clear hBeld
        go_wp2_with fail
        go_roundw
        case rel => exact ⟨i + 1, no, _, _, _, _, _, _, _, by go_num, rfl, by omega, HI2.out, HF.out⟩
        case measure => simp [intOf]; omega
      · have hb5 : 0 ≤ pl ∧ pl < 1440 ∧ 0 ≤ ph ∧ ph < 1440 := by have := HK.out; unfold pok at this; simp at this; omega
        obtain ⟨lo, rfl⟩ : ∃ n : Nat, pl = n := ⟨pl.toNat, by omega⟩
        obtain ⟨hi', rfl⟩ : ∃ n : Nat, ph = n := ⟨ph.toNat, by omega⟩
        have HI2 := Lib.hid (HV.out.daily HI.out HK.out)
        clear eZ eL eD hb5 a1 a2 a7 fa1 fa2 fa7 t0 t1 t2 ft0 ft1 ft2 p2 p3 p4 p5
        go_wp2_with fail
        go_loopw [9] (fun kv wx => ∃ k : Nat, kv = .int .i64 k ∧ k ≤ 1440 ∧ Ofw w wx GA g (.slice A2 1 c2) Z Ln F L D (fun j => if j < k then M j && dly lo hi' j else M j) h ∧ PRow wx wr.heap.size 5 pm lo hi' pn pu) (fun kv _ => 1440 - (intOf kv).toNat)
        case atStart => exact ⟨0, rfl, by omega, HW4.out.congr fun j _ => by simp, HP4.out⟩
        case round =>
          obtain ⟨k, rfl, hk, hof, hpr⟩ := hrel
          rename World => wx
          clear HW4 HP4 p0 p1
          obtain ⟨p0, p1, p2, p3, p4, p5⟩ := PRow.cells hpr
          clear p0 p1 p4 p5
          by_cases hk4 : k < 1440
          · have cm := hof.t.m k hk4
            have fm := Whole.frozen hof.t (3 + k)
            simp only [Nat.lt_irrefl, if_false] at cm
            have k0 : (0 : Int) ≤ (k : Int) := by omega
            have k1 : (k : Int) < 1440 := by omega
            obtain ⟨V, hV⟩ : ∃ V, V = (M k && dly lo hi' k) := ⟨_, rfl⟩
            have HW : Hid (Ofw w (wx.setCell ⟨g, 3 + k, none⟩ (.bool V)).drew GA g (.slice A2 1 c2) Z Ln F L D (fun j => if j < k + 1 then M j && dly lo hi' j else M j) h ∧ PRow (wx.setCell ⟨g, 3 + k, none⟩ (.bool V)).drew wr.heap.size 5 pm lo hi' pn pu) := Lib.hid ⟨(hof.flag HG.out.1 HG.out.2.2.1 k hk4 V).congr fun j _ => by
              by_cases e : j = k
              · subst e; rw [if_pos rfl, if_pos (by omega), hV]
              · rw [if_neg e]
                by_cases h : j < k
                · rw [if_pos h, if_pos (by omega)]
                · rw [if_neg h, if_neg (by omega)], Whole.far hpr (a := ⟨g, 3 + k, none⟩) HG.out.2.2.2 _⟩
            generalize M k = X at *
            have hdl : dly lo hi' k = (if lo ≤ hi' then decide (lo ≤ k) && decide (k ≤ hi') else decide (lo ≤ k) || decide (k ≤ hi')) := by
              unfold dly
              by_cases e : lo ≤ hi'
              · rw [if_pos e, if_pos (by omega), ← Bool.decide_and]; exact decide_eq_decide.2 (by omega)
              · rw [if_neg e, if_neg (by omega), ← Bool.decide_or]; exact decide_eq_decide.2 (by omega)
            rw [hdl] at hV
            clear hdl hof hpr
            go_wp2_with fail
            cases X
            case' false =>
              obtain rfl : V = false := hV
              as_aux_lemma =>
                refine wp_region_G (fun W : World => W.cell? ⟨g, 3 + k, none⟩ = some (.bool false) ∧ W.cell? ⟨wr.heap.size, 2, none⟩ = some (.int .i64 (lo : Int)) ∧ W.cell? ⟨wr.heap.size, 3, none⟩ = some (.int .i64 (hi' : Int))) (fun _ => True) [49] (by kernel_rfl) ?_
                have hHeld : (fun W : World => W.cell? ⟨g, 3 + k, none⟩ = some (.bool false) ∧ W.cell? ⟨wr.heap.size, 2, none⟩ = some (.int .i64 (lo : Int)) ∧ W.cell? ⟨wr.heap.size, 3, none⟩ = some (.int .i64 (hi' : Int))) (wx.drew) := ⟨cm, p2, p3⟩
                have hBeld : (fun _ => True) (wx.drew) := trivial
                apply AnyG_pure (i := 0) rfl (by kernel_rfl) (by kernel_rfl) (by kernel_rfl) (by kernel_rfl)
                case hQ => exact fun _ _ _ h => h
                case hB => exact hBeld
                case hC => exact .inr hHeld
                case hy => (refine Or.inl ⟨by rfl, ?_⟩; intro w hSw; (try go_split_ands); go_simp; (try with_reducible rfl))
                (try simp only [List.getElem_toArray, List.getElem_cons_zero, Act.put, List.setIfInBounds_toArray, List.set_cons_zero, List.set_cons_succ])
                apply AnyG_pure (i := 1) rfl (by kernel_rfl) (by kernel_rfl) (by kernel_rfl) (by kernel_rfl)
                case hQ => exact fun _ _ _ h => h
                case hB => exact hBeld
                case hC => exact .inr hHeld
                case hy => (refine Or.inl ⟨by rfl, ?_⟩; intro w hSw; (try go_split_ands); go_simp; (try with_reducible rfl))
                (try simp only [List.getElem_toArray, List.getElem_cons_succ, List.getElem_cons_zero, Act.put, List.setIfInBounds_toArray, List.set_cons_zero, List.set_cons_succ])
                apply AnyG_pure (i := 2) rfl (by kernel_rfl) (by kernel_rfl) (by kernel_rfl) (by kernel_rfl)
                case hQ => exact fun _ _ _ h => h
                case hB => exact hBeld
                case hC => exact .inr hHeld
                case hy => (refine Or.inl ⟨by rfl, ?_⟩; intro w hSw; (try go_split_ands); go_simp; (try with_reducible rfl))
                (try simp only [List.getElem_toArray, List.getElem_cons_succ, List.getElem_cons_zero, Act.put, List.setIfInBounds_toArray, List.set_cons_zero, List.set_cons_succ])
                apply AnyG_pure (i := 3) rfl (by kernel_rfl) (by kernel_rfl) (by kernel_rfl) (by kernel_rfl)
                case hQ => exact fun _ _ _ h => h
                case hB => exact hBeld
                case hC => exact .inr hHeld
                case hy => (refine Or.inl ⟨by rfl, ?_⟩; intro w hSw; (try go_split_ands); go_simp; (try with_reducible rfl))
                (try simp only [List.getElem_toArray, List.getElem_cons_succ, List.getElem_cons_zero, Act.put, List.setIfInBounds_toArray, List.set_cons_zero, List.set_cons_succ])
                apply AnyG_pure (i := 4) rfl (by kernel_rfl) (by kernel_rfl) (by kernel_rfl) (by kernel_rfl)
                case hQ => exact fun _ _ _ h => h
                case hB => exact hBeld
                case hC => exact .inr hHeld
                case hy => (refine Or.inl ⟨by rfl, ?_⟩; intro w hSw; (try go_split_ands); go_simp; (try with_reducible rfl))
                (try simp only [List.getElem_toArray, List.getElem_cons_succ, List.getElem_cons_zero, Act.put, List.setIfInBounds_toArray, List.set_cons_zero, List.set_cons_succ])
                apply AnyG_pure (i := 5) rfl (by kernel_rfl) (by kernel_rfl) (by kernel_rfl) (by kernel_rfl)
                case hQ => exact fun _ _ _ h => h
                case hB => exact hBeld
                case hC => exact .inr hHeld
                case hy => (refine Or.inl ⟨by rfl, ?_⟩; intro w hSw; (try go_split_ands); go_simp; (try with_reducible rfl))
                (try simp only [List.getElem_toArray, List.getElem_cons_succ, List.getElem_cons_zero, Act.put, List.setIfInBounds_toArray, List.set_cons_zero, List.set_cons_succ])
                apply AnyG_pure (i := 6) rfl (by kernel_rfl) (by kernel_rfl) (by kernel_rfl) (by kernel_rfl)
                case hQ => exact fun _ _ _ h => h
                case hB => exact hBeld
                case hC => exact .inr hHeld
                case hy => (refine Or.inl ⟨by rfl, ?_⟩; intro w hSw; (try go_split_ands); go_simp; (try with_reducible rfl))
                (try simp only [List.getElem_toArray, List.getElem_cons_succ, List.getElem_cons_zero, Act.put, List.setIfInBounds_toArray, List.set_cons_zero, List.set_cons_succ])
                apply AnyG_take (i := 7) rfl (by kernel_rfl) (by kernel_rfl) (by kernel_rfl) (by kernel_rfl)
                case hQ => exact fun _ _ _ h => h
                case hB => exact hBeld
                case hC => exact hHeld
                case hy => (refine Or.inl ⟨by rfl, ?_⟩; intro w hSw; (try go_split_ands); go_simp; (try with_reducible rfl))
                (try simp only [List.getElem_toArray, List.getElem_cons_succ, List.getElem_cons_zero, Act.put, List.setIfInBounds_toArray, List.set_cons_zero, List.set_cons_succ])
                apply AnyG_pure (i := 8) rfl (by kernel_rfl) (by kernel_rfl) (by kernel_rfl) (by kernel_rfl)
                case hQ => exact fun _ _ _ h => h
                case hB => exact hBeld
                case hC => exact .inr hHeld
                case hy => (refine Or.inl ⟨by rfl, ?_⟩; intro w hSw; (try go_split_ands); go_simp; (try with_reducible rfl))
                (try simp only [List.getElem_toArray, List.getElem_cons_succ, List.getElem_cons_zero, Act.put, List.setIfInBounds_toArray, List.set_cons_zero, List.set_cons_succ])
                apply AnyG_pure (i := 9) rfl (by kernel_rfl) (by kernel_rfl) (by kernel_rfl) (by kernel_rfl)
                case hQ => exact fun _ _ _ h => h
                case hB => exact hBeld
                case hC => exact .inr hHeld
                case hy => exact Or.inr ⟨by rfl, rfl⟩
                (try simp only [List.getElem_toArray, List.getElem_cons_succ, List.getElem_cons_zero, Act.put, List.setIfInBounds_toArray, List.set_cons_zero, List.set_cons_succ])
                apply AnyG_pure (i := 10) rfl (by kernel_rfl) (by kernel_rfl) (by kernel_rfl) (by kernel_rfl)
                case hQ => exact fun _ _ _ h => h
                case hB => exact hBeld
                case hC => exact .inr hHeld
                case hy => exact Or.inr ⟨by rfl, rfl⟩
                (try simp only [List.getElem_toArray, List.getElem_cons_succ, List.getElem_cons_zero, Act.put, List.setIfInBounds_toArray, List.set_cons_zero, List.set_cons_succ])
                apply AnyG_pure (i := 11) rfl (by kernel_rfl) (by kernel_rfl) (by kernel_rfl) (by kernel_rfl)
                case hQ => exact fun _ _ _ h => h
                case hB => exact hBeld
                case hC => exact .inr hHeld
                case hy => exact Or.inr ⟨by rfl, rfl⟩
                (try simp only [List.getElem_toArray, List.getElem_cons_succ, List.getElem_cons_zero, Act.put, List.setIfInBounds_toArray, List.set_cons_zero, List.set_cons_succ])
                apply AnyG_pure (i := 12) rfl (by kernel_rfl) (by kernel_rfl) (by kernel_rfl) (by kernel_rfl)
                case hQ => exact fun _ _ _ h => h
                case hB => exact hBeld
                case hC => exact .inr hHeld
                case hy => exact Or.inr ⟨by rfl, rfl⟩
                (try simp only [List.getElem_toArray, List.getElem_cons_succ, List.getElem_cons_zero, Act.put, List.setIfInBounds_toArray, List.set_cons_zero, List.set_cons_succ])
                apply AnyG_pure (i := 13) rfl (by kernel_rfl) (by kernel_rfl) (by kernel_rfl) (by kernel_rfl)
                case hQ => exact fun _ _ _ h => h
                case hB => exact hBeld
                case hC => exact .inr hHeld
                case hy => exact Or.inr ⟨by rfl, rfl⟩
                (try simp only [List.getElem_toArray, List.getElem_cons_succ, List.getElem_cons_zero, Act.put, List.setIfInBounds_toArray, List.set_cons_zero, List.set_cons_succ])
                apply AnyG_pure (i := 14) rfl (by kernel_rfl) (by kernel_rfl) (by kernel_rfl) (by kernel_rfl)
                case hQ => exact fun _ _ _ h => h
                case hB => exact hBeld
                case hC => exact .inr hHeld
                case hy => exact Or.inr ⟨by rfl, rfl⟩
                (try simp only [List.getElem_toArray, List.getElem_cons_succ, List.getElem_cons_zero, Act.put, List.setIfInBounds_toArray, List.set_cons_zero, List.set_cons_succ])
                apply AnyG_pure (i := 15) rfl (by kernel_rfl) (by kernel_rfl) (by kernel_rfl) (by kernel_rfl)
                case hQ => exact fun _ _ _ h => h
                case hB => exact hBeld
                case hC => exact .inr hHeld
                case hy => exact Or.inr ⟨by rfl, rfl⟩
                (try simp only [List.getElem_toArray, List.getElem_cons_succ, List.getElem_cons_zero, Act.put, List.setIfInBounds_toArray, List.set_cons_zero, List.set_cons_succ])
                apply AnyG_pure (i := 16) rfl (by kernel_rfl) (by kernel_rfl) (by kernel_rfl) (by kernel_rfl)
                case hQ => exact fun _ _ _ h => h
                case hB => exact hBeld
                case hC => exact .inr hHeld
                case hy => exact Or.inr ⟨by rfl, rfl⟩
                (try simp only [List.getElem_toArray, List.getElem_cons_succ, List.getElem_cons_zero, Act.put, List.setIfInBounds_toArray, List.set_cons_zero, List.set_cons_succ])
                apply AnyG_pure (i := 17) rfl (by kernel_rfl) (by kernel_rfl) (by kernel_rfl) (by kernel_rfl)
                case hQ => exact fun _ _ _ h => h
                case hB => exact hBeld
                case hC => exact .inr hHeld
                case hy => exact Or.inr ⟨by rfl, rfl⟩
                (try simp only [List.getElem_toArray, List.getElem_cons_succ, List.getElem_cons_zero, Act.put, List.setIfInBounds_toArray, List.set_cons_zero, List.set_cons_succ])
                apply AnyG_pure (i := 18) rfl (by kernel_rfl) (by kernel_rfl) (by kernel_rfl) (by kernel_rfl)
                case hQ => exact fun _ _ _ h => h
                case hB => exact hBeld
                case hC => exact .inr hHeld
                case hy => exact Or.inr ⟨by rfl, rfl⟩
                (try simp only [List.getElem_toArray, List.getElem_cons_succ, List.getElem_cons_zero, Act.put, List.setIfInBounds_toArray, List.set_cons_zero, List.set_cons_succ])
                apply AnyG_pure (i := 19) rfl (by kernel_rfl) (by kernel_rfl) (by kernel_rfl) (by kernel_rfl)
                case hQ => exact fun _ _ _ h => h
                case hB => exact hBeld
                case hC => exact .inr hHeld
                case hy => exact Or.inr ⟨by rfl, rfl⟩
                (try simp only [List.getElem_toArray, List.getElem_cons_succ, List.getElem_cons_zero, Act.put, List.setIfInBounds_toArray, List.set_cons_zero, List.set_cons_succ])
                apply AnyG_pure (i := 20) rfl (by kernel_rfl) (by kernel_rfl) (by kernel_rfl) (by kernel_rfl)
                case hQ => exact fun _ _ _ h => h
                case hB => exact hBeld
                case hC => exact .inr hHeld
                case hy => exact Or.inr ⟨by rfl, rfl⟩
                (try simp only [List.getElem_toArray, List.getElem_cons_succ, List.getElem_cons_zero, Act.put, List.setIfInBounds_toArray, List.set_cons_zero, List.set_cons_succ])
                apply AnyG_pure (i := 21) rfl (by kernel_rfl) (by kernel_rfl) (by kernel_rfl) (by kernel_rfl)
                case hQ => exact fun _ _ _ h => h
                case hB => exact hBeld
                case hC => exact .inr hHeld
                case hy => exact Or.inr ⟨by rfl, rfl⟩
                (try simp only [List.getElem_toArray, List.getElem_cons_succ, List.getElem_cons_zero, Act.put, List.setIfInBounds_toArray, List.set_cons_zero, List.set_cons_succ])
                apply AnyG_pure (i := 22) rfl (by kernel_rfl) (by kernel_rfl) (by kernel_rfl) (by kernel_rfl)
                case hQ => exact fun _ _ _ h => h
                case hB => exact hBeld
                case hC => exact .inr hHeld
                case hy => exact Or.inr ⟨by rfl, rfl⟩
                (try simp only [List.getElem_toArray, List.getElem_cons_succ, List.getElem_cons_zero, Act.put, List.setIfInBounds_toArray, List.set_cons_zero, List.set_cons_succ])
                apply AnyG_pure (i := 23) rfl (by kernel_rfl) (by kernel_rfl) (by kernel_rfl) (by kernel_rfl)
                case hQ => exact fun _ _ _ h => h
                case hB => exact hBeld
                case hC => exact .inr hHeld
                case hy => exact Or.inr ⟨by rfl, rfl⟩
                (try simp only [List.getElem_toArray, List.getElem_cons_succ, List.getElem_cons_zero, Act.put, List.setIfInBounds_toArray, List.set_cons_zero, List.set_cons_succ])
                apply AnyG_pure (i := 24) rfl (by kernel_rfl) (by kernel_rfl) (by kernel_rfl) (by kernel_rfl)
                case hQ => exact fun _ _ _ h => h
                case hB => exact hBeld
                case hC => exact .inr hHeld
                case hy => exact Or.inr ⟨by rfl, rfl⟩
                (try simp only [List.getElem_toArray, List.getElem_cons_succ, List.getElem_cons_zero, Act.put, List.setIfInBounds_toArray, List.set_cons_zero, List.set_cons_succ])
                apply AnyG_pure (i := 25) rfl (by kernel_rfl) (by kernel_rfl) (by kernel_rfl) (by kernel_rfl)
                case hQ => exact fun _ _ _ h => h
                case hB => exact hBeld
                case hC => exact .inr hHeld
                case hy => exact Or.inr ⟨by rfl, rfl⟩
                (try simp only [List.getElem_toArray, List.getElem_cons_succ, List.getElem_cons_zero, Act.put, List.setIfInBounds_toArray, List.set_cons_zero, List.set_cons_succ])
                apply AnyG_pure (i := 26) rfl (by kernel_rfl) (by kernel_rfl) (by kernel_rfl) (by kernel_rfl)
                case hQ => exact fun _ _ _ h => h
                case hB => exact hBeld
                case hC => exact .inr hHeld
                case hy => exact Or.inr ⟨by rfl, rfl⟩
                (try simp only [List.getElem_toArray, List.getElem_cons_succ, List.getElem_cons_zero, Act.put, List.setIfInBounds_toArray, List.set_cons_zero, List.set_cons_succ])
                apply AnyG_pure (i := 27) rfl (by kernel_rfl) (by kernel_rfl) (by kernel_rfl) (by kernel_rfl)
                case hQ => exact fun _ _ _ h => h
                case hB => exact hBeld
                case hC => exact .inr hHeld
                case hy => exact Or.inr ⟨by rfl, rfl⟩
                (try simp only [List.getElem_toArray, List.getElem_cons_succ, List.getElem_cons_zero, Act.put, List.setIfInBounds_toArray, List.set_cons_zero, List.set_cons_succ])
                apply AnyG_pure (i := 28) rfl (by kernel_rfl) (by kernel_rfl) (by kernel_rfl) (by kernel_rfl)
                case hQ => exact fun _ _ _ h => h
                case hB => exact hBeld
                case hC => exact .inr hHeld
                case hy => exact Or.inr ⟨by rfl, rfl⟩
                (try simp only [List.getElem_toArray, List.getElem_cons_succ, List.getElem_cons_zero, Act.put, List.setIfInBounds_toArray, List.set_cons_zero, List.set_cons_succ])
                apply AnyG_pure (i := 29) rfl (by kernel_rfl) (by kernel_rfl) (by kernel_rfl) (by kernel_rfl)
                case hQ => exact fun _ _ _ h => h
                case hB => exact hBeld
                case hC => exact .inr hHeld
                case hy => exact Or.inr ⟨by rfl, rfl⟩
                (try simp only [List.getElem_toArray, List.getElem_cons_succ, List.getElem_cons_zero, Act.put, List.setIfInBounds_toArray, List.set_cons_zero, List.set_cons_succ])
                apply AnyG_pure (i := 30) rfl (by kernel_rfl) (by kernel_rfl) (by kernel_rfl) (by kernel_rfl)
                case hQ => exact fun _ _ _ h => h
                case hB => exact hBeld
                case hC => exact .inr hHeld
                case hy => exact Or.inr ⟨by rfl, rfl⟩
                (try simp only [List.getElem_toArray, List.getElem_cons_succ, List.getElem_cons_zero, Act.put, List.setIfInBounds_toArray, List.set_cons_zero, List.set_cons_succ])
                apply AnyG_pure (i := 31) rfl (by kernel_rfl) (by kernel_rfl) (by kernel_rfl) (by kernel_rfl)
                case hQ => exact fun _ _ _ h => h
                case hB => exact hBeld
                case hC => exact .inr hHeld
                case hy => exact Or.inr ⟨by rfl, rfl⟩
                (try simp only [List.getElem_toArray, List.getElem_cons_succ, List.getElem_cons_zero, Act.put, List.setIfInBounds_toArray, List.set_cons_zero, List.set_cons_succ])
                apply AnyG_pure (i := 32) rfl (by kernel_rfl) (by kernel_rfl) (by kernel_rfl) (by kernel_rfl)
                case hQ => exact fun _ _ _ h => h
                case hB => exact hBeld
                case hC => exact .inr hHeld
                case hy => exact Or.inr ⟨by rfl, rfl⟩
                (try simp only [List.getElem_toArray, List.getElem_cons_succ, List.getElem_cons_zero, Act.put, List.setIfInBounds_toArray, List.set_cons_zero, List.set_cons_succ])
                apply AnyG_pure (i := 33) rfl (by kernel_rfl) (by kernel_rfl) (by kernel_rfl) (by kernel_rfl)
                case hQ => exact fun _ _ _ h => h
                case hB => exact hBeld
                case hC => exact .inr hHeld
                case hy => exact Or.inr ⟨by rfl, rfl⟩
                (try simp only [List.getElem_toArray, List.getElem_cons_succ, List.getElem_cons_zero, Act.put, List.setIfInBounds_toArray, List.set_cons_zero, List.set_cons_succ])
                apply AnyG_pure (i := 34) rfl (by kernel_rfl) (by kernel_rfl) (by kernel_rfl) (by kernel_rfl)
                case hQ => exact fun _ _ _ h => h
                case hB => exact hBeld
                case hC => exact .inr hHeld
                case hy => exact Or.inr ⟨by rfl, rfl⟩
                (try simp only [List.getElem_toArray, List.getElem_cons_succ, List.getElem_cons_zero, Act.put, List.setIfInBounds_toArray, List.set_cons_zero, List.set_cons_succ])
                apply AnyG_pure (i := 35) rfl (by kernel_rfl) (by kernel_rfl) (by kernel_rfl) (by kernel_rfl)
                case hQ => exact fun _ _ _ h => h
                case hB => exact hBeld
                case hC => exact .inr hHeld
                case hy => exact Or.inr ⟨by rfl, rfl⟩
                (try simp only [List.getElem_toArray, List.getElem_cons_succ, List.getElem_cons_zero, Act.put, List.setIfInBounds_toArray, List.set_cons_zero, List.set_cons_succ])
                apply AnyG_pure (i := 36) rfl (by kernel_rfl) (by kernel_rfl) (by kernel_rfl) (by kernel_rfl)
                case hQ => exact fun _ _ _ h => h
                case hB => exact hBeld
                case hC => exact .inr hHeld
                case hy => exact Or.inr ⟨by rfl, rfl⟩
                (try simp only [List.getElem_toArray, List.getElem_cons_succ, List.getElem_cons_zero, Act.put, List.setIfInBounds_toArray, List.set_cons_zero, List.set_cons_succ])
                apply AnyG_pure (i := 37) rfl (by kernel_rfl) (by kernel_rfl) (by kernel_rfl) (by kernel_rfl)
                case hQ => exact fun _ _ _ h => h
                case hB => exact hBeld
                case hC => exact .inr hHeld
                case hy => exact Or.inr ⟨by rfl, rfl⟩
                (try simp only [List.getElem_toArray, List.getElem_cons_succ, List.getElem_cons_zero, Act.put, List.setIfInBounds_toArray, List.set_cons_zero, List.set_cons_succ])
                apply AnyG_pure (i := 38) rfl (by kernel_rfl) (by kernel_rfl) (by kernel_rfl) (by kernel_rfl)
                case hQ => exact fun _ _ _ h => h
                case hB => exact hBeld
                case hC => exact .inr hHeld
                case hy => exact Or.inr ⟨by rfl, rfl⟩
                (try simp only [List.getElem_toArray, List.getElem_cons_succ, List.getElem_cons_zero, Act.put, List.setIfInBounds_toArray, List.set_cons_zero, List.set_cons_succ])
                apply AnyG_pure (i := 39) rfl (by kernel_rfl) (by kernel_rfl) (by kernel_rfl) (by kernel_rfl)
                case hQ => exact fun _ _ _ h => h
                case hB => exact hBeld
                case hC => exact .inr hHeld
                case hy => exact Or.inr ⟨by rfl, rfl⟩
                (try simp only [List.getElem_toArray, List.getElem_cons_succ, List.getElem_cons_zero, Act.put, List.setIfInBounds_toArray, List.set_cons_zero, List.set_cons_succ])
                apply AnyG_pure (i := 40) rfl (by kernel_rfl) (by kernel_rfl) (by kernel_rfl) (by kernel_rfl)
                case hQ => exact fun _ _ _ h => h
                case hB => exact hBeld
                case hC => exact .inr hHeld
                case hy => exact Or.inr ⟨by rfl, rfl⟩
                (try simp only [List.getElem_toArray, List.getElem_cons_succ, List.getElem_cons_zero, Act.put, List.setIfInBounds_toArray, List.set_cons_zero, List.set_cons_succ])
                apply AnyG_pure (i := 41) rfl (by kernel_rfl) (by kernel_rfl) (by kernel_rfl) (by kernel_rfl)
                case hQ => exact fun _ _ _ h => h
                case hB => exact hBeld
                case hC => exact .inr hHeld
                case hy => exact Or.inr ⟨by rfl, rfl⟩
                (try simp only [List.getElem_toArray, List.getElem_cons_succ, List.getElem_cons_zero, Act.put, List.setIfInBounds_toArray, List.set_cons_zero, List.set_cons_succ])
                apply AnyG_pure (i := 42) rfl (by kernel_rfl) (by kernel_rfl) (by kernel_rfl) (by kernel_rfl)
                case hQ => exact fun _ _ _ h => h
                case hB => exact hBeld
                case hC => exact .inr hHeld
                case hy => exact Or.inr ⟨by rfl, rfl⟩
                (try simp only [List.getElem_toArray, List.getElem_cons_succ, List.getElem_cons_zero, Act.put, List.setIfInBounds_toArray, List.set_cons_zero, List.set_cons_succ])
                apply AnyG_pure (i := 43) rfl (by kernel_rfl) (by kernel_rfl) (by kernel_rfl) (by kernel_rfl)
                case hQ => exact fun _ _ _ h => h
                case hB => exact hBeld
                case hC => exact .inr hHeld
                case hy => exact Or.inr ⟨by rfl, rfl⟩
                (try simp only [List.getElem_toArray, List.getElem_cons_succ, List.getElem_cons_zero, Act.put, List.setIfInBounds_toArray, List.set_cons_zero, List.set_cons_succ])
                apply AnyG_pure (i := 44) rfl (by kernel_rfl) (by kernel_rfl) (by kernel_rfl) (by kernel_rfl)
                case hQ => exact fun _ _ _ h => h
                case hB => exact hBeld
                case hC => exact .inr hHeld
                case hy => exact Or.inr ⟨by rfl, rfl⟩
                (try simp only [List.getElem_toArray, List.getElem_cons_succ, List.getElem_cons_zero, Act.put, List.setIfInBounds_toArray, List.set_cons_zero, List.set_cons_succ])
                apply AnyG_pure (i := 45) rfl (by kernel_rfl) (by kernel_rfl) (by kernel_rfl) (by kernel_rfl)
                case hQ => exact fun _ _ _ h => h
                case hB => exact hBeld
                case hC => exact .inr hHeld
                case hy => (refine Or.inl ⟨by rfl, ?_⟩; intro w hSw; (try go_split_ands); go_simp; (try with_reducible rfl))
                (try simp only [List.getElem_toArray, List.getElem_cons_succ, List.getElem_cons_zero, Act.put, List.setIfInBounds_toArray, List.set_cons_zero, List.set_cons_succ])
                apply AnyG_pure (i := 46) rfl (by kernel_rfl) (by kernel_rfl) (by kernel_rfl) (by kernel_rfl)
                case hQ => exact fun _ _ _ h => h
                case hB => exact hBeld
                case hC => exact .inr hHeld
                case hy => (refine Or.inl ⟨by rfl, ?_⟩; intro w hSw; (try go_split_ands); go_simp; (try with_reducible rfl))
                (try simp only [List.getElem_toArray, List.getElem_cons_succ, List.getElem_cons_zero, Act.put, List.setIfInBounds_toArray, List.set_cons_zero, List.set_cons_succ])
                apply AnyG_pure (i := 47) rfl (by kernel_rfl) (by kernel_rfl) (by kernel_rfl) (by kernel_rfl)
                case hQ => exact fun _ _ _ h => h
                case hB => exact hBeld
                case hC => exact .inr hHeld
                case hy => (refine Or.inl ⟨by rfl, ?_⟩; intro w hSw; (try go_split_ands); go_simp; (try with_reducible rfl))
                (try simp only [List.getElem_toArray, List.getElem_cons_succ, List.getElem_cons_zero, Act.put, List.setIfInBounds_toArray, List.set_cons_zero, List.set_cons_succ])
                apply AnyG_pure (i := 48) rfl (by kernel_rfl) (by kernel_rfl) (by kernel_rfl) (by kernel_rfl)
                case hQ => exact fun _ _ _ h => h
                case hB => exact hBeld
                case hC => exact .inr hHeld
                case hy => (refine Or.inl ⟨by rfl, ?_⟩; intro w hSw; (try go_split_ands); go_simp; (try with_reducible rfl))
                (try simp only [List.getElem_toArray, List.getElem_cons_succ, List.getElem_cons_zero, Act.put, List.setIfInBounds_toArray, List.set_cons_zero, List.set_cons_succ])
                refine AnyG_one (i := 49) (by kernel_rfl) rfl (fun K hK => ?_)
                (try simp only [List.getElem_toArray, List.getElem_cons_succ, List.getElem_cons_zero])
                go_simp
                clear hHeld
                refine hK.out _ _ (.inl (by kernel_rfl)) (trivial) ?_
                clear hK K
                (try simp only [List.getElem_toArray, List.getElem_cons_succ, List.getElem_cons_zero, Act.put, List.setIfInBounds_toArray, List.set_cons_zero, List.set_cons_succ])
                refine AnyG_done (by kernel_rfl) ?_ _
                clear hBeld
                go_wp2_with fail
                go_roundw
                case rel => exact ⟨k + 1, by go_num, by omega, HW.out.1, HW.out.2⟩
                case measure => simp [intOf]; omega
            case' true =>
              simp only [Bool.true_and] at hV
              by_cases h1 : lo ≤ hi'
              · rw [if_pos h1] at hV
                have t1 := decide_eq_true h1
                have t4 : decide (hi' < lo) = false := decide_eq_false (by omega)
                by_cases h2 : lo ≤ k
                · have t2 := decide_eq_true h2
                  by_cases h3 : k ≤ hi'
                  · have t3 := decide_eq_true h3
                    obtain rfl : V = true := by rw [hV, t2, t3]; rfl
                    clear hV h1 h2 h3
                    as_aux_lemma =>
                      refine wp_region_G (fun W : World => W.cell? ⟨g, 3 + k, none⟩ = some (.bool true) ∧ W.cell? ⟨wr.heap.size, 2, none⟩ = some (.int .i64 (lo : Int)) ∧ W.cell? ⟨wr.heap.size, 3, none⟩ = some (.int .i64 (hi' : Int))) (fun _ => True) [49] (by kernel_rfl) ?_
                      have hHeld : (fun W : World => W.cell? ⟨g, 3 + k, none⟩ = some (.bool true) ∧ W.cell? ⟨wr.heap.size, 2, none⟩ = some (.int .i64 (lo : Int)) ∧ W.cell? ⟨wr.heap.size, 3, none⟩ = some (.int .i64 (hi' : Int))) (wx.drew) := ⟨cm, p2, p3⟩
                      have hBeld : (fun _ => True) (wx.drew) := trivial
                      apply AnyG_pure (i := 0) rfl (by kernel_rfl) (by kernel_rfl) (by kernel_rfl) (by kernel_rfl)
                      case hQ => exact fun _ _ _ h => h
                      case hB => exact hBeld
                      case hC => exact .inr hHeld
                      case hy => (refine Or.inl ⟨by rfl, ?_⟩; intro w hSw; (try go_split_ands); go_simp; (try with_reducible rfl))
                      (try simp only [List.getElem_toArray, List.getElem_cons_zero, Act.put, List.setIfInBounds_toArray, List.set_cons_zero, List.set_cons_succ])
                      apply AnyG_pure (i := 1) rfl (by kernel_rfl) (by kernel_rfl) (by kernel_rfl) (by kernel_rfl)
                      case hQ => exact fun _ _ _ h => h
                      case hB => exact hBeld
                      case hC => exact .inr hHeld
                      case hy => (refine Or.inl ⟨by rfl, ?_⟩; intro w hSw; (try go_split_ands); go_simp; (try with_reducible rfl))
                      (try simp only [List.getElem_toArray, List.getElem_cons_succ, List.getElem_cons_zero, Act.put, List.setIfInBounds_toArray, List.set_cons_zero, List.set_cons_succ])
                      apply AnyG_pure (i := 2) rfl (by kernel_rfl) (by kernel_rfl) (by kernel_rfl) (by kernel_rfl)
                      case hQ => exact fun _ _ _ h => h
                      case hB => exact hBeld
                      case hC => exact .inr hHeld
                      case hy => (refine Or.inl ⟨by rfl, ?_⟩; intro w hSw; (try go_split_ands); go_simp; (try with_reducible rfl))
                      (try simp only [List.getElem_toArray, List.getElem_cons_succ, List.getElem_cons_zero, Act.put, List.setIfInBounds_toArray, List.set_cons_zero, List.set_cons_succ])
                      apply AnyG_pure (i := 3) rfl (by kernel_rfl) (by kernel_rfl) (by kernel_rfl) (by kernel_rfl)
                      case hQ => exact fun _ _ _ h => h
                      case hB => exact hBeld
                      case hC => exact .inr hHeld
                      case hy => (refine Or.inl ⟨by rfl, ?_⟩; intro w hSw; (try go_split_ands); go_simp; (try with_reducible rfl))
                      (try simp only [List.getElem_toArray, List.getElem_cons_succ, List.getElem_cons_zero, Act.put, List.setIfInBounds_toArray, List.set_cons_zero, List.set_cons_succ])
                      apply AnyG_pure (i := 4) rfl (by kernel_rfl) (by kernel_rfl) (by kernel_rfl) (by kernel_rfl)
                      case hQ => exact fun _ _ _ h => h
                      case hB => exact hBeld
                      case hC => exact .inr hHeld
                      case hy => (refine Or.inl ⟨by rfl, ?_⟩; intro w hSw; (try go_split_ands); go_simp; (try with_reducible rfl))
                      (try simp only [List.getElem_toArray, List.getElem_cons_succ, List.getElem_cons_zero, Act.put, List.setIfInBounds_toArray, List.set_cons_zero, List.set_cons_succ])
                      apply AnyG_pure (i := 5) rfl (by kernel_rfl) (by kernel_rfl) (by kernel_rfl) (by kernel_rfl)
                      case hQ => exact fun _ _ _ h => h
                      case hB => exact hBeld
                      case hC => exact .inr hHeld
                      case hy => (refine Or.inl ⟨by rfl, ?_⟩; intro w hSw; (try go_split_ands); go_simp; (try with_reducible rfl))
                      (try simp only [List.getElem_toArray, List.getElem_cons_succ, List.getElem_cons_zero, Act.put, List.setIfInBounds_toArray, List.set_cons_zero, List.set_cons_succ])
                      apply AnyG_pure (i := 6) rfl (by kernel_rfl) (by kernel_rfl) (by kernel_rfl) (by kernel_rfl)
                      case hQ => exact fun _ _ _ h => h
                      case hB => exact hBeld
                      case hC => exact .inr hHeld
                      case hy => (refine Or.inl ⟨by rfl, ?_⟩; intro w hSw; (try go_split_ands); go_simp; (try with_reducible rfl))
                      (try simp only [List.getElem_toArray, List.getElem_cons_succ, List.getElem_cons_zero, Act.put, List.setIfInBounds_toArray, List.set_cons_zero, List.set_cons_succ])
                      apply AnyG_take (i := 7) rfl (by kernel_rfl) (by kernel_rfl) (by kernel_rfl) (by kernel_rfl)
                      case hQ => exact fun _ _ _ h => h
                      case hB => exact hBeld
                      case hC => exact hHeld
                      case hy => (refine Or.inl ⟨by rfl, ?_⟩; intro w hSw; (try go_split_ands); go_simp; (try with_reducible rfl))
                      (try simp only [List.getElem_toArray, List.getElem_cons_succ, List.getElem_cons_zero, Act.put, List.setIfInBounds_toArray, List.set_cons_zero, List.set_cons_succ])
                      apply AnyG_pure (i := 8) rfl (by kernel_rfl) (by kernel_rfl) (by kernel_rfl) (by kernel_rfl)
                      case hQ => exact fun _ _ _ h => h
                      case hB => exact hBeld
                      case hC => exact .inr hHeld
                      case hy => (refine Or.inl ⟨by rfl, ?_⟩; intro w hSw; (try go_split_ands); go_simp; (try with_reducible rfl))
                      (try simp only [List.getElem_toArray, List.getElem_cons_succ, List.getElem_cons_zero, Act.put, List.setIfInBounds_toArray, List.set_cons_zero, List.set_cons_succ])
                      apply AnyG_pure (i := 9) rfl (by kernel_rfl) (by kernel_rfl) (by kernel_rfl) (by kernel_rfl)
                      case hQ => exact fun _ _ _ h => h
                      case hB => exact hBeld
                      case hC => exact .inr hHeld
                      case hy => (refine Or.inl ⟨by rfl, ?_⟩; intro w hSw; (try go_split_ands); go_simp; (try with_reducible rfl))
                      (try simp only [List.getElem_toArray, List.getElem_cons_succ, List.getElem_cons_zero, Act.put, List.setIfInBounds_toArray, List.set_cons_zero, List.set_cons_succ])
                      apply AnyG_take (i := 10) rfl (by kernel_rfl) (by kernel_rfl) (by kernel_rfl) (by kernel_rfl)
                      case hQ => exact fun _ _ _ h => h
                      case hB => exact hBeld
                      case hC => exact hHeld
                      case hy => (refine Or.inl ⟨by rfl, ?_⟩; intro w hSw; (try go_split_ands); go_simp; (try with_reducible rfl))
                      (try simp only [List.getElem_toArray, List.getElem_cons_succ, List.getElem_cons_zero, Act.put, List.setIfInBounds_toArray, List.set_cons_zero, List.set_cons_succ])
                      apply AnyG_pure (i := 11) rfl (by kernel_rfl) (by kernel_rfl) (by kernel_rfl) (by kernel_rfl)
                      case hQ => exact fun _ _ _ h => h
                      case hB => exact hBeld
                      case hC => exact .inr hHeld
                      case hy => (refine Or.inl ⟨by rfl, ?_⟩; intro w hSw; (try go_split_ands); go_simp; (try with_reducible rfl))
                      (try simp only [List.getElem_toArray, List.getElem_cons_succ, List.getElem_cons_zero, Act.put, List.setIfInBounds_toArray, List.set_cons_zero, List.set_cons_succ])
                      apply AnyG_take (i := 12) rfl (by kernel_rfl) (by kernel_rfl) (by kernel_rfl) (by kernel_rfl)
                      case hQ => exact fun _ _ _ h => h
                      case hB => exact hBeld
                      case hC => exact hHeld
                      case hy => (refine Or.inl ⟨by rfl, ?_⟩; intro w hSw; (try go_split_ands); go_simp; (try with_reducible rfl))
                      (try simp only [List.getElem_toArray, List.getElem_cons_succ, List.getElem_cons_zero, Act.put, List.setIfInBounds_toArray, List.set_cons_zero, List.set_cons_succ])
                      apply AnyG_pure (i := 13) rfl (by kernel_rfl) (by kernel_rfl) (by kernel_rfl) (by kernel_rfl)
                      case hQ => exact fun _ _ _ h => h
                      case hB => exact hBeld
                      case hC => exact .inr hHeld
                      case hy => (refine Or.inl ⟨by rfl, ?_⟩; intro w hSw; (try go_split_ands); go_simp; (try with_reducible rfl))
                      (try simp only [List.getElem_toArray, List.getElem_cons_succ, List.getElem_cons_zero, Act.put, List.setIfInBounds_toArray, List.set_cons_zero, List.set_cons_succ])
                      apply AnyG_pure (i := 14) rfl (by kernel_rfl) (by kernel_rfl) (by kernel_rfl) (by kernel_rfl)
                      case hQ => exact fun _ _ _ h => h
                      case hB => exact hBeld
                      case hC => exact .inr hHeld
                      case hy => (refine Or.inl ⟨by rfl, ?_⟩; intro w hSw; (try go_split_ands); go_simp; (try with_reducible rfl))
                      (try simp only [List.getElem_toArray, List.getElem_cons_succ, List.getElem_cons_zero, Act.put, List.setIfInBounds_toArray, List.set_cons_zero, List.set_cons_succ])
                      apply AnyG_pure (i := 15) rfl (by kernel_rfl) (by kernel_rfl) (by kernel_rfl) (by kernel_rfl)
                      case hQ => exact fun _ _ _ h => h
                      case hB => exact hBeld
                      case hC => exact .inr hHeld
                      case hy => (refine Or.inl ⟨by rfl, ?_⟩; intro w hSw; (try go_split_ands); go_simp; (try with_reducible rfl))
                      (try simp only [List.getElem_toArray, List.getElem_cons_succ, List.getElem_cons_zero, Act.put, List.setIfInBounds_toArray, List.set_cons_zero, List.set_cons_succ])
                      apply AnyG_pure (i := 16) rfl (by kernel_rfl) (by kernel_rfl) (by kernel_rfl) (by kernel_rfl)
                      case hQ => exact fun _ _ _ h => h
                      case hB => exact hBeld
                      case hC => exact .inr hHeld
                      case hy => (refine Or.inl ⟨by rfl, ?_⟩; intro w hSw; (try go_split_ands); go_simp; (try with_reducible rfl))
                      (try simp only [List.getElem_toArray, List.getElem_cons_succ, List.getElem_cons_zero, Act.put, List.setIfInBounds_toArray, List.set_cons_zero, List.set_cons_succ])
                      apply AnyG_take (i := 17) rfl (by kernel_rfl) (by kernel_rfl) (by kernel_rfl) (by kernel_rfl)
                      case hQ => exact fun _ _ _ h => h
                      case hB => exact hBeld
                      case hC => exact hHeld
                      case hy => (refine Or.inl ⟨by rfl, ?_⟩; intro w hSw; (try go_split_ands); go_simp; (try with_reducible rfl))
                      (try simp only [List.getElem_toArray, List.getElem_cons_succ, List.getElem_cons_zero, Act.put, List.setIfInBounds_toArray, List.set_cons_zero, List.set_cons_succ])
                      apply AnyG_pure (i := 18) rfl (by kernel_rfl) (by kernel_rfl) (by kernel_rfl) (by kernel_rfl)
                      case hQ => exact fun _ _ _ h => h
                      case hB => exact hBeld
                      case hC => exact .inr hHeld
                      case hy => (refine Or.inl ⟨by rfl, ?_⟩; intro w hSw; (try go_split_ands); go_simp; (try with_reducible rfl))
                      (try simp only [List.getElem_toArray, List.getElem_cons_succ, List.getElem_cons_zero, Act.put, List.setIfInBounds_toArray, List.set_cons_zero, List.set_cons_succ])
                      apply AnyG_pure (i := 19) rfl (by kernel_rfl) (by kernel_rfl) (by kernel_rfl) (by kernel_rfl)
                      case hQ => exact fun _ _ _ h => h
                      case hB => exact hBeld
                      case hC => exact .inr hHeld
                      case hy => (refine Or.inl ⟨by rfl, ?_⟩; intro w hSw; (try go_split_ands); go_simp; (try with_reducible rfl))
                      (try simp only [List.getElem_toArray, List.getElem_cons_succ, List.getElem_cons_zero, Act.put, List.setIfInBounds_toArray, List.set_cons_zero, List.set_cons_succ])
                      apply AnyG_pure (i := 20) rfl (by kernel_rfl) (by kernel_rfl) (by kernel_rfl) (by kernel_rfl)
                      case hQ => exact fun _ _ _ h => h
                      case hB => exact hBeld
                      case hC => exact .inr hHeld
                      case hy => (refine Or.inl ⟨by rfl, ?_⟩; intro w hSw; (try go_split_ands); go_simp; (try with_reducible rfl))
                      (try simp only [List.getElem_toArray, List.getElem_cons_succ, List.getElem_cons_zero, Act.put, List.setIfInBounds_toArray, List.set_cons_zero, List.set_cons_succ])
                      apply AnyG_pure (i := 21) rfl (by kernel_rfl) (by kernel_rfl) (by kernel_rfl) (by kernel_rfl)
                      case hQ => exact fun _ _ _ h => h
                      case hB => exact hBeld
                      case hC => exact .inr hHeld
                      case hy => (refine Or.inl ⟨by rfl, ?_⟩; intro w hSw; (try go_split_ands); go_simp; (try with_reducible rfl))
                      (try simp only [List.getElem_toArray, List.getElem_cons_succ, List.getElem_cons_zero, Act.put, List.setIfInBounds_toArray, List.set_cons_zero, List.set_cons_succ])
                      apply AnyG_pure (i := 22) rfl (by kernel_rfl) (by kernel_rfl) (by kernel_rfl) (by kernel_rfl)
                      case hQ => exact fun _ _ _ h => h
                      case hB => exact hBeld
                      case hC => exact .inr hHeld
                      case hy => (refine Or.inl ⟨by rfl, ?_⟩; intro w hSw; (try go_split_ands); go_simp; (try with_reducible rfl))
                      (try simp only [List.getElem_toArray, List.getElem_cons_succ, List.getElem_cons_zero, Act.put, List.setIfInBounds_toArray, List.set_cons_zero, List.set_cons_succ])
                      apply AnyG_take (i := 23) rfl (by kernel_rfl) (by kernel_rfl) (by kernel_rfl) (by kernel_rfl)
                      case hQ => exact fun _ _ _ h => h
                      case hB => exact hBeld
                      case hC => exact hHeld
                      case hy => (refine Or.inl ⟨by rfl, ?_⟩; intro w hSw; (try go_split_ands); go_simp; (try with_reducible rfl))
                      (try simp only [List.getElem_toArray, List.getElem_cons_succ, List.getElem_cons_zero, Act.put, List.setIfInBounds_toArray, List.set_cons_zero, List.set_cons_succ])
                      apply AnyG_pure (i := 24) rfl (by kernel_rfl) (by kernel_rfl) (by kernel_rfl) (by kernel_rfl)
                      case hQ => exact fun _ _ _ h => h
                      case hB => exact hBeld
                      case hC => exact .inr hHeld
                      case hy => (refine Or.inl ⟨by rfl, ?_⟩; intro w hSw; (try go_split_ands); go_simp; (try with_reducible rfl))
                      (try simp only [List.getElem_toArray, List.getElem_cons_succ, List.getElem_cons_zero, Act.put, List.setIfInBounds_toArray, List.set_cons_zero, List.set_cons_succ])
                      apply AnyG_pure (i := 25) rfl (by kernel_rfl) (by kernel_rfl) (by kernel_rfl) (by kernel_rfl)
                      case hQ => exact fun _ _ _ h => h
                      case hB => exact hBeld
                      case hC => exact .inr hHeld
                      case hy => (refine Or.inl ⟨by rfl, ?_⟩; intro w hSw; (try go_split_ands); go_simp; (try with_reducible rfl))
                      (try simp only [List.getElem_toArray, List.getElem_cons_succ, List.getElem_cons_zero, Act.put, List.setIfInBounds_toArray, List.set_cons_zero, List.set_cons_succ])
                      apply AnyG_pure (i := 26) rfl (by kernel_rfl) (by kernel_rfl) (by kernel_rfl) (by kernel_rfl)
                      case hQ => exact fun _ _ _ h => h
                      case hB => exact hBeld
                      case hC => exact .inr hHeld
                      case hy => (refine Or.inl ⟨by rfl, ?_⟩; intro w hSw; (try go_split_ands); go_simp; (try with_reducible rfl))
                      (try simp only [List.getElem_toArray, List.getElem_cons_succ, List.getElem_cons_zero, Act.put, List.setIfInBounds_toArray, List.set_cons_zero, List.set_cons_succ])
                      apply AnyG_pure (i := 27) rfl (by kernel_rfl) (by kernel_rfl) (by kernel_rfl) (by kernel_rfl)
                      case hQ => exact fun _ _ _ h => h
                      case hB => exact hBeld
                      case hC => exact .inr hHeld
                      case hy => exact Or.inr ⟨by rfl, rfl⟩
                      (try simp only [List.getElem_toArray, List.getElem_cons_succ, List.getElem_cons_zero, Act.put, List.setIfInBounds_toArray, List.set_cons_zero, List.set_cons_succ])
                      apply AnyG_pure (i := 28) rfl (by kernel_rfl) (by kernel_rfl) (by kernel_rfl) (by kernel_rfl)
                      case hQ => exact fun _ _ _ h => h
                      case hB => exact hBeld
                      case hC => exact .inr hHeld
                      case hy => exact Or.inr ⟨by rfl, rfl⟩
                      (try simp only [List.getElem_toArray, List.getElem_cons_succ, List.getElem_cons_zero, Act.put, List.setIfInBounds_toArray, List.set_cons_zero, List.set_cons_succ])
                      apply AnyG_pure (i := 29) rfl (by kernel_rfl) (by kernel_rfl) (by kernel_rfl) (by kernel_rfl)
                      case hQ => exact fun _ _ _ h => h
                      case hB => exact hBeld
                      case hC => exact .inr hHeld
                      case hy => exact Or.inr ⟨by rfl, rfl⟩
                      (try simp only [List.getElem_toArray, List.getElem_cons_succ, List.getElem_cons_zero, Act.put, List.setIfInBounds_toArray, List.set_cons_zero, List.set_cons_succ])
                      apply AnyG_pure (i := 30) rfl (by kernel_rfl) (by kernel_rfl) (by kernel_rfl) (by kernel_rfl)
                      case hQ => exact fun _ _ _ h => h
                      case hB => exact hBeld
                      case hC => exact .inr hHeld
                      case hy => exact Or.inr ⟨by rfl, rfl⟩
                      (try simp only [List.getElem_toArray, List.getElem_cons_succ, List.getElem_cons_zero, Act.put, List.setIfInBounds_toArray, List.set_cons_zero, List.set_cons_succ])
                      apply AnyG_pure (i := 31) rfl (by kernel_rfl) (by kernel_rfl) (by kernel_rfl) (by kernel_rfl)
                      case hQ => exact fun _ _ _ h => h
                      case hB => exact hBeld
                      case hC => exact .inr hHeld
                      case hy => exact Or.inr ⟨by rfl, rfl⟩
                      (try simp only [List.getElem_toArray, List.getElem_cons_succ, List.getElem_cons_zero, Act.put, List.setIfInBounds_toArray, List.set_cons_zero, List.set_cons_succ])
                      apply AnyG_pure (i := 32) rfl (by kernel_rfl) (by kernel_rfl) (by kernel_rfl) (by kernel_rfl)
                      case hQ => exact fun _ _ _ h => h
                      case hB => exact hBeld
                      case hC => exact .inr hHeld
                      case hy => exact Or.inr ⟨by rfl, rfl⟩
                      (try simp only [List.getElem_toArray, List.getElem_cons_succ, List.getElem_cons_zero, Act.put, List.setIfInBounds_toArray, List.set_cons_zero, List.set_cons_succ])
                      apply AnyG_pure (i := 33) rfl (by kernel_rfl) (by kernel_rfl) (by kernel_rfl) (by kernel_rfl)
                      case hQ => exact fun _ _ _ h => h
                      case hB => exact hBeld
                      case hC => exact .inr hHeld
                      case hy => exact Or.inr ⟨by rfl, rfl⟩
                      (try simp only [List.getElem_toArray, List.getElem_cons_succ, List.getElem_cons_zero, Act.put, List.setIfInBounds_toArray, List.set_cons_zero, List.set_cons_succ])
                      apply AnyG_pure (i := 34) rfl (by kernel_rfl) (by kernel_rfl) (by kernel_rfl) (by kernel_rfl)
                      case hQ => exact fun _ _ _ h => h
                      case hB => exact hBeld
                      case hC => exact .inr hHeld
                      case hy => exact Or.inr ⟨by rfl, rfl⟩
                      (try simp only [List.getElem_toArray, List.getElem_cons_succ, List.getElem_cons_zero, Act.put, List.setIfInBounds_toArray, List.set_cons_zero, List.set_cons_succ])
                      apply AnyG_pure (i := 35) rfl (by kernel_rfl) (by kernel_rfl) (by kernel_rfl) (by kernel_rfl)
                      case hQ => exact fun _ _ _ h => h
                      case hB => exact hBeld
                      case hC => exact .inr hHeld
                      case hy => exact Or.inr ⟨by rfl, rfl⟩
                      (try simp only [List.getElem_toArray, List.getElem_cons_succ, List.getElem_cons_zero, Act.put, List.setIfInBounds_toArray, List.set_cons_zero, List.set_cons_succ])
                      apply AnyG_pure (i := 36) rfl (by kernel_rfl) (by kernel_rfl) (by kernel_rfl) (by kernel_rfl)
                      case hQ => exact fun _ _ _ h => h
                      case hB => exact hBeld
                      case hC => exact .inr hHeld
                      case hy => exact Or.inr ⟨by rfl, rfl⟩
                      (try simp only [List.getElem_toArray, List.getElem_cons_succ, List.getElem_cons_zero, Act.put, List.setIfInBounds_toArray, List.set_cons_zero, List.set_cons_succ])
                      apply AnyG_pure (i := 37) rfl (by kernel_rfl) (by kernel_rfl) (by kernel_rfl) (by kernel_rfl)
                      case hQ => exact fun _ _ _ h => h
                      case hB => exact hBeld
                      case hC => exact .inr hHeld
                      case hy => exact Or.inr ⟨by rfl, rfl⟩
                      (try simp only [List.getElem_toArray, List.getElem_cons_succ, List.getElem_cons_zero, Act.put, List.setIfInBounds_toArray, List.set_cons_zero, List.set_cons_succ])
                      apply AnyG_pure (i := 38) rfl (by kernel_rfl) (by kernel_rfl) (by kernel_rfl) (by kernel_rfl)
                      case hQ => exact fun _ _ _ h => h
                      case hB => exact hBeld
                      case hC => exact .inr hHeld
                      case hy => exact Or.inr ⟨by rfl, rfl⟩
                      (try simp only [List.getElem_toArray, List.getElem_cons_succ, List.getElem_cons_zero, Act.put, List.setIfInBounds_toArray, List.set_cons_zero, List.set_cons_succ])
                      apply AnyG_pure (i := 39) rfl (by kernel_rfl) (by kernel_rfl) (by kernel_rfl) (by kernel_rfl)
                      case hQ => exact fun _ _ _ h => h
                      case hB => exact hBeld
                      case hC => exact .inr hHeld
                      case hy => exact Or.inr ⟨by rfl, rfl⟩
                      (try simp only [List.getElem_toArray, List.getElem_cons_succ, List.getElem_cons_zero, Act.put, List.setIfInBounds_toArray, List.set_cons_zero, List.set_cons_succ])
                      apply AnyG_pure (i := 40) rfl (by kernel_rfl) (by kernel_rfl) (by kernel_rfl) (by kernel_rfl)
                      case hQ => exact fun _ _ _ h => h
                      case hB => exact hBeld
                      case hC => exact .inr hHeld
                      case hy => exact Or.inr ⟨by rfl, rfl⟩
                      (try simp only [List.getElem_toArray, List.getElem_cons_succ, List.getElem_cons_zero, Act.put, List.setIfInBounds_toArray, List.set_cons_zero, List.set_cons_succ])
                      apply AnyG_pure (i := 41) rfl (by kernel_rfl) (by kernel_rfl) (by kernel_rfl) (by kernel_rfl)
                      case hQ => exact fun _ _ _ h => h
                      case hB => exact hBeld
                      case hC => exact .inr hHeld
                      case hy => exact Or.inr ⟨by rfl, rfl⟩
                      (try simp only [List.getElem_toArray, List.getElem_cons_succ, List.getElem_cons_zero, Act.put, List.setIfInBounds_toArray, List.set_cons_zero, List.set_cons_succ])
                      apply AnyG_pure (i := 42) rfl (by kernel_rfl) (by kernel_rfl) (by kernel_rfl) (by kernel_rfl)
                      case hQ => exact fun _ _ _ h => h
                      case hB => exact hBeld
                      case hC => exact .inr hHeld
                      case hy => exact Or.inr ⟨by rfl, rfl⟩
                      (try simp only [List.getElem_toArray, List.getElem_cons_succ, List.getElem_cons_zero, Act.put, List.setIfInBounds_toArray, List.set_cons_zero, List.set_cons_succ])
                      apply AnyG_pure (i := 43) rfl (by kernel_rfl) (by kernel_rfl) (by kernel_rfl) (by kernel_rfl)
                      case hQ => exact fun _ _ _ h => h
                      case hB => exact hBeld
                      case hC => exact .inr hHeld
                      case hy => exact Or.inr ⟨by rfl, rfl⟩
                      (try simp only [List.getElem_toArray, List.getElem_cons_succ, List.getElem_cons_zero, Act.put, List.setIfInBounds_toArray, List.set_cons_zero, List.set_cons_succ])
                      apply AnyG_pure (i := 44) rfl (by kernel_rfl) (by kernel_rfl) (by kernel_rfl) (by kernel_rfl)
                      case hQ => exact fun _ _ _ h => h
                      case hB => exact hBeld
                      case hC => exact .inr hHeld
                      case hy => (refine Or.inl ⟨by rfl, ?_⟩; intro w hSw; (try go_split_ands); go_simp; (try with_reducible rfl))
                      (try simp only [List.getElem_toArray, List.getElem_cons_succ, List.getElem_cons_zero, Act.put, List.setIfInBounds_toArray, List.set_cons_zero, List.set_cons_succ])
                      apply AnyG_pure (i := 45) rfl (by kernel_rfl) (by kernel_rfl) (by kernel_rfl) (by kernel_rfl)
                      case hQ => exact fun _ _ _ h => h
                      case hB => exact hBeld
                      case hC => exact .inr hHeld
                      case hy => (refine Or.inl ⟨by rfl, ?_⟩; intro w hSw; (try go_split_ands); go_simp; (try with_reducible rfl))
                      (try simp only [List.getElem_toArray, List.getElem_cons_succ, List.getElem_cons_zero, Act.put, List.setIfInBounds_toArray, List.set_cons_zero, List.set_cons_succ])
                      apply AnyG_pure (i := 46) rfl (by kernel_rfl) (by kernel_rfl) (by kernel_rfl) (by kernel_rfl)
                      case hQ => exact fun _ _ _ h => h
                      case hB => exact hBeld
                      case hC => exact .inr hHeld
                      case hy => (refine Or.inl ⟨by rfl, ?_⟩; intro w hSw; (try go_split_ands); go_simp; (try with_reducible rfl))
                      (try simp only [List.getElem_toArray, List.getElem_cons_succ, List.getElem_cons_zero, Act.put, List.setIfInBounds_toArray, List.set_cons_zero, List.set_cons_succ])
                      apply AnyG_pure (i := 47) rfl (by kernel_rfl) (by kernel_rfl) (by kernel_rfl) (by kernel_rfl)
                      case hQ => exact fun _ _ _ h => h
                      case hB => exact hBeld
                      case hC => exact .inr hHeld
                      case hy => (refine Or.inl ⟨by rfl, ?_⟩; intro w hSw; (try go_split_ands); go_simp; (try with_reducible rfl))
                      (try simp only [List.getElem_toArray, List.getElem_cons_succ, List.getElem_cons_zero, Act.put, List.setIfInBounds_toArray, List.set_cons_zero, List.set_cons_succ])
                      apply AnyG_pure (i := 48) rfl (by kernel_rfl) (by kernel_rfl) (by kernel_rfl) (by kernel_rfl)
                      case hQ => exact fun _ _ _ h => h
                      case hB => exact hBeld
                      case hC => exact .inr hHeld
                      case hy => (refine Or.inl ⟨by rfl, ?_⟩; intro w hSw; (try go_split_ands); go_simp; (try with_reducible rfl))
                      (try simp only [List.getElem_toArray, List.getElem_cons_succ, List.getElem_cons_zero, Act.put, List.setIfInBounds_toArray, List.set_cons_zero, List.set_cons_succ])
                      refine AnyG_one (i := 49) (by kernel_rfl) rfl (fun K hK => ?_)
                      (try simp only [List.getElem_toArray, List.getElem_cons_succ, List.getElem_cons_zero])
                      go_simp
                      clear hHeld
                      refine hK.out _ _ (.inl (by kernel_rfl)) (trivial) ?_
                      clear hK K
                      (try simp only [List.getElem_toArray, List.getElem_cons_succ, List.getElem_cons_zero, Act.put, List.setIfInBounds_toArray, List.set_cons_zero, List.set_cons_succ])
                      refine AnyG_done (by kernel_rfl) ?_ _
                      clear hBeld
                      go_wp2_with fail
                      go_roundw
                      case rel => exact ⟨k + 1, by go_num, by omega, HW.out.1, HW.out.2⟩
                      case measure => simp [intOf]; omega
                  · have t3 := decide_eq_false h3
                    obtain rfl : V = false := by rw [hV, t2, t3]; rfl
                    clear hV h1 h2 h3
                    as_aux_lemma =>
                      refine wp_region_G (fun W : World => W.cell? ⟨g, 3 + k, none⟩ = some (.bool true) ∧ W.cell? ⟨wr.heap.size, 2, none⟩ = some (.int .i64 (lo : Int)) ∧ W.cell? ⟨wr.heap.size, 3, none⟩ = some (.int .i64 (hi' : Int))) (fun _ => True) [49] (by kernel_rfl) ?_
                      have hHeld : (fun W : World => W.cell? ⟨g, 3 + k, none⟩ = some (.bool true) ∧ W.cell? ⟨wr.heap.size, 2, none⟩ = some (.int .i64 (lo : Int)) ∧ W.cell? ⟨wr.heap.size, 3, none⟩ = some (.int .i64 (hi' : Int))) (wx.drew) := ⟨cm, p2, p3⟩
                      have hBeld : (fun _ => True) (wx.drew) := trivial
                      apply AnyG_pure (i := 0) rfl (by kernel_rfl) (by kernel_rfl) (by kernel_rfl) (by kernel_rfl)
                      case hQ => exact fun _ _ _ h => h
                      case hB => exact hBeld
                      case hC => exact .inr hHeld
                      case hy => (refine Or.inl ⟨by rfl, ?_⟩; intro w hSw; (try go_split_ands); go_simp; (try with_reducible rfl))
                      (try simp only [List.getElem_toArray, List.getElem_cons_zero, Act.put, List.setIfInBounds_toArray, List.set_cons_zero, List.set_cons_succ])
                      apply AnyG_pure (i := 1) rfl (by kernel_rfl) (by kernel_rfl) (by kernel_rfl) (by kernel_rfl)
                      case hQ => exact fun _ _ _ h => h
                      case hB => exact hBeld
                      case hC => exact .inr hHeld
                      case hy => (refine Or.inl ⟨by rfl, ?_⟩; intro w hSw; (try go_split_ands); go_simp; (try with_reducible rfl))
                      (try simp only [List.getElem_toArray, List.getElem_cons_succ, List.getElem_cons_zero, Act.put, List.setIfInBounds_toArray, List.set_cons_zero, List.set_cons_succ])
                      apply AnyG_pure (i := 2) rfl (by kernel_rfl) (by kernel_rfl) (by kernel_rfl) (by kernel_rfl)
                      case hQ => exact fun _ _ _ h => h
                      case hB => exact hBeld
                      case hC => exact .inr hHeld
                      case hy => (refine Or.inl ⟨by rfl, ?_⟩; intro w hSw; (try go_split_ands); go_simp; (try with_reducible rfl))
                      (try simp only [List.getElem_toArray, List.getElem_cons_succ, List.getElem_cons_zero, Act.put, List.setIfInBounds_toArray, List.set_cons_zero, List.set_cons_succ])
                      apply AnyG_pure (i := 3) rfl (by kernel_rfl) (by kernel_rfl) (by kernel_rfl) (by kernel_rfl)
                      case hQ => exact fun _ _ _ h => h
                      case hB => exact hBeld
                      case hC => exact .inr hHeld
                      case hy => (refine Or.inl ⟨by rfl, ?_⟩; intro w hSw; (try go_split_ands); go_simp; (try with_reducible rfl))
                      (try simp only [List.getElem_toArray, List.getElem_cons_succ, List.getElem_cons_zero, Act.put, List.setIfInBounds_toArray, List.set_cons_zero, List.set_cons_succ])
                      apply AnyG_pure (i := 4) rfl (by kernel_rfl) (by kernel_rfl) (by kernel_rfl) (by kernel_rfl)
                      case hQ => exact fun _ _ _ h => h
                      case hB => exact hBeld
                      case hC => exact .inr hHeld
                      case hy => (refine Or.inl ⟨by rfl, ?_⟩; intro w hSw; (try go_split_ands); go_simp; (try with_reducible rfl))
                      (try simp only [List.getElem_toArray, List.getElem_cons_succ, List.getElem_cons_zero, Act.put, List.setIfInBounds_toArray, List.set_cons_zero, List.set_cons_succ])
                      apply AnyG_pure (i := 5) rfl (by kernel_rfl) (by kernel_rfl) (by kernel_rfl) (by kernel_rfl)
                      case hQ => exact fun _ _ _ h => h
                      case hB => exact hBeld
                      case hC => exact .inr hHeld
                      case hy => (refine Or.inl ⟨by rfl, ?_⟩; intro w hSw; (try go_split_ands); go_simp; (try with_reducible rfl))
                      (try simp only [List.getElem_toArray, List.getElem_cons_succ, List.getElem_cons_zero, Act.put, List.setIfInBounds_toArray, List.set_cons_zero, List.set_cons_succ])
                      apply AnyG_pure (i := 6) rfl (by kernel_rfl) (by kernel_rfl) (by kernel_rfl) (by kernel_rfl)
                      case hQ => exact fun _ _ _ h => h
                      case hB => exact hBeld
                      case hC => exact .inr hHeld
                      case hy => (refine Or.inl ⟨by rfl, ?_⟩; intro w hSw; (try go_split_ands); go_simp; (try with_reducible rfl))
                      (try simp only [List.getElem_toArray, List.getElem_cons_succ, List.getElem_cons_zero, Act.put, List.setIfInBounds_toArray, List.set_cons_zero, List.set_cons_succ])
                      apply AnyG_take (i := 7) rfl (by kernel_rfl) (by kernel_rfl) (by kernel_rfl) (by kernel_rfl)
                      case hQ => exact fun _ _ _ h => h
                      case hB => exact hBeld
                      case hC => exact hHeld
                      case hy => (refine Or.inl ⟨by rfl, ?_⟩; intro w hSw; (try go_split_ands); go_simp; (try with_reducible rfl))
                      (try simp only [List.getElem_toArray, List.getElem_cons_succ, List.getElem_cons_zero, Act.put, List.setIfInBounds_toArray, List.set_cons_zero, List.set_cons_succ])
                      apply AnyG_pure (i := 8) rfl (by kernel_rfl) (by kernel_rfl) (by kernel_rfl) (by kernel_rfl)
                      case hQ => exact fun _ _ _ h => h
                      case hB => exact hBeld
                      case hC => exact .inr hHeld
                      case hy => (refine Or.inl ⟨by rfl, ?_⟩; intro w hSw; (try go_split_ands); go_simp; (try with_reducible rfl))
                      (try simp only [List.getElem_toArray, List.getElem_cons_succ, List.getElem_cons_zero, Act.put, List.setIfInBounds_toArray, List.set_cons_zero, List.set_cons_succ])
                      apply AnyG_pure (i := 9) rfl (by kernel_rfl) (by kernel_rfl) (by kernel_rfl) (by kernel_rfl)
                      case hQ => exact fun _ _ _ h => h
                      case hB => exact hBeld
                      case hC => exact .inr hHeld
                      case hy => (refine Or.inl ⟨by rfl, ?_⟩; intro w hSw; (try go_split_ands); go_simp; (try with_reducible rfl))
                      (try simp only [List.getElem_toArray, List.getElem_cons_succ, List.getElem_cons_zero, Act.put, List.setIfInBounds_toArray, List.set_cons_zero, List.set_cons_succ])
                      apply AnyG_take (i := 10) rfl (by kernel_rfl) (by kernel_rfl) (by kernel_rfl) (by kernel_rfl)
                      case hQ => exact fun _ _ _ h => h
                      case hB => exact hBeld
                      case hC => exact hHeld
                      case hy => (refine Or.inl ⟨by rfl, ?_⟩; intro w hSw; (try go_split_ands); go_simp; (try with_reducible rfl))
                      (try simp only [List.getElem_toArray, List.getElem_cons_succ, List.getElem_cons_zero, Act.put, List.setIfInBounds_toArray, List.set_cons_zero, List.set_cons_succ])
                      apply AnyG_pure (i := 11) rfl (by kernel_rfl) (by kernel_rfl) (by kernel_rfl) (by kernel_rfl)
                      case hQ => exact fun _ _ _ h => h
                      case hB => exact hBeld
                      case hC => exact .inr hHeld
                      case hy => (refine Or.inl ⟨by rfl, ?_⟩; intro w hSw; (try go_split_ands); go_simp; (try with_reducible rfl))
                      (try simp only [List.getElem_toArray, List.getElem_cons_succ, List.getElem_cons_zero, Act.put, List.setIfInBounds_toArray, List.set_cons_zero, List.set_cons_succ])
                      apply AnyG_take (i := 12) rfl (by kernel_rfl) (by kernel_rfl) (by kernel_rfl) (by kernel_rfl)
                      case hQ => exact fun _ _ _ h => h
                      case hB => exact hBeld
                      case hC => exact hHeld
                      case hy => (refine Or.inl ⟨by rfl, ?_⟩; intro w hSw; (try go_split_ands); go_simp; (try with_reducible rfl))
                      (try simp only [List.getElem_toArray, List.getElem_cons_succ, List.getElem_cons_zero, Act.put, List.setIfInBounds_toArray, List.set_cons_zero, List.set_cons_succ])
                      apply AnyG_pure (i := 13) rfl (by kernel_rfl) (by kernel_rfl) (by kernel_rfl) (by kernel_rfl)
                      case hQ => exact fun _ _ _ h => h
                      case hB => exact hBeld
                      case hC => exact .inr hHeld
                      case hy => (refine Or.inl ⟨by rfl, ?_⟩; intro w hSw; (try go_split_ands); go_simp; (try with_reducible rfl))
                      (try simp only [List.getElem_toArray, List.getElem_cons_succ, List.getElem_cons_zero, Act.put, List.setIfInBounds_toArray, List.set_cons_zero, List.set_cons_succ])
                      apply AnyG_pure (i := 14) rfl (by kernel_rfl) (by kernel_rfl) (by kernel_rfl) (by kernel_rfl)
                      case hQ => exact fun _ _ _ h => h
                      case hB => exact hBeld
                      case hC => exact .inr hHeld
                      case hy => (refine Or.inl ⟨by rfl, ?_⟩; intro w hSw; (try go_split_ands); go_simp; (try with_reducible rfl))
                      (try simp only [List.getElem_toArray, List.getElem_cons_succ, List.getElem_cons_zero, Act.put, List.setIfInBounds_toArray, List.set_cons_zero, List.set_cons_succ])
                      apply AnyG_pure (i := 15) rfl (by kernel_rfl) (by kernel_rfl) (by kernel_rfl) (by kernel_rfl)
                      case hQ => exact fun _ _ _ h => h
                      case hB => exact hBeld
                      case hC => exact .inr hHeld
                      case hy => (refine Or.inl ⟨by rfl, ?_⟩; intro w hSw; (try go_split_ands); go_simp; (try with_reducible rfl))
                      (try simp only [List.getElem_toArray, List.getElem_cons_succ, List.getElem_cons_zero, Act.put, List.setIfInBounds_toArray, List.set_cons_zero, List.set_cons_succ])
                      apply AnyG_pure (i := 16) rfl (by kernel_rfl) (by kernel_rfl) (by kernel_rfl) (by kernel_rfl)
                      case hQ => exact fun _ _ _ h => h
                      case hB => exact hBeld
                      case hC => exact .inr hHeld
                      case hy => (refine Or.inl ⟨by rfl, ?_⟩; intro w hSw; (try go_split_ands); go_simp; (try with_reducible rfl))
                      (try simp only [List.getElem_toArray, List.getElem_cons_succ, List.getElem_cons_zero, Act.put, List.setIfInBounds_toArray, List.set_cons_zero, List.set_cons_succ])
                      apply AnyG_take (i := 17) rfl (by kernel_rfl) (by kernel_rfl) (by kernel_rfl) (by kernel_rfl)
                      case hQ => exact fun _ _ _ h => h
                      case hB => exact hBeld
                      case hC => exact hHeld
                      case hy => (refine Or.inl ⟨by rfl, ?_⟩; intro w hSw; (try go_split_ands); go_simp; (try with_reducible rfl))
                      (try simp only [List.getElem_toArray, List.getElem_cons_succ, List.getElem_cons_zero, Act.put, List.setIfInBounds_toArray, List.set_cons_zero, List.set_cons_succ])
                      apply AnyG_pure (i := 18) rfl (by kernel_rfl) (by kernel_rfl) (by kernel_rfl) (by kernel_rfl)
                      case hQ => exact fun _ _ _ h => h
                      case hB => exact hBeld
                      case hC => exact .inr hHeld
                      case hy => (refine Or.inl ⟨by rfl, ?_⟩; intro w hSw; (try go_split_ands); go_simp; (try with_reducible rfl))
                      (try simp only [List.getElem_toArray, List.getElem_cons_succ, List.getElem_cons_zero, Act.put, List.setIfInBounds_toArray, List.set_cons_zero, List.set_cons_succ])
                      apply AnyG_pure (i := 19) rfl (by kernel_rfl) (by kernel_rfl) (by kernel_rfl) (by kernel_rfl)
                      case hQ => exact fun _ _ _ h => h
                      case hB => exact hBeld
                      case hC => exact .inr hHeld
                      case hy => (refine Or.inl ⟨by rfl, ?_⟩; intro w hSw; (try go_split_ands); go_simp; (try with_reducible rfl))
                      (try simp only [List.getElem_toArray, List.getElem_cons_succ, List.getElem_cons_zero, Act.put, List.setIfInBounds_toArray, List.set_cons_zero, List.set_cons_succ])
                      apply AnyG_pure (i := 20) rfl (by kernel_rfl) (by kernel_rfl) (by kernel_rfl) (by kernel_rfl)
                      case hQ => exact fun _ _ _ h => h
                      case hB => exact hBeld
                      case hC => exact .inr hHeld
                      case hy => (refine Or.inl ⟨by rfl, ?_⟩; intro w hSw; (try go_split_ands); go_simp; (try with_reducible rfl))
                      (try simp only [List.getElem_toArray, List.getElem_cons_succ, List.getElem_cons_zero, Act.put, List.setIfInBounds_toArray, List.set_cons_zero, List.set_cons_succ])
                      apply AnyG_pure (i := 21) rfl (by kernel_rfl) (by kernel_rfl) (by kernel_rfl) (by kernel_rfl)
                      case hQ => exact fun _ _ _ h => h
                      case hB => exact hBeld
                      case hC => exact .inr hHeld
                      case hy => (refine Or.inl ⟨by rfl, ?_⟩; intro w hSw; (try go_split_ands); go_simp; (try with_reducible rfl))
                      (try simp only [List.getElem_toArray, List.getElem_cons_succ, List.getElem_cons_zero, Act.put, List.setIfInBounds_toArray, List.set_cons_zero, List.set_cons_succ])
                      apply AnyG_pure (i := 22) rfl (by kernel_rfl) (by kernel_rfl) (by kernel_rfl) (by kernel_rfl)
                      case hQ => exact fun _ _ _ h => h
                      case hB => exact hBeld
                      case hC => exact .inr hHeld
                      case hy => (refine Or.inl ⟨by rfl, ?_⟩; intro w hSw; (try go_split_ands); go_simp; (try with_reducible rfl))
                      (try simp only [List.getElem_toArray, List.getElem_cons_succ, List.getElem_cons_zero, Act.put, List.setIfInBounds_toArray, List.set_cons_zero, List.set_cons_succ])
                      apply AnyG_take (i := 23) rfl (by kernel_rfl) (by kernel_rfl) (by kernel_rfl) (by kernel_rfl)
                      case hQ => exact fun _ _ _ h => h
                      case hB => exact hBeld
                      case hC => exact hHeld
                      case hy => (refine Or.inl ⟨by rfl, ?_⟩; intro w hSw; (try go_split_ands); go_simp; (try with_reducible rfl))
                      (try simp only [List.getElem_toArray, List.getElem_cons_succ, List.getElem_cons_zero, Act.put, List.setIfInBounds_toArray, List.set_cons_zero, List.set_cons_succ])
                      apply AnyG_pure (i := 24) rfl (by kernel_rfl) (by kernel_rfl) (by kernel_rfl) (by kernel_rfl)
                      case hQ => exact fun _ _ _ h => h
                      case hB => exact hBeld
                      case hC => exact .inr hHeld
                      case hy => (refine Or.inl ⟨by rfl, ?_⟩; intro w hSw; (try go_split_ands); go_simp; (try with_reducible rfl))
                      (try simp only [List.getElem_toArray, List.getElem_cons_succ, List.getElem_cons_zero, Act.put, List.setIfInBounds_toArray, List.set_cons_zero, List.set_cons_succ])
                      apply AnyG_pure (i := 25) rfl (by kernel_rfl) (by kernel_rfl) (by kernel_rfl) (by kernel_rfl)
                      case hQ => exact fun _ _ _ h => h
                      case hB => exact hBeld
                      case hC => exact .inr hHeld
                      case hy => (refine Or.inl ⟨by rfl, ?_⟩; intro w hSw; (try go_split_ands); go_simp; (try with_reducible rfl))
                      (try simp only [List.getElem_toArray, List.getElem_cons_succ, List.getElem_cons_zero, Act.put, List.setIfInBounds_toArray, List.set_cons_zero, List.set_cons_succ])
                      apply AnyG_pure (i := 26) rfl (by kernel_rfl) (by kernel_rfl) (by kernel_rfl) (by kernel_rfl)
                      case hQ => exact fun _ _ _ h => h
                      case hB => exact hBeld
                      case hC => exact .inr hHeld
                      case hy => (refine Or.inl ⟨by rfl, ?_⟩; intro w hSw; (try go_split_ands); go_simp; (try with_reducible rfl))
                      (try simp only [List.getElem_toArray, List.getElem_cons_succ, List.getElem_cons_zero, Act.put, List.setIfInBounds_toArray, List.set_cons_zero, List.set_cons_succ])
                      apply AnyG_pure (i := 27) rfl (by kernel_rfl) (by kernel_rfl) (by kernel_rfl) (by kernel_rfl)
                      case hQ => exact fun _ _ _ h => h
                      case hB => exact hBeld
                      case hC => exact .inr hHeld
                      case hy => (refine Or.inl ⟨by rfl, ?_⟩; intro w hSw; (try go_split_ands); go_simp; (try with_reducible rfl))
                      (try simp only [List.getElem_toArray, List.getElem_cons_succ, List.getElem_cons_zero, Act.put, List.setIfInBounds_toArray, List.set_cons_zero, List.set_cons_succ])
                      apply AnyG_take (i := 28) rfl (by kernel_rfl) (by kernel_rfl) (by kernel_rfl) (by kernel_rfl)
                      case hQ => exact fun _ _ _ h => h
                      case hB => exact hBeld
                      case hC => exact hHeld
                      case hy => (refine Or.inl ⟨by rfl, ?_⟩; intro w hSw; (try go_split_ands); go_simp; (try with_reducible rfl))
                      (try simp only [List.getElem_toArray, List.getElem_cons_succ, List.getElem_cons_zero, Act.put, List.setIfInBounds_toArray, List.set_cons_zero, List.set_cons_succ])
                      apply AnyG_pure (i := 29) rfl (by kernel_rfl) (by kernel_rfl) (by kernel_rfl) (by kernel_rfl)
                      case hQ => exact fun _ _ _ h => h
                      case hB => exact hBeld
                      case hC => exact .inr hHeld
                      case hy => (refine Or.inl ⟨by rfl, ?_⟩; intro w hSw; (try go_split_ands); go_simp; (try with_reducible rfl))
                      (try simp only [List.getElem_toArray, List.getElem_cons_succ, List.getElem_cons_zero, Act.put, List.setIfInBounds_toArray, List.set_cons_zero, List.set_cons_succ])
                      apply AnyG_take (i := 30) rfl (by kernel_rfl) (by kernel_rfl) (by kernel_rfl) (by kernel_rfl)
                      case hQ => exact fun _ _ _ h => h
                      case hB => exact hBeld
                      case hC => exact hHeld
                      case hy => (refine Or.inl ⟨by rfl, ?_⟩; intro w hSw; (try go_split_ands); go_simp; (try with_reducible rfl))
                      (try simp only [List.getElem_toArray, List.getElem_cons_succ, List.getElem_cons_zero, Act.put, List.setIfInBounds_toArray, List.set_cons_zero, List.set_cons_succ])
                      apply AnyG_pure (i := 31) rfl (by kernel_rfl) (by kernel_rfl) (by kernel_rfl) (by kernel_rfl)
                      case hQ => exact fun _ _ _ h => h
                      case hB => exact hBeld
                      case hC => exact .inr hHeld
                      case hy => (refine Or.inl ⟨by rfl, ?_⟩; intro w hSw; (try go_split_ands); go_simp; (try with_reducible rfl))
                      (try simp only [List.getElem_toArray, List.getElem_cons_succ, List.getElem_cons_zero, Act.put, List.setIfInBounds_toArray, List.set_cons_zero, List.set_cons_succ])
                      apply AnyG_pure (i := 32) rfl (by kernel_rfl) (by kernel_rfl) (by kernel_rfl) (by kernel_rfl)
                      case hQ => exact fun _ _ _ h => h
                      case hB => exact hBeld
                      case hC => exact .inr hHeld
                      case hy => (refine Or.inl ⟨by rfl, ?_⟩; intro w hSw; (try go_split_ands); go_simp; (try with_reducible rfl))
                      (try simp only [List.getElem_toArray, List.getElem_cons_succ, List.getElem_cons_zero, Act.put, List.setIfInBounds_toArray, List.set_cons_zero, List.set_cons_succ])
                      apply AnyG_pure (i := 33) rfl (by kernel_rfl) (by kernel_rfl) (by kernel_rfl) (by kernel_rfl)
                      case hQ => exact fun _ _ _ h => h
                      case hB => exact hBeld
                      case hC => exact .inr hHeld
                      case hy => exact Or.inr ⟨by rfl, rfl⟩
                      (try simp only [List.getElem_toArray, List.getElem_cons_succ, List.getElem_cons_zero, Act.put, List.setIfInBounds_toArray, List.set_cons_zero, List.set_cons_succ])
                      apply AnyG_pure (i := 34) rfl (by kernel_rfl) (by kernel_rfl) (by kernel_rfl) (by kernel_rfl)
                      case hQ => exact fun _ _ _ h => h
                      case hB => exact hBeld
                      case hC => exact .inr hHeld
                      case hy => exact Or.inr ⟨by rfl, rfl⟩
                      (try simp only [List.getElem_toArray, List.getElem_cons_succ, List.getElem_cons_zero, Act.put, List.setIfInBounds_toArray, List.set_cons_zero, List.set_cons_succ])
                      apply AnyG_pure (i := 35) rfl (by kernel_rfl) (by kernel_rfl) (by kernel_rfl) (by kernel_rfl)
                      case hQ => exact fun _ _ _ h => h
                      case hB => exact hBeld
                      case hC => exact .inr hHeld
                      case hy => exact Or.inr ⟨by rfl, rfl⟩
                      (try simp only [List.getElem_toArray, List.getElem_cons_succ, List.getElem_cons_zero, Act.put, List.setIfInBounds_toArray, List.set_cons_zero, List.set_cons_succ])
                      apply AnyG_pure (i := 36) rfl (by kernel_rfl) (by kernel_rfl) (by kernel_rfl) (by kernel_rfl)
                      case hQ => exact fun _ _ _ h => h
                      case hB => exact hBeld
                      case hC => exact .inr hHeld
                      case hy => exact Or.inr ⟨by rfl, rfl⟩
                      (try simp only [List.getElem_toArray, List.getElem_cons_succ, List.getElem_cons_zero, Act.put, List.setIfInBounds_toArray, List.set_cons_zero, List.set_cons_succ])
                      apply AnyG_pure (i := 37) rfl (by kernel_rfl) (by kernel_rfl) (by kernel_rfl) (by kernel_rfl)
                      case hQ => exact fun _ _ _ h => h
                      case hB => exact hBeld
                      case hC => exact .inr hHeld
                      case hy => exact Or.inr ⟨by rfl, rfl⟩
                      (try simp only [List.getElem_toArray, List.getElem_cons_succ, List.getElem_cons_zero, Act.put, List.setIfInBounds_toArray, List.set_cons_zero, List.set_cons_succ])
                      apply AnyG_pure (i := 38) rfl (by kernel_rfl) (by kernel_rfl) (by kernel_rfl) (by kernel_rfl)
                      case hQ => exact fun _ _ _ h => h
                      case hB => exact hBeld
                      case hC => exact .inr hHeld
                      case hy => exact Or.inr ⟨by rfl, rfl⟩
                      (try simp only [List.getElem_toArray, List.getElem_cons_succ, List.getElem_cons_zero, Act.put, List.setIfInBounds_toArray, List.set_cons_zero, List.set_cons_succ])
                      apply AnyG_pure (i := 39) rfl (by kernel_rfl) (by kernel_rfl) (by kernel_rfl) (by kernel_rfl)
                      case hQ => exact fun _ _ _ h => h
                      case hB => exact hBeld
                      case hC => exact .inr hHeld
                      case hy => exact Or.inr ⟨by rfl, rfl⟩
                      (try simp only [List.getElem_toArray, List.getElem_cons_succ, List.getElem_cons_zero, Act.put, List.setIfInBounds_toArray, List.set_cons_zero, List.set_cons_succ])
                      apply AnyG_pure (i := 40) rfl (by kernel_rfl) (by kernel_rfl) (by kernel_rfl) (by kernel_rfl)
                      case hQ => exact fun _ _ _ h => h
                      case hB => exact hBeld
                      case hC => exact .inr hHeld
                      case hy => exact Or.inr ⟨by rfl, rfl⟩
                      (try simp only [List.getElem_toArray, List.getElem_cons_succ, List.getElem_cons_zero, Act.put, List.setIfInBounds_toArray, List.set_cons_zero, List.set_cons_succ])
                      apply AnyG_pure (i := 41) rfl (by kernel_rfl) (by kernel_rfl) (by kernel_rfl) (by kernel_rfl)
                      case hQ => exact fun _ _ _ h => h
                      case hB => exact hBeld
                      case hC => exact .inr hHeld
                      case hy => exact Or.inr ⟨by rfl, rfl⟩
                      (try simp only [List.getElem_toArray, List.getElem_cons_succ, List.getElem_cons_zero, Act.put, List.setIfInBounds_toArray, List.set_cons_zero, List.set_cons_succ])
                      apply AnyG_pure (i := 42) rfl (by kernel_rfl) (by kernel_rfl) (by kernel_rfl) (by kernel_rfl)
                      case hQ => exact fun _ _ _ h => h
                      case hB => exact hBeld
                      case hC => exact .inr hHeld
                      case hy => exact Or.inr ⟨by rfl, rfl⟩
                      (try simp only [List.getElem_toArray, List.getElem_cons_succ, List.getElem_cons_zero, Act.put, List.setIfInBounds_toArray, List.set_cons_zero, List.set_cons_succ])
                      apply AnyG_pure (i := 43) rfl (by kernel_rfl) (by kernel_rfl) (by kernel_rfl) (by kernel_rfl)
                      case hQ => exact fun _ _ _ h => h
                      case hB => exact hBeld
                      case hC => exact .inr hHeld
                      case hy => (refine Or.inl ⟨by rfl, ?_⟩; intro w hSw; (try go_split_ands); go_simp; (try with_reducible rfl))
                      (try simp only [List.getElem_toArray, List.getElem_cons_succ, List.getElem_cons_zero, Act.put, List.setIfInBounds_toArray, List.set_cons_zero, List.set_cons_succ])
                      apply AnyG_pure (i := 44) rfl (by kernel_rfl) (by kernel_rfl) (by kernel_rfl) (by kernel_rfl)
                      case hQ => exact fun _ _ _ h => h
                      case hB => exact hBeld
                      case hC => exact .inr hHeld
                      case hy => (refine Or.inl ⟨by rfl, ?_⟩; intro w hSw; (try go_split_ands); go_simp; (try with_reducible rfl))
                      (try simp only [List.getElem_toArray, List.getElem_cons_succ, List.getElem_cons_zero, Act.put, List.setIfInBounds_toArray, List.set_cons_zero, List.set_cons_succ])
                      apply AnyG_pure (i := 45) rfl (by kernel_rfl) (by kernel_rfl) (by kernel_rfl) (by kernel_rfl)
                      case hQ => exact fun _ _ _ h => h
                      case hB => exact hBeld
                      case hC => exact .inr hHeld
                      case hy => (refine Or.inl ⟨by rfl, ?_⟩; intro w hSw; (try go_split_ands); go_simp; (try with_reducible rfl))
                      (try simp only [List.getElem_toArray, List.getElem_cons_succ, List.getElem_cons_zero, Act.put, List.setIfInBounds_toArray, List.set_cons_zero, List.set_cons_succ])
                      apply AnyG_pure (i := 46) rfl (by kernel_rfl) (by kernel_rfl) (by kernel_rfl) (by kernel_rfl)
                      case hQ => exact fun _ _ _ h => h
                      case hB => exact hBeld
                      case hC => exact .inr hHeld
                      case hy => (refine Or.inl ⟨by rfl, ?_⟩; intro w hSw; (try go_split_ands); go_simp; (try with_reducible rfl))
                      (try simp only [List.getElem_toArray, List.getElem_cons_succ, List.getElem_cons_zero, Act.put, List.setIfInBounds_toArray, List.set_cons_zero, List.set_cons_succ])
                      apply AnyG_pure (i := 47) rfl (by kernel_rfl) (by kernel_rfl) (by kernel_rfl) (by kernel_rfl)
                      case hQ => exact fun _ _ _ h => h
                      case hB => exact hBeld
                      case hC => exact .inr hHeld
                      case hy => (refine Or.inl ⟨by rfl, ?_⟩; intro w hSw; (try go_split_ands); go_simp; (try with_reducible rfl))
                      (try simp only [List.getElem_toArray, List.getElem_cons_succ, List.getElem_cons_zero, Act.put, List.setIfInBounds_toArray, List.set_cons_zero, List.set_cons_succ])
                      apply AnyG_pure (i := 48) rfl (by kernel_rfl) (by kernel_rfl) (by kernel_rfl) (by kernel_rfl)
                      case hQ => exact fun _ _ _ h => h
                      case hB => exact hBeld
                      case hC => exact .inr hHeld
                      case hy => (refine Or.inl ⟨by rfl, ?_⟩; intro w hSw; (try go_split_ands); go_simp; (try with_reducible rfl))
                      (try simp only [List.getElem_toArray, List.getElem_cons_succ, List.getElem_cons_zero, Act.put, List.setIfInBounds_toArray, List.set_cons_zero, List.set_cons_succ])
                      refine AnyG_one (i := 49) (by kernel_rfl) rfl (fun K hK => ?_)
                      (try simp only [List.getElem_toArray, List.getElem_cons_succ, List.getElem_cons_zero])
                      go_simp
                      clear hHeld
                      refine hK.out _ _ (.inl (by kernel_rfl)) (trivial) ?_
                      clear hK K
                      (try simp only [List.getElem_toArray, List.getElem_cons_succ, List.getElem_cons_zero, Act.put, List.setIfInBounds_toArray, List.set_cons_zero, List.set_cons_succ])
                      refine AnyG_done (by kernel_rfl) ?_ _
                      clear hBeld
                      go_wp2_with fail
                      go_roundw
                      case rel => exact ⟨k + 1, by go_num, by omega, HW.out.1, HW.out.2⟩
                      case measure => simp [intOf]; omega
                · have t2 := decide_eq_false h2
                  obtain rfl : V = false := by rw [hV, t2]; rfl
                  clear hV h1 h2
                  as_aux_lemma =>
                    refine wp_region_G (fun W : World => W.cell? ⟨g, 3 + k, none⟩ = some (.bool true) ∧ W.cell? ⟨wr.heap.size, 2, none⟩ = some (.int .i64 (lo : Int)) ∧ W.cell? ⟨wr.heap.size, 3, none⟩ = some (.int .i64 (hi' : Int))) (fun _ => True) [49] (by kernel_rfl) ?_
                    have hHeld : (fun W : World => W.cell? ⟨g, 3 + k, none⟩ = some (.bool true) ∧ W.cell? ⟨wr.heap.size, 2, none⟩ = some (.int .i64 (lo : Int)) ∧ W.cell? ⟨wr.heap.size, 3, none⟩ = some (.int .i64 (hi' : Int))) (wx.drew) := ⟨cm, p2, p3⟩
                    have hBeld : (fun _ => True) (wx.drew) := trivial
                    apply AnyG_pure (i := 0) rfl (by kernel_rfl) (by kernel_rfl) (by kernel_rfl) (by kernel_rfl)
                    case hQ => exact fun _ _ _ h => h
                    case hB => exact hBeld
                    case hC => exact .inr hHeld
                    case hy => (refine Or.inl ⟨by rfl, ?_⟩; intro w hSw; (try go_split_ands); go_simp; (try with_reducible rfl))
                    (try simp only [List.getElem_toArray, List.getElem_cons_zero, Act.put, List.setIfInBounds_toArray, List.set_cons_zero, List.set_cons_succ])
                    apply AnyG_pure (i := 1) rfl (by kernel_rfl) (by kernel_rfl) (by kernel_rfl) (by kernel_rfl)
                    case hQ => exact fun _ _ _ h => h
                    case hB => exact hBeld
                    case hC => exact .inr hHeld
                    case hy => (refine Or.inl ⟨by rfl, ?_⟩; intro w hSw; (try go_split_ands); go_simp; (try with_reducible rfl))
                    (try simp only [List.getElem_toArray, List.getElem_cons_succ, List.getElem_cons_zero, Act.put, List.setIfInBounds_toArray, List.set_cons_zero, List.set_cons_succ])
                    apply AnyG_pure (i := 2) rfl (by kernel_rfl) (by kernel_rfl) (by kernel_rfl) (by kernel_rfl)
                    case hQ => exact fun _ _ _ h => h
                    case hB => exact hBeld
                    case hC => exact .inr hHeld
                    case hy => (refine Or.inl ⟨by rfl, ?_⟩; intro w hSw; (try go_split_ands); go_simp; (try with_reducible rfl))
                    (try simp only [List.getElem_toArray, List.getElem_cons_succ, List.getElem_cons_zero, Act.put, List.setIfInBounds_toArray, List.set_cons_zero, List.set_cons_succ])
                    apply AnyG_pure (i := 3) rfl (by kernel_rfl) (by kernel_rfl) (by kernel_rfl) (by kernel_rfl)
                    case hQ => exact fun _ _ _ h => h
                    case hB => exact hBeld
                    case hC => exact .inr hHeld
                    case hy => (refine Or.inl ⟨by rfl, ?_⟩; intro w hSw; (try go_split_ands); go_simp; (try with_reducible rfl))
                    (try simp only [List.getElem_toArray, List.getElem_cons_succ, List.getElem_cons_zero, Act.put, List.setIfInBounds_toArray, List.set_cons_zero, List.set_cons_succ])
                    apply AnyG_pure (i := 4) rfl (by kernel_rfl) (by kernel_rfl) (by kernel_rfl) (by kernel_rfl)
                    case hQ => exact fun _ _ _ h => h
                    case hB => exact hBeld
                    case hC => exact .inr hHeld
                    case hy => (refine Or.inl ⟨by rfl, ?_⟩; intro w hSw; (try go_split_ands); go_simp; (try with_reducible rfl))
                    (try simp only [List.getElem_toArray, List.getElem_cons_succ, List.getElem_cons_zero, Act.put, List.setIfInBounds_toArray, List.set_cons_zero, List.set_cons_succ])
                    apply AnyG_pure (i := 5) rfl (by kernel_rfl) (by kernel_rfl) (by kernel_rfl) (by kernel_rfl)
                    case hQ => exact fun _ _ _ h => h
                    case hB => exact hBeld
                    case hC => exact .inr hHeld
                    case hy => (refine Or.inl ⟨by rfl, ?_⟩; intro w hSw; (try go_split_ands); go_simp; (try with_reducible rfl))
                    (try simp only [List.getElem_toArray, List.getElem_cons_succ, List.getElem_cons_zero, Act.put, List.setIfInBounds_toArray, List.set_cons_zero, List.set_cons_succ])
                    apply AnyG_pure (i := 6) rfl (by kernel_rfl) (by kernel_rfl) (by kernel_rfl) (by kernel_rfl)
                    case hQ => exact fun _ _ _ h => h
                    case hB => exact hBeld
                    case hC => exact .inr hHeld
                    case hy => (refine Or.inl ⟨by rfl, ?_⟩; intro w hSw; (try go_split_ands); go_simp; (try with_reducible rfl))
                    (try simp only [List.getElem_toArray, List.getElem_cons_succ, List.getElem_cons_zero, Act.put, List.setIfInBounds_toArray, List.set_cons_zero, List.set_cons_succ])
                    apply AnyG_take (i := 7) rfl (by kernel_rfl) (by kernel_rfl) (by kernel_rfl) (by kernel_rfl)
                    case hQ => exact fun _ _ _ h => h
                    case hB => exact hBeld
                    case hC => exact hHeld
                    case hy => (refine Or.inl ⟨by rfl, ?_⟩; intro w hSw; (try go_split_ands); go_simp; (try with_reducible rfl))
                    (try simp only [List.getElem_toArray, List.getElem_cons_succ, List.getElem_cons_zero, Act.put, List.setIfInBounds_toArray, List.set_cons_zero, List.set_cons_succ])
                    apply AnyG_pure (i := 8) rfl (by kernel_rfl) (by kernel_rfl) (by kernel_rfl) (by kernel_rfl)
                    case hQ => exact fun _ _ _ h => h
                    case hB => exact hBeld
                    case hC => exact .inr hHeld
                    case hy => (refine Or.inl ⟨by rfl, ?_⟩; intro w hSw; (try go_split_ands); go_simp; (try with_reducible rfl))
                    (try simp only [List.getElem_toArray, List.getElem_cons_succ, List.getElem_cons_zero, Act.put, List.setIfInBounds_toArray, List.set_cons_zero, List.set_cons_succ])
                    apply AnyG_pure (i := 9) rfl (by kernel_rfl) (by kernel_rfl) (by kernel_rfl) (by kernel_rfl)
                    case hQ => exact fun _ _ _ h => h
                    case hB => exact hBeld
                    case hC => exact .inr hHeld
                    case hy => (refine Or.inl ⟨by rfl, ?_⟩; intro w hSw; (try go_split_ands); go_simp; (try with_reducible rfl))
                    (try simp only [List.getElem_toArray, List.getElem_cons_succ, List.getElem_cons_zero, Act.put, List.setIfInBounds_toArray, List.set_cons_zero, List.set_cons_succ])
                    apply AnyG_take (i := 10) rfl (by kernel_rfl) (by kernel_rfl) (by kernel_rfl) (by kernel_rfl)
                    case hQ => exact fun _ _ _ h => h
                    case hB => exact hBeld
                    case hC => exact hHeld
                    case hy => (refine Or.inl ⟨by rfl, ?_⟩; intro w hSw; (try go_split_ands); go_simp; (try with_reducible rfl))
                    (try simp only [List.getElem_toArray, List.getElem_cons_succ, List.getElem_cons_zero, Act.put, List.setIfInBounds_toArray, List.set_cons_zero, List.set_cons_succ])
                    apply AnyG_pure (i := 11) rfl (by kernel_rfl) (by kernel_rfl) (by kernel_rfl) (by kernel_rfl)
                    case hQ => exact fun _ _ _ h => h
                    case hB => exact hBeld
                    case hC => exact .inr hHeld
                    case hy => (refine Or.inl ⟨by rfl, ?_⟩; intro w hSw; (try go_split_ands); go_simp; (try with_reducible rfl))
                    (try simp only [List.getElem_toArray, List.getElem_cons_succ, List.getElem_cons_zero, Act.put, List.setIfInBounds_toArray, List.set_cons_zero, List.set_cons_succ])
                    apply AnyG_take (i := 12) rfl (by kernel_rfl) (by kernel_rfl) (by kernel_rfl) (by kernel_rfl)
                    case hQ => exact fun _ _ _ h => h
                    case hB => exact hBeld
                    case hC => exact hHeld
                    case hy => (refine Or.inl ⟨by rfl, ?_⟩; intro w hSw; (try go_split_ands); go_simp; (try with_reducible rfl))
                    (try simp only [List.getElem_toArray, List.getElem_cons_succ, List.getElem_cons_zero, Act.put, List.setIfInBounds_toArray, List.set_cons_zero, List.set_cons_succ])
                    apply AnyG_pure (i := 13) rfl (by kernel_rfl) (by kernel_rfl) (by kernel_rfl) (by kernel_rfl)
                    case hQ => exact fun _ _ _ h => h
                    case hB => exact hBeld
                    case hC => exact .inr hHeld
                    case hy => (refine Or.inl ⟨by rfl, ?_⟩; intro w hSw; (try go_split_ands); go_simp; (try with_reducible rfl))
                    (try simp only [List.getElem_toArray, List.getElem_cons_succ, List.getElem_cons_zero, Act.put, List.setIfInBounds_toArray, List.set_cons_zero, List.set_cons_succ])
                    apply AnyG_pure (i := 14) rfl (by kernel_rfl) (by kernel_rfl) (by kernel_rfl) (by kernel_rfl)
                    case hQ => exact fun _ _ _ h => h
                    case hB => exact hBeld
                    case hC => exact .inr hHeld
                    case hy => (refine Or.inl ⟨by rfl, ?_⟩; intro w hSw; (try go_split_ands); go_simp; (try with_reducible rfl))
                    (try simp only [List.getElem_toArray, List.getElem_cons_succ, List.getElem_cons_zero, Act.put, List.setIfInBounds_toArray, List.set_cons_zero, List.set_cons_succ])
                    apply AnyG_pure (i := 15) rfl (by kernel_rfl) (by kernel_rfl) (by kernel_rfl) (by kernel_rfl)
                    case hQ => exact fun _ _ _ h => h
                    case hB => exact hBeld
                    case hC => exact .inr hHeld
                    case hy => (refine Or.inl ⟨by rfl, ?_⟩; intro w hSw; (try go_split_ands); go_simp; (try with_reducible rfl))
                    (try simp only [List.getElem_toArray, List.getElem_cons_succ, List.getElem_cons_zero, Act.put, List.setIfInBounds_toArray, List.set_cons_zero, List.set_cons_succ])
                    apply AnyG_pure (i := 16) rfl (by kernel_rfl) (by kernel_rfl) (by kernel_rfl) (by kernel_rfl)
                    case hQ => exact fun _ _ _ h => h
                    case hB => exact hBeld
                    case hC => exact .inr hHeld
                    case hy => (refine Or.inl ⟨by rfl, ?_⟩; intro w hSw; (try go_split_ands); go_simp; (try with_reducible rfl))
                    (try simp only [List.getElem_toArray, List.getElem_cons_succ, List.getElem_cons_zero, Act.put, List.setIfInBounds_toArray, List.set_cons_zero, List.set_cons_succ])
                    apply AnyG_take (i := 17) rfl (by kernel_rfl) (by kernel_rfl) (by kernel_rfl) (by kernel_rfl)
                    case hQ => exact fun _ _ _ h => h
                    case hB => exact hBeld
                    case hC => exact hHeld
                    case hy => (refine Or.inl ⟨by rfl, ?_⟩; intro w hSw; (try go_split_ands); go_simp; (try with_reducible rfl))
                    (try simp only [List.getElem_toArray, List.getElem_cons_succ, List.getElem_cons_zero, Act.put, List.setIfInBounds_toArray, List.set_cons_zero, List.set_cons_succ])
                    apply AnyG_pure (i := 18) rfl (by kernel_rfl) (by kernel_rfl) (by kernel_rfl) (by kernel_rfl)
                    case hQ => exact fun _ _ _ h => h
                    case hB => exact hBeld
                    case hC => exact .inr hHeld
                    case hy => (refine Or.inl ⟨by rfl, ?_⟩; intro w hSw; (try go_split_ands); go_simp; (try with_reducible rfl))
                    (try simp only [List.getElem_toArray, List.getElem_cons_succ, List.getElem_cons_zero, Act.put, List.setIfInBounds_toArray, List.set_cons_zero, List.set_cons_succ])
                    apply AnyG_pure (i := 19) rfl (by kernel_rfl) (by kernel_rfl) (by kernel_rfl) (by kernel_rfl)
                    case hQ => exact fun _ _ _ h => h
                    case hB => exact hBeld
                    case hC => exact .inr hHeld
                    case hy => (refine Or.inl ⟨by rfl, ?_⟩; intro w hSw; (try go_split_ands); go_simp; (try with_reducible rfl))
                    (try simp only [List.getElem_toArray, List.getElem_cons_succ, List.getElem_cons_zero, Act.put, List.setIfInBounds_toArray, List.set_cons_zero, List.set_cons_succ])
                    apply AnyG_pure (i := 20) rfl (by kernel_rfl) (by kernel_rfl) (by kernel_rfl) (by kernel_rfl)
                    case hQ => exact fun _ _ _ h => h
                    case hB => exact hBeld
                    case hC => exact .inr hHeld
                    case hy => (refine Or.inl ⟨by rfl, ?_⟩; intro w hSw; (try go_split_ands); go_simp; (try with_reducible rfl))
                    (try simp only [List.getElem_toArray, List.getElem_cons_succ, List.getElem_cons_zero, Act.put, List.setIfInBounds_toArray, List.set_cons_zero, List.set_cons_succ])
                    apply AnyG_pure (i := 21) rfl (by kernel_rfl) (by kernel_rfl) (by kernel_rfl) (by kernel_rfl)
                    case hQ => exact fun _ _ _ h => h
                    case hB => exact hBeld
                    case hC => exact .inr hHeld
                    case hy => exact Or.inr ⟨by rfl, rfl⟩
                    (try simp only [List.getElem_toArray, List.getElem_cons_succ, List.getElem_cons_zero, Act.put, List.setIfInBounds_toArray, List.set_cons_zero, List.set_cons_succ])
                    apply AnyG_pure (i := 22) rfl (by kernel_rfl) (by kernel_rfl) (by kernel_rfl) (by kernel_rfl)
                    case hQ => exact fun _ _ _ h => h
                    case hB => exact hBeld
                    case hC => exact .inr hHeld
                    case hy => exact Or.inr ⟨by rfl, rfl⟩
                    (try simp only [List.getElem_toArray, List.getElem_cons_succ, List.getElem_cons_zero, Act.put, List.setIfInBounds_toArray, List.set_cons_zero, List.set_cons_succ])
                    apply AnyG_pure (i := 23) rfl (by kernel_rfl) (by kernel_rfl) (by kernel_rfl) (by kernel_rfl)
                    case hQ => exact fun _ _ _ h => h
                    case hB => exact hBeld
                    case hC => exact .inr hHeld
                    case hy => exact Or.inr ⟨by rfl, rfl⟩
                    (try simp only [List.getElem_toArray, List.getElem_cons_succ, List.getElem_cons_zero, Act.put, List.setIfInBounds_toArray, List.set_cons_zero, List.set_cons_succ])
                    apply AnyG_pure (i := 24) rfl (by kernel_rfl) (by kernel_rfl) (by kernel_rfl) (by kernel_rfl)
                    case hQ => exact fun _ _ _ h => h
                    case hB => exact hBeld
                    case hC => exact .inr hHeld
                    case hy => exact Or.inr ⟨by rfl, rfl⟩
                    (try simp only [List.getElem_toArray, List.getElem_cons_succ, List.getElem_cons_zero, Act.put, List.setIfInBounds_toArray, List.set_cons_zero, List.set_cons_succ])
                    apply AnyG_pure (i := 25) rfl (by kernel_rfl) (by kernel_rfl) (by kernel_rfl) (by kernel_rfl)
                    case hQ => exact fun _ _ _ h => h
                    case hB => exact hBeld
                    case hC => exact .inr hHeld
                    case hy => (refine Or.inl ⟨by rfl, ?_⟩; intro w hSw; (try go_split_ands); go_simp; (try with_reducible rfl))
                    (try simp only [List.getElem_toArray, List.getElem_cons_succ, List.getElem_cons_zero, Act.put, List.setIfInBounds_toArray, List.set_cons_zero, List.set_cons_succ])
                    apply AnyG_pure (i := 26) rfl (by kernel_rfl) (by kernel_rfl) (by kernel_rfl) (by kernel_rfl)
                    case hQ => exact fun _ _ _ h => h
                    case hB => exact hBeld
                    case hC => exact .inr hHeld
                    case hy => (refine Or.inl ⟨by rfl, ?_⟩; intro w hSw; (try go_split_ands); go_simp; (try with_reducible rfl))
                    (try simp only [List.getElem_toArray, List.getElem_cons_succ, List.getElem_cons_zero, Act.put, List.setIfInBounds_toArray, List.set_cons_zero, List.set_cons_succ])
                    apply AnyG_pure (i := 27) rfl (by kernel_rfl) (by kernel_rfl) (by kernel_rfl) (by kernel_rfl)
                    case hQ => exact fun _ _ _ h => h
                    case hB => exact hBeld
                    case hC => exact .inr hHeld
                    case hy => (refine Or.inl ⟨by rfl, ?_⟩; intro w hSw; (try go_split_ands); go_simp; (try with_reducible rfl))
                    (try simp only [List.getElem_toArray, List.getElem_cons_succ, List.getElem_cons_zero, Act.put, List.setIfInBounds_toArray, List.set_cons_zero, List.set_cons_succ])
                    apply AnyG_take (i := 28) rfl (by kernel_rfl) (by kernel_rfl) (by kernel_rfl) (by kernel_rfl)
                    case hQ => exact fun _ _ _ h => h
                    case hB => exact hBeld
                    case hC => exact hHeld
                    case hy => (refine Or.inl ⟨by rfl, ?_⟩; intro w hSw; (try go_split_ands); go_simp; (try with_reducible rfl))
                    (try simp only [List.getElem_toArray, List.getElem_cons_succ, List.getElem_cons_zero, Act.put, List.setIfInBounds_toArray, List.set_cons_zero, List.set_cons_succ])
                    apply AnyG_pure (i := 29) rfl (by kernel_rfl) (by kernel_rfl) (by kernel_rfl) (by kernel_rfl)
                    case hQ => exact fun _ _ _ h => h
                    case hB => exact hBeld
                    case hC => exact .inr hHeld
                    case hy => (refine Or.inl ⟨by rfl, ?_⟩; intro w hSw; (try go_split_ands); go_simp; (try with_reducible rfl))
                    (try simp only [List.getElem_toArray, List.getElem_cons_succ, List.getElem_cons_zero, Act.put, List.setIfInBounds_toArray, List.set_cons_zero, List.set_cons_succ])
                    apply AnyG_take (i := 30) rfl (by kernel_rfl) (by kernel_rfl) (by kernel_rfl) (by kernel_rfl)
                    case hQ => exact fun _ _ _ h => h
                    case hB => exact hBeld
                    case hC => exact hHeld
                    case hy => (refine Or.inl ⟨by rfl, ?_⟩; intro w hSw; (try go_split_ands); go_simp; (try with_reducible rfl))
                    (try simp only [List.getElem_toArray, List.getElem_cons_succ, List.getElem_cons_zero, Act.put, List.setIfInBounds_toArray, List.set_cons_zero, List.set_cons_succ])
                    apply AnyG_pure (i := 31) rfl (by kernel_rfl) (by kernel_rfl) (by kernel_rfl) (by kernel_rfl)
                    case hQ => exact fun _ _ _ h => h
                    case hB => exact hBeld
                    case hC => exact .inr hHeld
                    case hy => (refine Or.inl ⟨by rfl, ?_⟩; intro w hSw; (try go_split_ands); go_simp; (try with_reducible rfl))
                    (try simp only [List.getElem_toArray, List.getElem_cons_succ, List.getElem_cons_zero, Act.put, List.setIfInBounds_toArray, List.set_cons_zero, List.set_cons_succ])
                    apply AnyG_pure (i := 32) rfl (by kernel_rfl) (by kernel_rfl) (by kernel_rfl) (by kernel_rfl)
                    case hQ => exact fun _ _ _ h => h
                    case hB => exact hBeld
                    case hC => exact .inr hHeld
                    case hy => (refine Or.inl ⟨by rfl, ?_⟩; intro w hSw; (try go_split_ands); go_simp; (try with_reducible rfl))
                    (try simp only [List.getElem_toArray, List.getElem_cons_succ, List.getElem_cons_zero, Act.put, List.setIfInBounds_toArray, List.set_cons_zero, List.set_cons_succ])
                    apply AnyG_pure (i := 33) rfl (by kernel_rfl) (by kernel_rfl) (by kernel_rfl) (by kernel_rfl)
                    case hQ => exact fun _ _ _ h => h
                    case hB => exact hBeld
                    case hC => exact .inr hHeld
                    case hy => exact Or.inr ⟨by rfl, rfl⟩
                    (try simp only [List.getElem_toArray, List.getElem_cons_succ, List.getElem_cons_zero, Act.put, List.setIfInBounds_toArray, List.set_cons_zero, List.set_cons_succ])
                    apply AnyG_pure (i := 34) rfl (by kernel_rfl) (by kernel_rfl) (by kernel_rfl) (by kernel_rfl)
                    case hQ => exact fun _ _ _ h => h
                    case hB => exact hBeld
                    case hC => exact .inr hHeld
                    case hy => exact Or.inr ⟨by rfl, rfl⟩
                    (try simp only [List.getElem_toArray, List.getElem_cons_succ, List.getElem_cons_zero, Act.put, List.setIfInBounds_toArray, List.set_cons_zero, List.set_cons_succ])
                    apply AnyG_pure (i := 35) rfl (by kernel_rfl) (by kernel_rfl) (by kernel_rfl) (by kernel_rfl)
                    case hQ => exact fun _ _ _ h => h
                    case hB => exact hBeld
                    case hC => exact .inr hHeld
                    case hy => exact Or.inr ⟨by rfl, rfl⟩
                    (try simp only [List.getElem_toArray, List.getElem_cons_succ, List.getElem_cons_zero, Act.put, List.setIfInBounds_toArray, List.set_cons_zero, List.set_cons_succ])
                    apply AnyG_pure (i := 36) rfl (by kernel_rfl) (by kernel_rfl) (by kernel_rfl) (by kernel_rfl)
                    case hQ => exact fun _ _ _ h => h
                    case hB => exact hBeld
                    case hC => exact .inr hHeld
                    case hy => exact Or.inr ⟨by rfl, rfl⟩
                    (try simp only [List.getElem_toArray, List.getElem_cons_succ, List.getElem_cons_zero, Act.put, List.setIfInBounds_toArray, List.set_cons_zero, List.set_cons_succ])
                    apply AnyG_pure (i := 37) rfl (by kernel_rfl) (by kernel_rfl) (by kernel_rfl) (by kernel_rfl)
                    case hQ => exact fun _ _ _ h => h
                    case hB => exact hBeld
                    case hC => exact .inr hHeld
                    case hy => exact Or.inr ⟨by rfl, rfl⟩
                    (try simp only [List.getElem_toArray, List.getElem_cons_succ, List.getElem_cons_zero, Act.put, List.setIfInBounds_toArray, List.set_cons_zero, List.set_cons_succ])
                    apply AnyG_pure (i := 38) rfl (by kernel_rfl) (by kernel_rfl) (by kernel_rfl) (by kernel_rfl)
                    case hQ => exact fun _ _ _ h => h
                    case hB => exact hBeld
                    case hC => exact .inr hHeld
                    case hy => exact Or.inr ⟨by rfl, rfl⟩
                    (try simp only [List.getElem_toArray, List.getElem_cons_succ, List.getElem_cons_zero, Act.put, List.setIfInBounds_toArray, List.set_cons_zero, List.set_cons_succ])
                    apply AnyG_pure (i := 39) rfl (by kernel_rfl) (by kernel_rfl) (by kernel_rfl) (by kernel_rfl)
                    case hQ => exact fun _ _ _ h => h
                    case hB => exact hBeld
                    case hC => exact .inr hHeld
                    case hy => exact Or.inr ⟨by rfl, rfl⟩
                    (try simp only [List.getElem_toArray, List.getElem_cons_succ, List.getElem_cons_zero, Act.put, List.setIfInBounds_toArray, List.set_cons_zero, List.set_cons_succ])
                    apply AnyG_pure (i := 40) rfl (by kernel_rfl) (by kernel_rfl) (by kernel_rfl) (by kernel_rfl)
                    case hQ => exact fun _ _ _ h => h
                    case hB => exact hBeld
                    case hC => exact .inr hHeld
                    case hy => exact Or.inr ⟨by rfl, rfl⟩
                    (try simp only [List.getElem_toArray, List.getElem_cons_succ, List.getElem_cons_zero, Act.put, List.setIfInBounds_toArray, List.set_cons_zero, List.set_cons_succ])
                    apply AnyG_pure (i := 41) rfl (by kernel_rfl) (by kernel_rfl) (by kernel_rfl) (by kernel_rfl)
                    case hQ => exact fun _ _ _ h => h
                    case hB => exact hBeld
                    case hC => exact .inr hHeld
                    case hy => exact Or.inr ⟨by rfl, rfl⟩
                    (try simp only [List.getElem_toArray, List.getElem_cons_succ, List.getElem_cons_zero, Act.put, List.setIfInBounds_toArray, List.set_cons_zero, List.set_cons_succ])
                    apply AnyG_pure (i := 42) rfl (by kernel_rfl) (by kernel_rfl) (by kernel_rfl) (by kernel_rfl)
                    case hQ => exact fun _ _ _ h => h
                    case hB => exact hBeld
                    case hC => exact .inr hHeld
                    case hy => exact Or.inr ⟨by rfl, rfl⟩
                    (try simp only [List.getElem_toArray, List.getElem_cons_succ, List.getElem_cons_zero, Act.put, List.setIfInBounds_toArray, List.set_cons_zero, List.set_cons_succ])
                    apply AnyG_pure (i := 43) rfl (by kernel_rfl) (by kernel_rfl) (by kernel_rfl) (by kernel_rfl)
                    case hQ => exact fun _ _ _ h => h
                    case hB => exact hBeld
                    case hC => exact .inr hHeld
                    case hy => (refine Or.inl ⟨by rfl, ?_⟩; intro w hSw; (try go_split_ands); go_simp; (try with_reducible rfl))
                    (try simp only [List.getElem_toArray, List.getElem_cons_succ, List.getElem_cons_zero, Act.put, List.setIfInBounds_toArray, List.set_cons_zero, List.set_cons_succ])
                    apply AnyG_pure (i := 44) rfl (by kernel_rfl) (by kernel_rfl) (by kernel_rfl) (by kernel_rfl)
                    case hQ => exact fun _ _ _ h => h
                    case hB => exact hBeld
                    case hC => exact .inr hHeld
                    case hy => (refine Or.inl ⟨by rfl, ?_⟩; intro w hSw; (try go_split_ands); go_simp; (try with_reducible rfl))
                    (try simp only [List.getElem_toArray, List.getElem_cons_succ, List.getElem_cons_zero, Act.put, List.setIfInBounds_toArray, List.set_cons_zero, List.set_cons_succ])
                    apply AnyG_pure (i := 45) rfl (by kernel_rfl) (by kernel_rfl) (by kernel_rfl) (by kernel_rfl)
                    case hQ => exact fun _ _ _ h => h
                    case hB => exact hBeld
                    case hC => exact .inr hHeld
                    case hy => (refine Or.inl ⟨by rfl, ?_⟩; intro w hSw; (try go_split_ands); go_simp; (try with_reducible rfl))
                    (try simp only [List.getElem_toArray, List.getElem_cons_succ, List.getElem_cons_zero, Act.put, List.setIfInBounds_toArray, List.set_cons_zero, List.set_cons_succ])
                    apply AnyG_pure (i := 46) rfl (by kernel_rfl) (by kernel_rfl) (by kernel_rfl) (by kernel_rfl)
                    case hQ => exact fun _ _ _ h => h
                    case hB => exact hBeld
                    case hC => exact .inr hHeld
                    case hy => (refine Or.inl ⟨by rfl, ?_⟩; intro w hSw; (try go_split_ands); go_simp; (try with_reducible rfl))
                    (try simp only [List.getElem_toArray, List.getElem_cons_succ, List.getElem_cons_zero, Act.put, List.setIfInBounds_toArray, List.set_cons_zero, List.set_cons_succ])
                    apply AnyG_pure (i := 47) rfl (by kernel_rfl) (by kernel_rfl) (by kernel_rfl) (by kernel_rfl)
                    case hQ => exact fun _ _ _ h => h
                    case hB => exact hBeld
                    case hC => exact .inr hHeld
                    case hy => (refine Or.inl ⟨by rfl, ?_⟩; intro w hSw; (try go_split_ands); go_simp; (try with_reducible rfl))
                    (try simp only [List.getElem_toArray, List.getElem_cons_succ, List.getElem_cons_zero, Act.put, List.setIfInBounds_toArray, List.set_cons_zero, List.set_cons_succ])
                    apply AnyG_pure (i := 48) rfl (by kernel_rfl) (by kernel_rfl) (by kernel_rfl) (by kernel_rfl)
                    case hQ => exact fun _ _ _ h => h
                    case hB => exact hBeld
                    case hC => exact .inr hHeld
                    case hy => (refine Or.inl ⟨by rfl, ?_⟩; intro w hSw; (try go_split_ands); go_simp; (try with_reducible rfl))
                    (try simp only [List.getElem_toArray, List.getElem_cons_succ, List.getElem_cons_zero, Act.put, List.setIfInBounds_toArray, List.set_cons_zero, List.set_cons_succ])
                    refine AnyG_one (i := 49) (by kernel_rfl) rfl (fun K hK => ?_)
                    (try simp only [List.getElem_toArray, List.getElem_cons_succ, List.getElem_cons_zero])
                    go_simp
                    clear hHeld
                    refine hK.out _ _ (.inl (by kernel_rfl)) (trivial) ?_
                    clear hK K
                    (try simp only [List.getElem_toArray, List.getElem_cons_succ, List.getElem_cons_zero, Act.put, List.setIfInBounds_toArray, List.set_cons_zero, List.set_cons_succ])
                    refine AnyG_done (by kernel_rfl) ?_ _
                    clear hBeld
                    go_wp2_with fail
                    go_roundw
                    case rel => exact ⟨k + 1, by go_num, by omega, HW.out.1, HW.out.2⟩
                    case measure => simp [intOf]; omega
              · rw [if_neg h1] at hV
                have t1 := decide_eq_false h1
                have t4 : decide (hi' < lo) = true := decide_eq_true (by omega)
                by_cases h2 : lo ≤ k
                · have t2 := decide_eq_true h2
                  obtain rfl : V = true := by rw [hV, t2]; rfl
                  clear hV h1 h2
                  as_aux_lemma =>
                    refine wp_region_G (fun W : World => W.cell? ⟨g, 3 + k, none⟩ = some (.bool true) ∧ W.cell? ⟨wr.heap.size, 2, none⟩ = some (.int .i64 (lo : Int)) ∧ W.cell? ⟨wr.heap.size, 3, none⟩ = some (.int .i64 (hi' : Int))) (fun _ => True) [49] (by kernel_rfl) ?_
                    have hHeld : (fun W : World => W.cell? ⟨g, 3 + k, none⟩ = some (.bool true) ∧ W.cell? ⟨wr.heap.size, 2, none⟩ = some (.int .i64 (lo : Int)) ∧ W.cell? ⟨wr.heap.size, 3, none⟩ = some (.int .i64 (hi' : Int))) (wx.drew) := ⟨cm, p2, p3⟩
                    have hBeld : (fun _ => True) (wx.drew) := trivial
                    apply AnyG_pure (i := 0) rfl (by kernel_rfl) (by kernel_rfl) (by kernel_rfl) (by kernel_rfl)
                    case hQ => exact fun _ _ _ h => h
                    case hB => exact hBeld
                    case hC => exact .inr hHeld
                    case hy => (refine Or.inl ⟨by rfl, ?_⟩; intro w hSw; (try go_split_ands); go_simp; (try with_reducible rfl))
                    (try simp only [List.getElem_toArray, List.getElem_cons_zero, Act.put, List.setIfInBounds_toArray, List.set_cons_zero, List.set_cons_succ])
                    apply AnyG_pure (i := 1) rfl (by kernel_rfl) (by kernel_rfl) (by kernel_rfl) (by kernel_rfl)
                    case hQ => exact fun _ _ _ h => h
                    case hB => exact hBeld
                    case hC => exact .inr hHeld
                    case hy => (refine Or.inl ⟨by rfl, ?_⟩; intro w hSw; (try go_split_ands); go_simp; (try with_reducible rfl))
                    (try simp only [List.getElem_toArray, List.getElem_cons_succ, List.getElem_cons_zero, Act.put, List.setIfInBounds_toArray, List.set_cons_zero, List.set_cons_succ])
                    apply AnyG_pure (i := 2) rfl (by kernel_rfl) (by kernel_rfl) (by kernel_rfl) (by kernel_rfl)
                    case hQ => exact fun _ _ _ h => h
                    case hB => exact hBeld
                    case hC => exact .inr hHeld
                    case hy => (refine Or.inl ⟨by rfl, ?_⟩; intro w hSw; (try go_split_ands); go_simp; (try with_reducible rfl))
                    (try simp only [List.getElem_toArray, List.getElem_cons_succ, List.getElem_cons_zero, Act.put, List.setIfInBounds_toArray, List.set_cons_zero, List.set_cons_succ])
                    apply AnyG_pure (i := 3) rfl (by kernel_rfl) (by kernel_rfl) (by kernel_rfl) (by kernel_rfl)
                    case hQ => exact fun _ _ _ h => h
                    case hB => exact hBeld
                    case hC => exact .inr hHeld
                    case hy => (refine Or.inl ⟨by rfl, ?_⟩; intro w hSw; (try go_split_ands); go_simp; (try with_reducible rfl))
                    (try simp only [List.getElem_toArray, List.getElem_cons_succ, List.getElem_cons_zero, Act.put, List.setIfInBounds_toArray, List.set_cons_zero, List.set_cons_succ])
                    apply AnyG_pure (i := 4) rfl (by kernel_rfl) (by kernel_rfl) (by kernel_rfl) (by kernel_rfl)
                    case hQ => exact fun _ _ _ h => h
                    case hB => exact hBeld
                    case hC => exact .inr hHeld
                    case hy => (refine Or.inl ⟨by rfl, ?_⟩; intro w hSw; (try go_split_ands); go_simp; (try with_reducible rfl))
                    (try simp only [List.getElem_toArray, List.getElem_cons_succ, List.getElem_cons_zero, Act.put, List.setIfInBounds_toArray, List.set_cons_zero, List.set_cons_succ])
                    apply AnyG_pure (i := 5) rfl (by kernel_rfl) (by kernel_rfl) (by kernel_rfl) (by kernel_rfl)
                    case hQ => exact fun _ _ _ h => h
                    case hB => exact hBeld
                    case hC => exact .inr hHeld
                    case hy => (refine Or.inl ⟨by rfl, ?_⟩; intro w hSw; (try go_split_ands); go_simp; (try with_reducible rfl))
                    (try simp only [List.getElem_toArray, List.getElem_cons_succ, List.getElem_cons_zero, Act.put, List.setIfInBounds_toArray, List.set_cons_zero, List.set_cons_succ])
                    apply AnyG_pure (i := 6) rfl (by kernel_rfl) (by kernel_rfl) (by kernel_rfl) (by kernel_rfl)
                    case hQ => exact fun _ _ _ h => h
                    case hB => exact hBeld
                    case hC => exact .inr hHeld
                    case hy => (refine Or.inl ⟨by rfl, ?_⟩; intro w hSw; (try go_split_ands); go_simp; (try with_reducible rfl))
                    (try simp only [List.getElem_toArray, List.getElem_cons_succ, List.getElem_cons_zero, Act.put, List.setIfInBounds_toArray, List.set_cons_zero, List.set_cons_succ])
                    apply AnyG_take (i := 7) rfl (by kernel_rfl) (by kernel_rfl) (by kernel_rfl) (by kernel_rfl)
                    case hQ => exact fun _ _ _ h => h
                    case hB => exact hBeld
                    case hC => exact hHeld
                    case hy => (refine Or.inl ⟨by rfl, ?_⟩; intro w hSw; (try go_split_ands); go_simp; (try with_reducible rfl))
                    (try simp only [List.getElem_toArray, List.getElem_cons_succ, List.getElem_cons_zero, Act.put, List.setIfInBounds_toArray, List.set_cons_zero, List.set_cons_succ])
                    apply AnyG_pure (i := 8) rfl (by kernel_rfl) (by kernel_rfl) (by kernel_rfl) (by kernel_rfl)
                    case hQ => exact fun _ _ _ h => h
                    case hB => exact hBeld
                    case hC => exact .inr hHeld
                    case hy => (refine Or.inl ⟨by rfl, ?_⟩; intro w hSw; (try go_split_ands); go_simp; (try with_reducible rfl))
                    (try simp only [List.getElem_toArray, List.getElem_cons_succ, List.getElem_cons_zero, Act.put, List.setIfInBounds_toArray, List.set_cons_zero, List.set_cons_succ])
                    apply AnyG_pure (i := 9) rfl (by kernel_rfl) (by kernel_rfl) (by kernel_rfl) (by kernel_rfl)
                    case hQ => exact fun _ _ _ h => h
                    case hB => exact hBeld
                    case hC => exact .inr hHeld
                    case hy => (refine Or.inl ⟨by rfl, ?_⟩; intro w hSw; (try go_split_ands); go_simp; (try with_reducible rfl))
                    (try simp only [List.getElem_toArray, List.getElem_cons_succ, List.getElem_cons_zero, Act.put, List.setIfInBounds_toArray, List.set_cons_zero, List.set_cons_succ])
                    apply AnyG_take (i := 10) rfl (by kernel_rfl) (by kernel_rfl) (by kernel_rfl) (by kernel_rfl)
                    case hQ => exact fun _ _ _ h => h
                    case hB => exact hBeld
                    case hC => exact hHeld
                    case hy => (refine Or.inl ⟨by rfl, ?_⟩; intro w hSw; (try go_split_ands); go_simp; (try with_reducible rfl))
                    (try simp only [List.getElem_toArray, List.getElem_cons_succ, List.getElem_cons_zero, Act.put, List.setIfInBounds_toArray, List.set_cons_zero, List.set_cons_succ])
                    apply AnyG_pure (i := 11) rfl (by kernel_rfl) (by kernel_rfl) (by kernel_rfl) (by kernel_rfl)
                    case hQ => exact fun _ _ _ h => h
                    case hB => exact hBeld
                    case hC => exact .inr hHeld
                    case hy => (refine Or.inl ⟨by rfl, ?_⟩; intro w hSw; (try go_split_ands); go_simp; (try with_reducible rfl))
                    (try simp only [List.getElem_toArray, List.getElem_cons_succ, List.getElem_cons_zero, Act.put, List.setIfInBounds_toArray, List.set_cons_zero, List.set_cons_succ])
                    apply AnyG_take (i := 12) rfl (by kernel_rfl) (by kernel_rfl) (by kernel_rfl) (by kernel_rfl)
                    case hQ => exact fun _ _ _ h => h
                    case hB => exact hBeld
                    case hC => exact hHeld
                    case hy => (refine Or.inl ⟨by rfl, ?_⟩; intro w hSw; (try go_split_ands); go_simp; (try with_reducible rfl))
                    (try simp only [List.getElem_toArray, List.getElem_cons_succ, List.getElem_cons_zero, Act.put, List.setIfInBounds_toArray, List.set_cons_zero, List.set_cons_succ])
                    apply AnyG_pure (i := 13) rfl (by kernel_rfl) (by kernel_rfl) (by kernel_rfl) (by kernel_rfl)
                    case hQ => exact fun _ _ _ h => h
                    case hB => exact hBeld
                    case hC => exact .inr hHeld
                    case hy => (refine Or.inl ⟨by rfl, ?_⟩; intro w hSw; (try go_split_ands); go_simp; (try with_reducible rfl))
                    (try simp only [List.getElem_toArray, List.getElem_cons_succ, List.getElem_cons_zero, Act.put, List.setIfInBounds_toArray, List.set_cons_zero, List.set_cons_succ])
                    apply AnyG_pure (i := 14) rfl (by kernel_rfl) (by kernel_rfl) (by kernel_rfl) (by kernel_rfl)
                    case hQ => exact fun _ _ _ h => h
                    case hB => exact hBeld
                    case hC => exact .inr hHeld
                    case hy => (refine Or.inl ⟨by rfl, ?_⟩; intro w hSw; (try go_split_ands); go_simp; (try with_reducible rfl))
                    (try simp only [List.getElem_toArray, List.getElem_cons_succ, List.getElem_cons_zero, Act.put, List.setIfInBounds_toArray, List.set_cons_zero, List.set_cons_succ])
                    apply AnyG_pure (i := 15) rfl (by kernel_rfl) (by kernel_rfl) (by kernel_rfl) (by kernel_rfl)
                    case hQ => exact fun _ _ _ h => h
                    case hB => exact hBeld
                    case hC => exact .inr hHeld
                    case hy => exact Or.inr ⟨by rfl, rfl⟩
                    (try simp only [List.getElem_toArray, List.getElem_cons_succ, List.getElem_cons_zero, Act.put, List.setIfInBounds_toArray, List.set_cons_zero, List.set_cons_succ])
                    apply AnyG_pure (i := 16) rfl (by kernel_rfl) (by kernel_rfl) (by kernel_rfl) (by kernel_rfl)
                    case hQ => exact fun _ _ _ h => h
                    case hB => exact hBeld
                    case hC => exact .inr hHeld
                    case hy => exact Or.inr ⟨by rfl, rfl⟩
                    (try simp only [List.getElem_toArray, List.getElem_cons_succ, List.getElem_cons_zero, Act.put, List.setIfInBounds_toArray, List.set_cons_zero, List.set_cons_succ])
                    apply AnyG_pure (i := 17) rfl (by kernel_rfl) (by kernel_rfl) (by kernel_rfl) (by kernel_rfl)
                    case hQ => exact fun _ _ _ h => h
                    case hB => exact hBeld
                    case hC => exact .inr hHeld
                    case hy => exact Or.inr ⟨by rfl, rfl⟩
                    (try simp only [List.getElem_toArray, List.getElem_cons_succ, List.getElem_cons_zero, Act.put, List.setIfInBounds_toArray, List.set_cons_zero, List.set_cons_succ])
                    apply AnyG_pure (i := 18) rfl (by kernel_rfl) (by kernel_rfl) (by kernel_rfl) (by kernel_rfl)
                    case hQ => exact fun _ _ _ h => h
                    case hB => exact hBeld
                    case hC => exact .inr hHeld
                    case hy => exact Or.inr ⟨by rfl, rfl⟩
                    (try simp only [List.getElem_toArray, List.getElem_cons_succ, List.getElem_cons_zero, Act.put, List.setIfInBounds_toArray, List.set_cons_zero, List.set_cons_succ])
                    apply AnyG_pure (i := 19) rfl (by kernel_rfl) (by kernel_rfl) (by kernel_rfl) (by kernel_rfl)
                    case hQ => exact fun _ _ _ h => h
                    case hB => exact hBeld
                    case hC => exact .inr hHeld
                    case hy => (refine Or.inl ⟨by rfl, ?_⟩; intro w hSw; (try go_split_ands); go_simp; (try with_reducible rfl))
                    (try simp only [List.getElem_toArray, List.getElem_cons_succ, List.getElem_cons_zero, Act.put, List.setIfInBounds_toArray, List.set_cons_zero, List.set_cons_succ])
                    apply AnyG_pure (i := 20) rfl (by kernel_rfl) (by kernel_rfl) (by kernel_rfl) (by kernel_rfl)
                    case hQ => exact fun _ _ _ h => h
                    case hB => exact hBeld
                    case hC => exact .inr hHeld
                    case hy => (refine Or.inl ⟨by rfl, ?_⟩; intro w hSw; (try go_split_ands); go_simp; (try with_reducible rfl))
                    (try simp only [List.getElem_toArray, List.getElem_cons_succ, List.getElem_cons_zero, Act.put, List.setIfInBounds_toArray, List.set_cons_zero, List.set_cons_succ])
                    apply AnyG_pure (i := 21) rfl (by kernel_rfl) (by kernel_rfl) (by kernel_rfl) (by kernel_rfl)
                    case hQ => exact fun _ _ _ h => h
                    case hB => exact hBeld
                    case hC => exact .inr hHeld
                    case hy => exact Or.inr ⟨by rfl, rfl⟩
                    (try simp only [List.getElem_toArray, List.getElem_cons_succ, List.getElem_cons_zero, Act.put, List.setIfInBounds_toArray, List.set_cons_zero, List.set_cons_succ])
                    apply AnyG_pure (i := 22) rfl (by kernel_rfl) (by kernel_rfl) (by kernel_rfl) (by kernel_rfl)
                    case hQ => exact fun _ _ _ h => h
                    case hB => exact hBeld
                    case hC => exact .inr hHeld
                    case hy => exact Or.inr ⟨by rfl, rfl⟩
                    (try simp only [List.getElem_toArray, List.getElem_cons_succ, List.getElem_cons_zero, Act.put, List.setIfInBounds_toArray, List.set_cons_zero, List.set_cons_succ])
                    apply AnyG_pure (i := 23) rfl (by kernel_rfl) (by kernel_rfl) (by kernel_rfl) (by kernel_rfl)
                    case hQ => exact fun _ _ _ h => h
                    case hB => exact hBeld
                    case hC => exact .inr hHeld
                    case hy => exact Or.inr ⟨by rfl, rfl⟩
                    (try simp only [List.getElem_toArray, List.getElem_cons_succ, List.getElem_cons_zero, Act.put, List.setIfInBounds_toArray, List.set_cons_zero, List.set_cons_succ])
                    apply AnyG_pure (i := 24) rfl (by kernel_rfl) (by kernel_rfl) (by kernel_rfl) (by kernel_rfl)
                    case hQ => exact fun _ _ _ h => h
                    case hB => exact hBeld
                    case hC => exact .inr hHeld
                    case hy => exact Or.inr ⟨by rfl, rfl⟩
                    (try simp only [List.getElem_toArray, List.getElem_cons_succ, List.getElem_cons_zero, Act.put, List.setIfInBounds_toArray, List.set_cons_zero, List.set_cons_succ])
                    apply AnyG_pure (i := 25) rfl (by kernel_rfl) (by kernel_rfl) (by kernel_rfl) (by kernel_rfl)
                    case hQ => exact fun _ _ _ h => h
                    case hB => exact hBeld
                    case hC => exact .inr hHeld
                    case hy => (refine Or.inl ⟨by rfl, ?_⟩; intro w hSw; (try go_split_ands); go_simp; (try with_reducible rfl))
                    (try simp only [List.getElem_toArray, List.getElem_cons_succ, List.getElem_cons_zero, Act.put, List.setIfInBounds_toArray, List.set_cons_zero, List.set_cons_succ])
                    apply AnyG_pure (i := 26) rfl (by kernel_rfl) (by kernel_rfl) (by kernel_rfl) (by kernel_rfl)
                    case hQ => exact fun _ _ _ h => h
                    case hB => exact hBeld
                    case hC => exact .inr hHeld
                    case hy => (refine Or.inl ⟨by rfl, ?_⟩; intro w hSw; (try go_split_ands); go_simp; (try with_reducible rfl))
                    (try simp only [List.getElem_toArray, List.getElem_cons_succ, List.getElem_cons_zero, Act.put, List.setIfInBounds_toArray, List.set_cons_zero, List.set_cons_succ])
                    apply AnyG_pure (i := 27) rfl (by kernel_rfl) (by kernel_rfl) (by kernel_rfl) (by kernel_rfl)
                    case hQ => exact fun _ _ _ h => h
                    case hB => exact hBeld
                    case hC => exact .inr hHeld
                    case hy => (refine Or.inl ⟨by rfl, ?_⟩; intro w hSw; (try go_split_ands); go_simp; (try with_reducible rfl))
                    (try simp only [List.getElem_toArray, List.getElem_cons_succ, List.getElem_cons_zero, Act.put, List.setIfInBounds_toArray, List.set_cons_zero, List.set_cons_succ])
                    apply AnyG_take (i := 28) rfl (by kernel_rfl) (by kernel_rfl) (by kernel_rfl) (by kernel_rfl)
                    case hQ => exact fun _ _ _ h => h
                    case hB => exact hBeld
                    case hC => exact hHeld
                    case hy => (refine Or.inl ⟨by rfl, ?_⟩; intro w hSw; (try go_split_ands); go_simp; (try with_reducible rfl))
                    (try simp only [List.getElem_toArray, List.getElem_cons_succ, List.getElem_cons_zero, Act.put, List.setIfInBounds_toArray, List.set_cons_zero, List.set_cons_succ])
                    apply AnyG_pure (i := 29) rfl (by kernel_rfl) (by kernel_rfl) (by kernel_rfl) (by kernel_rfl)
                    case hQ => exact fun _ _ _ h => h
                    case hB => exact hBeld
                    case hC => exact .inr hHeld
                    case hy => (refine Or.inl ⟨by rfl, ?_⟩; intro w hSw; (try go_split_ands); go_simp; (try with_reducible rfl))
                    (try simp only [List.getElem_toArray, List.getElem_cons_succ, List.getElem_cons_zero, Act.put, List.setIfInBounds_toArray, List.set_cons_zero, List.set_cons_succ])
                    apply AnyG_take (i := 30) rfl (by kernel_rfl) (by kernel_rfl) (by kernel_rfl) (by kernel_rfl)
                    case hQ => exact fun _ _ _ h => h
                    case hB => exact hBeld
                    case hC => exact hHeld
                    case hy => (refine Or.inl ⟨by rfl, ?_⟩; intro w hSw; (try go_split_ands); go_simp; (try with_reducible rfl))
                    (try simp only [List.getElem_toArray, List.getElem_cons_succ, List.getElem_cons_zero, Act.put, List.setIfInBounds_toArray, List.set_cons_zero, List.set_cons_succ])
                    apply AnyG_pure (i := 31) rfl (by kernel_rfl) (by kernel_rfl) (by kernel_rfl) (by kernel_rfl)
                    case hQ => exact fun _ _ _ h => h
                    case hB => exact hBeld
                    case hC => exact .inr hHeld
                    case hy => (refine Or.inl ⟨by rfl, ?_⟩; intro w hSw; (try go_split_ands); go_simp; (try with_reducible rfl))
                    (try simp only [List.getElem_toArray, List.getElem_cons_succ, List.getElem_cons_zero, Act.put, List.setIfInBounds_toArray, List.set_cons_zero, List.set_cons_succ])
                    apply AnyG_pure (i := 32) rfl (by kernel_rfl) (by kernel_rfl) (by kernel_rfl) (by kernel_rfl)
                    case hQ => exact fun _ _ _ h => h
                    case hB => exact hBeld
                    case hC => exact .inr hHeld
                    case hy => (refine Or.inl ⟨by rfl, ?_⟩; intro w hSw; (try go_split_ands); go_simp; (try with_reducible rfl))
                    (try simp only [List.getElem_toArray, List.getElem_cons_succ, List.getElem_cons_zero, Act.put, List.setIfInBounds_toArray, List.set_cons_zero, List.set_cons_succ])
                    apply AnyG_pure (i := 33) rfl (by kernel_rfl) (by kernel_rfl) (by kernel_rfl) (by kernel_rfl)
                    case hQ => exact fun _ _ _ h => h
                    case hB => exact hBeld
                    case hC => exact .inr hHeld
                    case hy => (refine Or.inl ⟨by rfl, ?_⟩; intro w hSw; (try go_split_ands); go_simp; (try with_reducible rfl))
                    (try simp only [List.getElem_toArray, List.getElem_cons_succ, List.getElem_cons_zero, Act.put, List.setIfInBounds_toArray, List.set_cons_zero, List.set_cons_succ])
                    apply AnyG_pure (i := 34) rfl (by kernel_rfl) (by kernel_rfl) (by kernel_rfl) (by kernel_rfl)
                    case hQ => exact fun _ _ _ h => h
                    case hB => exact hBeld
                    case hC => exact .inr hHeld
                    case hy => (refine Or.inl ⟨by rfl, ?_⟩; intro w hSw; (try go_split_ands); go_simp; (try with_reducible rfl))
                    (try simp only [List.getElem_toArray, List.getElem_cons_succ, List.getElem_cons_zero, Act.put, List.setIfInBounds_toArray, List.set_cons_zero, List.set_cons_succ])
                    apply AnyG_take (i := 35) rfl (by kernel_rfl) (by kernel_rfl) (by kernel_rfl) (by kernel_rfl)
                    case hQ => exact fun _ _ _ h => h
                    case hB => exact hBeld
                    case hC => exact hHeld
                    case hy => (refine Or.inl ⟨by rfl, ?_⟩; intro w hSw; (try go_split_ands); go_simp; (try with_reducible rfl))
                    (try simp only [List.getElem_toArray, List.getElem_cons_succ, List.getElem_cons_zero, Act.put, List.setIfInBounds_toArray, List.set_cons_zero, List.set_cons_succ])
                    apply AnyG_pure (i := 36) rfl (by kernel_rfl) (by kernel_rfl) (by kernel_rfl) (by kernel_rfl)
                    case hQ => exact fun _ _ _ h => h
                    case hB => exact hBeld
                    case hC => exact .inr hHeld
                    case hy => (refine Or.inl ⟨by rfl, ?_⟩; intro w hSw; (try go_split_ands); go_simp; (try with_reducible rfl))
                    (try simp only [List.getElem_toArray, List.getElem_cons_succ, List.getElem_cons_zero, Act.put, List.setIfInBounds_toArray, List.set_cons_zero, List.set_cons_succ])
                    apply AnyG_pure (i := 37) rfl (by kernel_rfl) (by kernel_rfl) (by kernel_rfl) (by kernel_rfl)
                    case hQ => exact fun _ _ _ h => h
                    case hB => exact hBeld
                    case hC => exact .inr hHeld
                    case hy => (refine Or.inl ⟨by rfl, ?_⟩; intro w hSw; (try go_split_ands); go_simp; (try with_reducible rfl))
                    (try simp only [List.getElem_toArray, List.getElem_cons_succ, List.getElem_cons_zero, Act.put, List.setIfInBounds_toArray, List.set_cons_zero, List.set_cons_succ])
                    apply AnyG_pure (i := 38) rfl (by kernel_rfl) (by kernel_rfl) (by kernel_rfl) (by kernel_rfl)
                    case hQ => exact fun _ _ _ h => h
                    case hB => exact hBeld
                    case hC => exact .inr hHeld
                    case hy => exact Or.inr ⟨by rfl, rfl⟩
                    (try simp only [List.getElem_toArray, List.getElem_cons_succ, List.getElem_cons_zero, Act.put, List.setIfInBounds_toArray, List.set_cons_zero, List.set_cons_succ])
                    apply AnyG_pure (i := 39) rfl (by kernel_rfl) (by kernel_rfl) (by kernel_rfl) (by kernel_rfl)
                    case hQ => exact fun _ _ _ h => h
                    case hB => exact hBeld
                    case hC => exact .inr hHeld
                    case hy => exact Or.inr ⟨by rfl, rfl⟩
                    (try simp only [List.getElem_toArray, List.getElem_cons_succ, List.getElem_cons_zero, Act.put, List.setIfInBounds_toArray, List.set_cons_zero, List.set_cons_succ])
                    apply AnyG_pure (i := 40) rfl (by kernel_rfl) (by kernel_rfl) (by kernel_rfl) (by kernel_rfl)
                    case hQ => exact fun _ _ _ h => h
                    case hB => exact hBeld
                    case hC => exact .inr hHeld
                    case hy => exact Or.inr ⟨by rfl, rfl⟩
                    (try simp only [List.getElem_toArray, List.getElem_cons_succ, List.getElem_cons_zero, Act.put, List.setIfInBounds_toArray, List.set_cons_zero, List.set_cons_succ])
                    apply AnyG_pure (i := 41) rfl (by kernel_rfl) (by kernel_rfl) (by kernel_rfl) (by kernel_rfl)
                    case hQ => exact fun _ _ _ h => h
                    case hB => exact hBeld
                    case hC => exact .inr hHeld
                    case hy => exact Or.inr ⟨by rfl, rfl⟩
                    (try simp only [List.getElem_toArray, List.getElem_cons_succ, List.getElem_cons_zero, Act.put, List.setIfInBounds_toArray, List.set_cons_zero, List.set_cons_succ])
                    apply AnyG_pure (i := 42) rfl (by kernel_rfl) (by kernel_rfl) (by kernel_rfl) (by kernel_rfl)
                    case hQ => exact fun _ _ _ h => h
                    case hB => exact hBeld
                    case hC => exact .inr hHeld
                    case hy => (refine Or.inl ⟨by rfl, ?_⟩; intro w hSw; (try go_split_ands); go_simp; (try with_reducible rfl))
                    (try simp only [List.getElem_toArray, List.getElem_cons_succ, List.getElem_cons_zero, Act.put, List.setIfInBounds_toArray, List.set_cons_zero, List.set_cons_succ])
                    apply AnyG_pure (i := 43) rfl (by kernel_rfl) (by kernel_rfl) (by kernel_rfl) (by kernel_rfl)
                    case hQ => exact fun _ _ _ h => h
                    case hB => exact hBeld
                    case hC => exact .inr hHeld
                    case hy => (refine Or.inl ⟨by rfl, ?_⟩; intro w hSw; (try go_split_ands); go_simp; (try with_reducible rfl))
                    (try simp only [List.getElem_toArray, List.getElem_cons_succ, List.getElem_cons_zero, Act.put, List.setIfInBounds_toArray, List.set_cons_zero, List.set_cons_succ])
                    apply AnyG_pure (i := 44) rfl (by kernel_rfl) (by kernel_rfl) (by kernel_rfl) (by kernel_rfl)
                    case hQ => exact fun _ _ _ h => h
                    case hB => exact hBeld
                    case hC => exact .inr hHeld
                    case hy => (refine Or.inl ⟨by rfl, ?_⟩; intro w hSw; (try go_split_ands); go_simp; (try with_reducible rfl))
                    (try simp only [List.getElem_toArray, List.getElem_cons_succ, List.getElem_cons_zero, Act.put, List.setIfInBounds_toArray, List.set_cons_zero, List.set_cons_succ])
                    apply AnyG_pure (i := 45) rfl (by kernel_rfl) (by kernel_rfl) (by kernel_rfl) (by kernel_rfl)
                    case hQ => exact fun _ _ _ h => h
                    case hB => exact hBeld
                    case hC => exact .inr hHeld
                    case hy => (refine Or.inl ⟨by rfl, ?_⟩; intro w hSw; (try go_split_ands); go_simp; (try with_reducible rfl))
                    (try simp only [List.getElem_toArray, List.getElem_cons_succ, List.getElem_cons_zero, Act.put, List.setIfInBounds_toArray, List.set_cons_zero, List.set_cons_succ])
                    apply AnyG_pure (i := 46) rfl (by kernel_rfl) (by kernel_rfl) (by kernel_rfl) (by kernel_rfl)
                    case hQ => exact fun _ _ _ h => h
                    case hB => exact hBeld
                    case hC => exact .inr hHeld
                    case hy => (refine Or.inl ⟨by rfl, ?_⟩; intro w hSw; (try go_split_ands); go_simp; (try with_reducible rfl))
                    (try simp only [List.getElem_toArray, List.getElem_cons_succ, List.getElem_cons_zero, Act.put, List.setIfInBounds_toArray, List.set_cons_zero, List.set_cons_succ])
                    apply AnyG_pure (i := 47) rfl (by kernel_rfl) (by kernel_rfl) (by kernel_rfl) (by kernel_rfl)
                    case hQ => exact fun _ _ _ h => h
                    case hB => exact hBeld
                    case hC => exact .inr hHeld
                    case hy => (refine Or.inl ⟨by rfl, ?_⟩; intro w hSw; (try go_split_ands); go_simp; (try with_reducible rfl))
                    (try simp only [List.getElem_toArray, List.getElem_cons_succ, List.getElem_cons_zero, Act.put, List.setIfInBounds_toArray, List.set_cons_zero, List.set_cons_succ])
                    apply AnyG_pure (i := 48) rfl (by kernel_rfl) (by kernel_rfl) (by kernel_rfl) (by kernel_rfl)
                    case hQ => exact fun _ _ _ h => h
                    case hB => exact hBeld
                    case hC => exact .inr hHeld
                    case hy => (refine Or.inl ⟨by rfl, ?_⟩; intro w hSw; (try go_split_ands); go_simp; (try with_reducible rfl))
                    (try simp only [List.getElem_toArray, List.getElem_cons_succ, List.getElem_cons_zero, Act.put, List.setIfInBounds_toArray, List.set_cons_zero, List.set_cons_succ])
                    refine AnyG_one (i := 49) (by kernel_rfl) rfl (fun K hK => ?_)
                    (try simp only [List.getElem_toArray, List.getElem_cons_succ, List.getElem_cons_zero])
                    go_simp
                    clear hHeld
                    refine hK.out _ _ (.inl (by kernel_rfl)) (trivial) ?_
                    clear hK K
                    (try simp only [List.getElem_toArray, List.getElem_cons_succ, List.getElem_cons_zero, Act.put, List.setIfInBounds_toArray, List.set_cons_zero, List.set_cons_succ])
                    refine AnyG_done (by kernel_rfl) ?_ _
                    clear hBeld
                    go_wp2_with fail
                    go_roundw
                    case rel => exact ⟨k + 1, by go_num, by omega, HW.out.1, HW.out.2⟩
                    case measure => simp [intOf]; omega
                · have t2 := decide_eq_false h2
                  have t3 : decide (k ≤ hi') = V := by rw [hV, t2]; rfl
                  clear hV h1 h2
                  as_aux_lemma =>
                    refine wp_region_G (fun W : World => W.cell? ⟨g, 3 + k, none⟩ = some (.bool true) ∧ W.cell? ⟨wr.heap.size, 2, none⟩ = some (.int .i64 (lo : Int)) ∧ W.cell? ⟨wr.heap.size, 3, none⟩ = some (.int .i64 (hi' : Int))) (fun _ => True) [49] (by kernel_rfl) ?_
                    have hHeld : (fun W : World => W.cell? ⟨g, 3 + k, none⟩ = some (.bool true) ∧ W.cell? ⟨wr.heap.size, 2, none⟩ = some (.int .i64 (lo : Int)) ∧ W.cell? ⟨wr.heap.size, 3, none⟩ = some (.int .i64 (hi' : Int))) (wx.drew) := ⟨cm, p2, p3⟩
                    have hBeld : (fun _ => True) (wx.drew) := trivial
                    apply AnyG_pure (i := 0) rfl (by kernel_rfl) (by kernel_rfl) (by kernel_rfl) (by kernel_rfl)
                    case hQ => exact fun _ _ _ h => h
                    case hB => exact hBeld
                    case hC => exact .inr hHeld
                    case hy => (refine Or.inl ⟨by rfl, ?_⟩; intro w hSw; (try go_split_ands); go_simp; (try with_reducible rfl))
                    (try simp only [List.getElem_toArray, List.getElem_cons_zero, Act.put, List.setIfInBounds_toArray, List.set_cons_zero, List.set_cons_succ])
                    apply AnyG_pure (i := 1) rfl (by kernel_rfl) (by kernel_rfl) (by kernel_rfl) (by kernel_rfl)
                    case hQ => exact fun _ _ _ h => h
                    case hB => exact hBeld
                    case hC => exact .inr hHeld
                    case hy => (refine Or.inl ⟨by rfl, ?_⟩; intro w hSw; (try go_split_ands); go_simp; (try with_reducible rfl))
                    (try simp only [List.getElem_toArray, List.getElem_cons_succ, List.getElem_cons_zero, Act.put, List.setIfInBounds_toArray, List.set_cons_zero, List.set_cons_succ])
                    apply AnyG_pure (i := 2) rfl (by kernel_rfl) (by kernel_rfl) (by kernel_rfl) (by kernel_rfl)
                    case hQ => exact fun _ _ _ h => h
                    case hB => exact hBeld
                    case hC => exact .inr hHeld
                    case hy => (refine Or.inl ⟨by rfl, ?_⟩; intro w hSw; (try go_split_ands); go_simp; (try with_reducible rfl))
                    (try simp only [List.getElem_toArray, List.getElem_cons_succ, List.getElem_cons_zero, Act.put, List.setIfInBounds_toArray, List.set_cons_zero, List.set_cons_succ])
                    apply AnyG_pure (i := 3) rfl (by kernel_rfl) (by kernel_rfl) (by kernel_rfl) (by kernel_rfl)
                    case hQ => exact fun _ _ _ h => h
                    case hB => exact hBeld
                    case hC => exact .inr hHeld
                    case hy => (refine Or.inl ⟨by rfl, ?_⟩; intro w hSw; (try go_split_ands); go_simp; (try with_reducible rfl))
                    (try simp only [List.getElem_toArray, List.getElem_cons_succ, List.getElem_cons_zero, Act.put, List.setIfInBounds_toArray, List.set_cons_zero, List.set_cons_succ])
                    apply AnyG_pure (i := 4) rfl (by kernel_rfl) (by kernel_rfl) (by kernel_rfl) (by kernel_rfl)
                    case hQ => exact fun _ _ _ h => h
                    case hB => exact hBeld
                    case hC => exact .inr hHeld
                    case hy => (refine Or.inl ⟨by rfl, ?_⟩; intro w hSw; (try go_split_ands); go_simp; (try with_reducible rfl))
                    (try simp only [List.getElem_toArray, List.getElem_cons_succ, List.getElem_cons_zero, Act.put, List.setIfInBounds_toArray, List.set_cons_zero, List.set_cons_succ])
                    apply AnyG_pure (i := 5) rfl (by kernel_rfl) (by kernel_rfl) (by kernel_rfl) (by kernel_rfl)
                    case hQ => exact fun _ _ _ h => h
                    case hB => exact hBeld
                    case hC => exact .inr hHeld
                    case hy => (refine Or.inl ⟨by rfl, ?_⟩; intro w hSw; (try go_split_ands); go_simp; (try with_reducible rfl))
                    (try simp only [List.getElem_toArray, List.getElem_cons_succ, List.getElem_cons_zero, Act.put, List.setIfInBounds_toArray, List.set_cons_zero, List.set_cons_succ])
                    apply AnyG_pure (i := 6) rfl (by kernel_rfl) (by kernel_rfl) (by kernel_rfl) (by kernel_rfl)
                    case hQ => exact fun _ _ _ h => h
                    case hB => exact hBeld
                    case hC => exact .inr hHeld
                    case hy => (refine Or.inl ⟨by rfl, ?_⟩; intro w hSw; (try go_split_ands); go_simp; (try with_reducible rfl))
                    (try simp only [List.getElem_toArray, List.getElem_cons_succ, List.getElem_cons_zero, Act.put, List.setIfInBounds_toArray, List.set_cons_zero, List.set_cons_succ])
                    apply AnyG_take (i := 7) rfl (by kernel_rfl) (by kernel_rfl) (by kernel_rfl) (by kernel_rfl)
                    case hQ => exact fun _ _ _ h => h
                    case hB => exact hBeld
                    case hC => exact hHeld
                    case hy => (refine Or.inl ⟨by rfl, ?_⟩; intro w hSw; (try go_split_ands); go_simp; (try with_reducible rfl))
                    (try simp only [List.getElem_toArray, List.getElem_cons_succ, List.getElem_cons_zero, Act.put, List.setIfInBounds_toArray, List.set_cons_zero, List.set_cons_succ])
                    apply AnyG_pure (i := 8) rfl (by kernel_rfl) (by kernel_rfl) (by kernel_rfl) (by kernel_rfl)
                    case hQ => exact fun _ _ _ h => h
                    case hB => exact hBeld
                    case hC => exact .inr hHeld
                    case hy => (refine Or.inl ⟨by rfl, ?_⟩; intro w hSw; (try go_split_ands); go_simp; (try with_reducible rfl))
                    (try simp only [List.getElem_toArray, List.getElem_cons_succ, List.getElem_cons_zero, Act.put, List.setIfInBounds_toArray, List.set_cons_zero, List.set_cons_succ])
                    apply AnyG_pure (i := 9) rfl (by kernel_rfl) (by kernel_rfl) (by kernel_rfl) (by kernel_rfl)
                    case hQ => exact fun _ _ _ h => h
                    case hB => exact hBeld
                    case hC => exact .inr hHeld
                    case hy => (refine Or.inl ⟨by rfl, ?_⟩; intro w hSw; (try go_split_ands); go_simp; (try with_reducible rfl))
                    (try simp only [List.getElem_toArray, List.getElem_cons_succ, List.getElem_cons_zero, Act.put, List.setIfInBounds_toArray, List.set_cons_zero, List.set_cons_succ])
                    apply AnyG_take (i := 10) rfl (by kernel_rfl) (by kernel_rfl) (by kernel_rfl) (by kernel_rfl)
                    case hQ => exact fun _ _ _ h => h
                    case hB => exact hBeld
                    case hC => exact hHeld
                    case hy => (refine Or.inl ⟨by rfl, ?_⟩; intro w hSw; (try go_split_ands); go_simp; (try with_reducible rfl))
                    (try simp only [List.getElem_toArray, List.getElem_cons_succ, List.getElem_cons_zero, Act.put, List.setIfInBounds_toArray, List.set_cons_zero, List.set_cons_succ])
                    apply AnyG_pure (i := 11) rfl (by kernel_rfl) (by kernel_rfl) (by kernel_rfl) (by kernel_rfl)
                    case hQ => exact fun _ _ _ h => h
                    case hB => exact hBeld
                    case hC => exact .inr hHeld
                    case hy => (refine Or.inl ⟨by rfl, ?_⟩; intro w hSw; (try go_split_ands); go_simp; (try with_reducible rfl))
                    (try simp only [List.getElem_toArray, List.getElem_cons_succ, List.getElem_cons_zero, Act.put, List.setIfInBounds_toArray, List.set_cons_zero, List.set_cons_succ])
                    apply AnyG_take (i := 12) rfl (by kernel_rfl) (by kernel_rfl) (by kernel_rfl) (by kernel_rfl)
                    case hQ => exact fun _ _ _ h => h
                    case hB => exact hBeld
                    case hC => exact hHeld
                    case hy => (refine Or.inl ⟨by rfl, ?_⟩; intro w hSw; (try go_split_ands); go_simp; (try with_reducible rfl))
                    (try simp only [List.getElem_toArray, List.getElem_cons_succ, List.getElem_cons_zero, Act.put, List.setIfInBounds_toArray, List.set_cons_zero, List.set_cons_succ])
                    apply AnyG_pure (i := 13) rfl (by kernel_rfl) (by kernel_rfl) (by kernel_rfl) (by kernel_rfl)
                    case hQ => exact fun _ _ _ h => h
                    case hB => exact hBeld
                    case hC => exact .inr hHeld
                    case hy => (refine Or.inl ⟨by rfl, ?_⟩; intro w hSw; (try go_split_ands); go_simp; (try with_reducible rfl))
                    (try simp only [List.getElem_toArray, List.getElem_cons_succ, List.getElem_cons_zero, Act.put, List.setIfInBounds_toArray, List.set_cons_zero, List.set_cons_succ])
                    apply AnyG_pure (i := 14) rfl (by kernel_rfl) (by kernel_rfl) (by kernel_rfl) (by kernel_rfl)
                    case hQ => exact fun _ _ _ h => h
                    case hB => exact hBeld
                    case hC => exact .inr hHeld
                    case hy => (refine Or.inl ⟨by rfl, ?_⟩; intro w hSw; (try go_split_ands); go_simp; (try with_reducible rfl))
                    (try simp only [List.getElem_toArray, List.getElem_cons_succ, List.getElem_cons_zero, Act.put, List.setIfInBounds_toArray, List.set_cons_zero, List.set_cons_succ])
                    apply AnyG_pure (i := 15) rfl (by kernel_rfl) (by kernel_rfl) (by kernel_rfl) (by kernel_rfl)
                    case hQ => exact fun _ _ _ h => h
                    case hB => exact hBeld
                    case hC => exact .inr hHeld
                    case hy => exact Or.inr ⟨by rfl, rfl⟩
                    (try simp only [List.getElem_toArray, List.getElem_cons_succ, List.getElem_cons_zero, Act.put, List.setIfInBounds_toArray, List.set_cons_zero, List.set_cons_succ])
                    apply AnyG_pure (i := 16) rfl (by kernel_rfl) (by kernel_rfl) (by kernel_rfl) (by kernel_rfl)
                    case hQ => exact fun _ _ _ h => h
                    case hB => exact hBeld
                    case hC => exact .inr hHeld
                    case hy => exact Or.inr ⟨by rfl, rfl⟩
                    (try simp only [List.getElem_toArray, List.getElem_cons_succ, List.getElem_cons_zero, Act.put, List.setIfInBounds_toArray, List.set_cons_zero, List.set_cons_succ])
                    apply AnyG_pure (i := 17) rfl (by kernel_rfl) (by kernel_rfl) (by kernel_rfl) (by kernel_rfl)
                    case hQ => exact fun _ _ _ h => h
                    case hB => exact hBeld
                    case hC => exact .inr hHeld
                    case hy => exact Or.inr ⟨by rfl, rfl⟩
                    (try simp only [List.getElem_toArray, List.getElem_cons_succ, List.getElem_cons_zero, Act.put, List.setIfInBounds_toArray, List.set_cons_zero, List.set_cons_succ])
                    apply AnyG_pure (i := 18) rfl (by kernel_rfl) (by kernel_rfl) (by kernel_rfl) (by kernel_rfl)
                    case hQ => exact fun _ _ _ h => h
                    case hB => exact hBeld
                    case hC => exact .inr hHeld
                    case hy => exact Or.inr ⟨by rfl, rfl⟩
                    (try simp only [List.getElem_toArray, List.getElem_cons_succ, List.getElem_cons_zero, Act.put, List.setIfInBounds_toArray, List.set_cons_zero, List.set_cons_succ])
                    apply AnyG_pure (i := 19) rfl (by kernel_rfl) (by kernel_rfl) (by kernel_rfl) (by kernel_rfl)
                    case hQ => exact fun _ _ _ h => h
                    case hB => exact hBeld
                    case hC => exact .inr hHeld
                    case hy => (refine Or.inl ⟨by rfl, ?_⟩; intro w hSw; (try go_split_ands); go_simp; (try with_reducible rfl))
                    (try simp only [List.getElem_toArray, List.getElem_cons_succ, List.getElem_cons_zero, Act.put, List.setIfInBounds_toArray, List.set_cons_zero, List.set_cons_succ])
                    apply AnyG_pure (i := 20) rfl (by kernel_rfl) (by kernel_rfl) (by kernel_rfl) (by kernel_rfl)
                    case hQ => exact fun _ _ _ h => h
                    case hB => exact hBeld
                    case hC => exact .inr hHeld
                    case hy => (refine Or.inl ⟨by rfl, ?_⟩; intro w hSw; (try go_split_ands); go_simp; (try with_reducible rfl))
                    (try simp only [List.getElem_toArray, List.getElem_cons_succ, List.getElem_cons_zero, Act.put, List.setIfInBounds_toArray, List.set_cons_zero, List.set_cons_succ])
                    apply AnyG_pure (i := 21) rfl (by kernel_rfl) (by kernel_rfl) (by kernel_rfl) (by kernel_rfl)
                    case hQ => exact fun _ _ _ h => h
                    case hB => exact hBeld
                    case hC => exact .inr hHeld
                    case hy => exact Or.inr ⟨by rfl, rfl⟩
                    (try simp only [List.getElem_toArray, List.getElem_cons_succ, List.getElem_cons_zero, Act.put, List.setIfInBounds_toArray, List.set_cons_zero, List.set_cons_succ])
                    apply AnyG_pure (i := 22) rfl (by kernel_rfl) (by kernel_rfl) (by kernel_rfl) (by kernel_rfl)
                    case hQ => exact fun _ _ _ h => h
                    case hB => exact hBeld
                    case hC => exact .inr hHeld
                    case hy => exact Or.inr ⟨by rfl, rfl⟩
                    (try simp only [List.getElem_toArray, List.getElem_cons_succ, List.getElem_cons_zero, Act.put, List.setIfInBounds_toArray, List.set_cons_zero, List.set_cons_succ])
                    apply AnyG_pure (i := 23) rfl (by kernel_rfl) (by kernel_rfl) (by kernel_rfl) (by kernel_rfl)
                    case hQ => exact fun _ _ _ h => h
                    case hB => exact hBeld
                    case hC => exact .inr hHeld
                    case hy => exact Or.inr ⟨by rfl, rfl⟩
                    (try simp only [List.getElem_toArray, List.getElem_cons_succ, List.getElem_cons_zero, Act.put, List.setIfInBounds_toArray, List.set_cons_zero, List.set_cons_succ])
                    apply AnyG_pure (i := 24) rfl (by kernel_rfl) (by kernel_rfl) (by kernel_rfl) (by kernel_rfl)
                    case hQ => exact fun _ _ _ h => h
                    case hB => exact hBeld
                    case hC => exact .inr hHeld
                    case hy => exact Or.inr ⟨by rfl, rfl⟩
                    (try simp only [List.getElem_toArray, List.getElem_cons_succ, List.getElem_cons_zero, Act.put, List.setIfInBounds_toArray, List.set_cons_zero, List.set_cons_succ])
                    apply AnyG_pure (i := 25) rfl (by kernel_rfl) (by kernel_rfl) (by kernel_rfl) (by kernel_rfl)
                    case hQ => exact fun _ _ _ h => h
                    case hB => exact hBeld
                    case hC => exact .inr hHeld
                    case hy => (refine Or.inl ⟨by rfl, ?_⟩; intro w hSw; (try go_split_ands); go_simp; (try with_reducible rfl))
                    (try simp only [List.getElem_toArray, List.getElem_cons_succ, List.getElem_cons_zero, Act.put, List.setIfInBounds_toArray, List.set_cons_zero, List.set_cons_succ])
                    apply AnyG_pure (i := 26) rfl (by kernel_rfl) (by kernel_rfl) (by kernel_rfl) (by kernel_rfl)
                    case hQ => exact fun _ _ _ h => h
                    case hB => exact hBeld
                    case hC => exact .inr hHeld
                    case hy => (refine Or.inl ⟨by rfl, ?_⟩; intro w hSw; (try go_split_ands); go_simp; (try with_reducible rfl))
                    (try simp only [List.getElem_toArray, List.getElem_cons_succ, List.getElem_cons_zero, Act.put, List.setIfInBounds_toArray, List.set_cons_zero, List.set_cons_succ])
                    apply AnyG_pure (i := 27) rfl (by kernel_rfl) (by kernel_rfl) (by kernel_rfl) (by kernel_rfl)
                    case hQ => exact fun _ _ _ h => h
                    case hB => exact hBeld
                    case hC => exact .inr hHeld
                    case hy => (refine Or.inl ⟨by rfl, ?_⟩; intro w hSw; (try go_split_ands); go_simp; (try with_reducible rfl))
                    (try simp only [List.getElem_toArray, List.getElem_cons_succ, List.getElem_cons_zero, Act.put, List.setIfInBounds_toArray, List.set_cons_zero, List.set_cons_succ])
                    apply AnyG_take (i := 28) rfl (by kernel_rfl) (by kernel_rfl) (by kernel_rfl) (by kernel_rfl)
                    case hQ => exact fun _ _ _ h => h
                    case hB => exact hBeld
                    case hC => exact hHeld
                    case hy => (refine Or.inl ⟨by rfl, ?_⟩; intro w hSw; (try go_split_ands); go_simp; (try with_reducible rfl))
                    (try simp only [List.getElem_toArray, List.getElem_cons_succ, List.getElem_cons_zero, Act.put, List.setIfInBounds_toArray, List.set_cons_zero, List.set_cons_succ])
                    apply AnyG_pure (i := 29) rfl (by kernel_rfl) (by kernel_rfl) (by kernel_rfl) (by kernel_rfl)
                    case hQ => exact fun _ _ _ h => h
                    case hB => exact hBeld
                    case hC => exact .inr hHeld
                    case hy => (refine Or.inl ⟨by rfl, ?_⟩; intro w hSw; (try go_split_ands); go_simp; (try with_reducible rfl))
                    (try simp only [List.getElem_toArray, List.getElem_cons_succ, List.getElem_cons_zero, Act.put, List.setIfInBounds_toArray, List.set_cons_zero, List.set_cons_succ])
                    apply AnyG_take (i := 30) rfl (by kernel_rfl) (by kernel_rfl) (by kernel_rfl) (by kernel_rfl)
                    case hQ => exact fun _ _ _ h => h
                    case hB => exact hBeld
                    case hC => exact hHeld
                    case hy => (refine Or.inl ⟨by rfl, ?_⟩; intro w hSw; (try go_split_ands); go_simp; (try with_reducible rfl))
                    (try simp only [List.getElem_toArray, List.getElem_cons_succ, List.getElem_cons_zero, Act.put, List.setIfInBounds_toArray, List.set_cons_zero, List.set_cons_succ])
                    apply AnyG_pure (i := 31) rfl (by kernel_rfl) (by kernel_rfl) (by kernel_rfl) (by kernel_rfl)
                    case hQ => exact fun _ _ _ h => h
                    case hB => exact hBeld
                    case hC => exact .inr hHeld
                    case hy => (refine Or.inl ⟨by rfl, ?_⟩; intro w hSw; (try go_split_ands); go_simp; (try with_reducible rfl))
                    (try simp only [List.getElem_toArray, List.getElem_cons_succ, List.getElem_cons_zero, Act.put, List.setIfInBounds_toArray, List.set_cons_zero, List.set_cons_succ])
                    apply AnyG_pure (i := 32) rfl (by kernel_rfl) (by kernel_rfl) (by kernel_rfl) (by kernel_rfl)
                    case hQ => exact fun _ _ _ h => h
                    case hB => exact hBeld
                    case hC => exact .inr hHeld
                    case hy => (refine Or.inl ⟨by rfl, ?_⟩; intro w hSw; (try go_split_ands); go_simp; (try with_reducible rfl))
                    (try simp only [List.getElem_toArray, List.getElem_cons_succ, List.getElem_cons_zero, Act.put, List.setIfInBounds_toArray, List.set_cons_zero, List.set_cons_succ])
                    apply AnyG_pure (i := 33) rfl (by kernel_rfl) (by kernel_rfl) (by kernel_rfl) (by kernel_rfl)
                    case hQ => exact fun _ _ _ h => h
                    case hB => exact hBeld
                    case hC => exact .inr hHeld
                    case hy => (refine Or.inl ⟨by rfl, ?_⟩; intro w hSw; (try go_split_ands); go_simp; (try with_reducible rfl))
                    (try simp only [List.getElem_toArray, List.getElem_cons_succ, List.getElem_cons_zero, Act.put, List.setIfInBounds_toArray, List.set_cons_zero, List.set_cons_succ])
                    apply AnyG_pure (i := 34) rfl (by kernel_rfl) (by kernel_rfl) (by kernel_rfl) (by kernel_rfl)
                    case hQ => exact fun _ _ _ h => h
                    case hB => exact hBeld
                    case hC => exact .inr hHeld
                    case hy => (refine Or.inl ⟨by rfl, ?_⟩; intro w hSw; (try go_split_ands); go_simp; (try with_reducible rfl))
                    (try simp only [List.getElem_toArray, List.getElem_cons_succ, List.getElem_cons_zero, Act.put, List.setIfInBounds_toArray, List.set_cons_zero, List.set_cons_succ])
                    apply AnyG_take (i := 35) rfl (by kernel_rfl) (by kernel_rfl) (by kernel_rfl) (by kernel_rfl)
                    case hQ => exact fun _ _ _ h => h
                    case hB => exact hBeld
                    case hC => exact hHeld
                    case hy => (refine Or.inl ⟨by rfl, ?_⟩; intro w hSw; (try go_split_ands); go_simp; (try with_reducible rfl))
                    (try simp only [List.getElem_toArray, List.getElem_cons_succ, List.getElem_cons_zero, Act.put, List.setIfInBounds_toArray, List.set_cons_zero, List.set_cons_succ])
                    apply AnyG_pure (i := 36) rfl (by kernel_rfl) (by kernel_rfl) (by kernel_rfl) (by kernel_rfl)
                    case hQ => exact fun _ _ _ h => h
                    case hB => exact hBeld
                    case hC => exact .inr hHeld
                    case hy => (refine Or.inl ⟨by rfl, ?_⟩; intro w hSw; (try go_split_ands); go_simp; (try with_reducible rfl))
                    (try simp only [List.getElem_toArray, List.getElem_cons_succ, List.getElem_cons_zero, Act.put, List.setIfInBounds_toArray, List.set_cons_zero, List.set_cons_succ])
                    apply AnyG_pure (i := 37) rfl (by kernel_rfl) (by kernel_rfl) (by kernel_rfl) (by kernel_rfl)
                    case hQ => exact fun _ _ _ h => h
                    case hB => exact hBeld
                    case hC => exact .inr hHeld
                    case hy => (refine Or.inl ⟨by rfl, ?_⟩; intro w hSw; (try go_split_ands); go_simp; (try with_reducible rfl))
                    (try simp only [List.getElem_toArray, List.getElem_cons_succ, List.getElem_cons_zero, Act.put, List.setIfInBounds_toArray, List.set_cons_zero, List.set_cons_succ])
                    apply AnyG_pure (i := 38) rfl (by kernel_rfl) (by kernel_rfl) (by kernel_rfl) (by kernel_rfl)
                    case hQ => exact fun _ _ _ h => h
                    case hB => exact hBeld
                    case hC => exact .inr hHeld
                    case hy => (refine Or.inl ⟨by rfl, ?_⟩; intro w hSw; (try go_split_ands); go_simp; (try with_reducible rfl))
                    (try simp only [List.getElem_toArray, List.getElem_cons_succ, List.getElem_cons_zero, Act.put, List.setIfInBounds_toArray, List.set_cons_zero, List.set_cons_succ])
                    apply AnyG_pure (i := 39) rfl (by kernel_rfl) (by kernel_rfl) (by kernel_rfl) (by kernel_rfl)
                    case hQ => exact fun _ _ _ h => h
                    case hB => exact hBeld
                    case hC => exact .inr hHeld
                    case hy => (refine Or.inl ⟨by rfl, ?_⟩; intro w hSw; (try go_split_ands); go_simp; (try with_reducible rfl))
                    (try simp only [List.getElem_toArray, List.getElem_cons_succ, List.getElem_cons_zero, Act.put, List.setIfInBounds_toArray, List.set_cons_zero, List.set_cons_succ])
                    apply AnyG_take (i := 40) rfl (by kernel_rfl) (by kernel_rfl) (by kernel_rfl) (by kernel_rfl)
                    case hQ => exact fun _ _ _ h => h
                    case hB => exact hBeld
                    case hC => exact hHeld
                    case hy => (refine Or.inl ⟨by rfl, ?_⟩; intro w hSw; (try go_split_ands); go_simp; (try with_reducible rfl))
                    (try simp only [List.getElem_toArray, List.getElem_cons_succ, List.getElem_cons_zero, Act.put, List.setIfInBounds_toArray, List.set_cons_zero, List.set_cons_succ])
                    apply AnyG_pure (i := 41) rfl (by kernel_rfl) (by kernel_rfl) (by kernel_rfl) (by kernel_rfl)
                    case hQ => exact fun _ _ _ h => h
                    case hB => exact hBeld
                    case hC => exact .inr hHeld
                    case hy => (refine Or.inl ⟨by rfl, ?_⟩; intro w hSw; (try go_split_ands); go_simp; (try with_reducible rfl))
                    (try simp only [List.getElem_toArray, List.getElem_cons_succ, List.getElem_cons_zero, Act.put, List.setIfInBounds_toArray, List.set_cons_zero, List.set_cons_succ])
                    apply AnyG_pure (i := 42) rfl (by kernel_rfl) (by kernel_rfl) (by kernel_rfl) (by kernel_rfl)
                    case hQ => exact fun _ _ _ h => h
                    case hB => exact hBeld
                    case hC => exact .inr hHeld
                    case hy => (refine Or.inl ⟨by rfl, ?_⟩; intro w hSw; (try go_split_ands); go_simp; (try with_reducible rfl))
                    (try simp only [List.getElem_toArray, List.getElem_cons_succ, List.getElem_cons_zero, Act.put, List.setIfInBounds_toArray, List.set_cons_zero, List.set_cons_succ])
                    apply AnyG_pure (i := 43) rfl (by kernel_rfl) (by kernel_rfl) (by kernel_rfl) (by kernel_rfl)
                    case hQ => exact fun _ _ _ h => h
                    case hB => exact hBeld
                    case hC => exact .inr hHeld
                    case hy => (refine Or.inl ⟨by rfl, ?_⟩; intro w hSw; (try go_split_ands); go_simp; (try with_reducible rfl))
                    (try simp only [List.getElem_toArray, List.getElem_cons_succ, List.getElem_cons_zero, Act.put, List.setIfInBounds_toArray, List.set_cons_zero, List.set_cons_succ])
                    apply AnyG_pure (i := 44) rfl (by kernel_rfl) (by kernel_rfl) (by kernel_rfl) (by kernel_rfl)
                    case hQ => exact fun _ _ _ h => h
                    case hB => exact hBeld
                    case hC => exact .inr hHeld
                    case hy => (refine Or.inl ⟨by rfl, ?_⟩; intro w hSw; (try go_split_ands); go_simp; (try with_reducible rfl))
                    (try simp only [List.getElem_toArray, List.getElem_cons_succ, List.getElem_cons_zero, Act.put, List.setIfInBounds_toArray, List.set_cons_zero, List.set_cons_succ])
                    apply AnyG_pure (i := 45) rfl (by kernel_rfl) (by kernel_rfl) (by kernel_rfl) (by kernel_rfl)
                    case hQ => exact fun _ _ _ h => h
                    case hB => exact hBeld
                    case hC => exact .inr hHeld
                    case hy => (refine Or.inl ⟨by rfl, ?_⟩; intro w hSw; (try go_split_ands); go_simp; (try with_reducible rfl))
                    (try simp only [List.getElem_toArray, List.getElem_cons_succ, List.getElem_cons_zero, Act.put, List.setIfInBounds_toArray, List.set_cons_zero, List.set_cons_succ])
                    apply AnyG_pure (i := 46) rfl (by kernel_rfl) (by kernel_rfl) (by kernel_rfl) (by kernel_rfl)
                    case hQ => exact fun _ _ _ h => h
                    case hB => exact hBeld
                    case hC => exact .inr hHeld
                    case hy => (refine Or.inl ⟨by rfl, ?_⟩; intro w hSw; (try go_split_ands); go_simp; (try with_reducible rfl))
                    (try simp only [List.getElem_toArray, List.getElem_cons_succ, List.getElem_cons_zero, Act.put, List.setIfInBounds_toArray, List.set_cons_zero, List.set_cons_succ])
                    apply AnyG_pure (i := 47) rfl (by kernel_rfl) (by kernel_rfl) (by kernel_rfl) (by kernel_rfl)
                    case hQ => exact fun _ _ _ h => h
                    case hB => exact hBeld
                    case hC => exact .inr hHeld
                    case hy => (refine Or.inl ⟨by rfl, ?_⟩; intro w hSw; (try go_split_ands); go_simp; (try with_reducible rfl))
                    (try simp only [List.getElem_toArray, List.getElem_cons_succ, List.getElem_cons_zero, Act.put, List.setIfInBounds_toArray, List.set_cons_zero, List.set_cons_succ])
                    apply AnyG_pure (i := 48) rfl (by kernel_rfl) (by kernel_rfl) (by kernel_rfl) (by kernel_rfl)
                    case hQ => exact fun _ _ _ h => h
                    case hB => exact hBeld
                    case hC => exact .inr hHeld
                    case hy => (refine Or.inl ⟨by rfl, ?_⟩; intro w hSw; (try go_split_ands); go_simp; (try with_reducible rfl))
                    (try simp only [List.getElem_toArray, List.getElem_cons_succ, List.getElem_cons_zero, Act.put, List.setIfInBounds_toArray, List.set_cons_zero, List.set_cons_succ])
                    refine AnyG_one (i := 49) (by kernel_rfl) rfl (fun K hK => ?_)
                    (try simp only [List.getElem_toArray, List.getElem_cons_succ, List.getElem_cons_zero])
                    go_simp
                    clear hHeld
                    refine hK.out _ _ (.inl (by kernel_rfl)) (trivial) ?_
                    clear hK K
                    (try simp only [List.getElem_toArray, List.getElem_cons_succ, List.getElem_cons_zero, Act.put, List.setIfInBounds_toArray, List.set_cons_zero, List.set_cons_succ])
                    refine AnyG_done (by kernel_rfl) ?_ _
                    clear hBeld
                    go_wp2_with fail
                    go_roundw
                    case rel => exact ⟨k + 1, by go_num, by omega, HW.out.1, HW.out.2⟩
                    case measure => simp [intOf]; omega
          · obtain rfl : k = 1440 := by omega
            have HF : Hid (Ofw w wx GA g (.slice A2 1 c2) Z Ln F L D (fun j => M j && dly lo hi' j) h) := Lib.hid (hof.congr fun j hj => by rw [if_pos hj])
            clear hof hpr p2 p3
            go_wp2_with fail
            go_roundw
            case rel => exact ⟨i + 1, no, _, _, _, _, _, _, _, by go_num, rfl, by omega, HI2.out, HF.out⟩
            case measure => simp [intOf]; omega
      · have hie : (sof h).toList.isEmpty = decide (h = []) := by
          rw [sof_toList]
          cases h <;> simp
        have hsq := sof_beq h pn
        have HF : Hid (Ofw w (w4.setCell ⟨GA, 7, none⟩ (.string (sof pn))) GA g (.slice A2 1 c2) Z Ln F L D M pn) := Lib.hid (HW4.out.holder HG.out.1 HG.out.2.1 _)
        have HI2 := Lib.hid (HV.out.holder HI.out HK.out)
        generalize decide (h = []) = X at *
        generalize decide (h = pn) = Y at *
        clear eZ eL eD
        go_upto_region 27 with fail
        go_cut [6] (fun v wx => v = .bool (no || (!X && !Y)) ∧ wx = w4)
        case first =>
          cases no
          case true =>
            go_wp2_with fail
            go_meet
            exact ⟨rfl, rfl⟩
          cases X
          case true =>
            go_wp2_with fail
            go_meet
            exact ⟨rfl, rfl⟩
          cases Y
          · go_wp2_with fail
            go_meet
            exact ⟨rfl, rfl⟩
          · go_wp2_with fail
            go_meet
            exact ⟨rfl, rfl⟩
        case rest =>
        obtain ⟨rfl, rfl⟩ := hcut
        clear hie hsq
        go_wp2_with fail
        go_roundw
        case rel => exact ⟨i + 1, _, _, _, _, _, _, _, _, by go_num, rfl, by omega, HI2.out, HF.out⟩
        case measure => simp [intOf]; omega
      · have HI2 := Lib.hid (HV.out.rides HI.out HK.out)
        clear eZ eL eD
        go_wp2_with fail
        go_roundw
        case rel => exact ⟨i + 1, no, _, _, _, _, _, _, _, by go_num, rfl, by omega, HI2.out, HW4.out⟩
        case measure => simp [intOf]; omega
    · obtain rfl : i = n := by omega
      have hof' := hof
      have t0 := TRow.c0 hof.t
      have t1 := TRow.c1 hof.t
      obtain ⟨a0, a1, a2, a3, a4, a5, a6, a7⟩ := ARow.cells hof.a
      have HFL : Hid (F ≤ 67108864 ∧ L ≤ 67108864) := Lib.hid ⟨hinv.flt, hinv.hlt⟩
      clear hof hof' hinv HI0 HO a0 a3 a4 a5 a6 a7
      go_wp2_with fail
      go_cut [177] (fun v wx => v = .bool (no || decide (Z = 0 ∨ Ln = 0 ∨ L < F)) ∧ ∃ N, wx = wr.drewN N)
      case first =>
        cases no
        case true =>
          go_big_quiet (fail)
          go_wp2
          go_meet
          exact ⟨by simp, _, rfl⟩
        by_cases h1 : Z = 0
        · have HJ : Hid (Value.bool true = Value.bool (false || decide (Z = 0 ∨ Ln = 0 ∨ L < F))) := Lib.hid (by rw [decide_eq_true (p := _ ∨ _) (.inl h1)]; rfl)
          have u1 : ((Z : Int) == 0) = true := beq_iff_eq.2 (by omega)
          clear h1
          go_big_quiet (fail)
          go_wp2
          go_meet
          exact ⟨HJ.out, _, rfl⟩
        have u1 : ((Z : Int) == 0) = false := beq_eq_false_iff_ne.2 (by omega)
        by_cases h2 : Ln = 0
        · have HJ : Hid (Value.bool true = Value.bool (false || decide (Z = 0 ∨ Ln = 0 ∨ L < F))) := Lib.hid (by rw [decide_eq_true (p := _ ∨ _) (.inr (.inl h2))]; rfl)
          have u2 : ((Ln : Int) == 0) = true := beq_iff_eq.2 (by omega)
          clear h1 h2
          go_big_quiet (fail)
          go_wp2
          go_meet
          exact ⟨HJ.out, _, rfl⟩
        have u2 : ((Ln : Int) == 0) = false := beq_eq_false_iff_ne.2 (by omega)
        by_cases h3 : L < F
        · have HJ : Hid (Value.bool true = Value.bool (false || decide (Z = 0 ∨ Ln = 0 ∨ L < F))) := Lib.hid (by rw [decide_eq_true (p := _ ∨ _) (.inr (.inr h3))]; rfl)
          have u3 : decide (L < F) = true := decide_eq_true h3
          clear h1 h2 h3
          go_big_quiet (fail)
          go_wp2
          go_meet
          exact ⟨HJ.out, _, rfl⟩
        · have HJ : Hid (Value.bool false = Value.bool (false || decide (Z = 0 ∨ Ln = 0 ∨ L < F))) := Lib.hid (by rw [decide_eq_false (p := _ ∨ _) (fun h => h.elim h1 fun h => h.elim h2 h3)]; rfl)
          have u3 : decide (L < F) = false := decide_eq_false h3
          clear h1 h2 h3
          go_big_quiet (fail)
          go_wp2
          go_meet
          exact ⟨HJ.out, _, rfl⟩
      case rest =>
        obtain ⟨rfl, N, rfl⟩ := hcut
        have HW2 : Hid (Ofw w (wr.drewN N) GA g (.slice A2 1 c2) Z Ln F L D M h) := Lib.hid ⟨HW.out.r, HW.out.a, HW.out.t, below_drewN HW.out.low N⟩
        have HOK : Hid (i ≤ 64 ∧ ∀ p ∈ l, pok p) := Lib.hid ⟨by omega, by have := HV.out.ok; rw [HN.out, List.take_length] at this; exact this⟩
        clear t0 t1 a1 a2 HW
        by_cases hz : (no || decide (Z = 0 ∨ Ln = 0 ∨ L < F)) = true
        · rw [hz]
          have hz' : no = true ∨ Z = 0 ∨ Ln = 0 ∨ L < F := by rw [Bool.or_eq_true, decide_eq_true_iff] at hz; exact hz
          have HR : Hid (OfR l .never 0) := Lib.hid (.inr (.inr ⟨by rw [← HN.out]; exact HOK.out.1, HOK.out.2, HV.out.done HN.out (.inl ⟨hz', rfl⟩), rfl⟩))
          clear hz hz'
          go_wp2_with (with_reducible refine wpList_store_aut rfl _ _ rfl (g := w.heap.size) rfl rfl HW2.out.r (by with_unfolding_all rfl) (by with_unfolding_all rfl) (by with_unfolding_all rfl) ?_)
          refine bodyPost_ret (results_aut2 (g := w.heap.size) Tryd.results17 _ rfl _ rfl rfl (Whole.setRow HW2.out.r _)) rfl ?_
          exact ⟨⟨_, .never, 0, rfl, by rw [← HSN.out]; exact av_never _ _, HR.out⟩, below_setRow HW2.out.low (Nat.le_refl _) _⟩
        · rw [Bool.not_eq_true] at hz
          rw [hz]
          rw [Bool.or_eq_false_iff, decide_eq_false_iff_not] at hz
          have hz3 : no = false ∧ ¬ Z = 0 ∧ ¬ Ln = 0 ∧ F ≤ L := ⟨hz.1, fun h => hz.2 (.inl h), fun h => hz.2 (.inr (.inl h)), by omega⟩
          have hclo := rclosed Z Ln 127 0 67108864 (.slice A2 1 c2) h g F L D M (by have := HFL.out.2; omega) hz3.2.2.2 (wr.drewN N) HW2.out.t
          have HZ := Lib.hid hz3
          obtain ⟨a0, a1, a2, a3, a4, a5, a6, a7⟩ := ARow.cells HW2.out.a
          clear hz hz3
          go_wp2_with fail
          refine hclo.mono ?_
          rintro e w9 ⟨⟨y, rfl, hy⟩, hb9⟩
          have hlt := HW2.out.r.lt
          have HZ9 : Hid (ARow w9 w.heap.size false 0 0 0 0 0 (.slice none 0 0) []) := Lib.hid (Whole.below HW2.out.r hb9 hlt)
          have HB9 : Hid (Below w.heap.size w w9) := Lib.hid (HW2.out.low.trans (hb9.mono HW2.out.low.size))
          clear hb9 hclo a0 a1 a2 a3 a4 a5 a6 a7
          rcases hy with ⟨hno, rfl⟩ | ⟨a, Aa, ca, hca, rfl, hsp⟩
          · have HR : Hid (OfR l .never 0) := Lib.hid (.inr (.inr ⟨by rw [← HN.out]; exact HOK.out.1, HOK.out.2, HV.out.done HN.out (.inr ⟨HZ.out.1, HZ.out.2.1, HZ.out.2.2.1, HZ.out.2.2.2, .inl ⟨hno, rfl⟩⟩), rfl⟩))
            clear hno
            go_wp2_with (with_reducible refine wpList_store_aut rfl _ _ rfl (g := w.heap.size) rfl rfl HZ9.out (by with_unfolding_all rfl) (by with_unfolding_all rfl) (by with_unfolding_all rfl) ?_)
            refine bodyPost_ret (results_aut2 (g := w.heap.size) Tryd.results17 _ rfl _ rfl rfl (Whole.setRow HZ9.out _)) rfl ?_
            exact ⟨⟨_, .never, 0, rfl, av_never _ _, HR.out⟩, below_setRow HB9.out (Nat.le_refl _) _⟩
          · have HR : Hid (OfR l a 0) := Lib.hid (.inr (.inr ⟨by rw [← HN.out]; exact HOK.out.1, HOK.out.2, HV.out.done HN.out (.inr ⟨HZ.out.1, HZ.out.2.1, HZ.out.2.2.1, HZ.out.2.2.2, .inr hca⟩), rfl⟩))
            have HAB : Hid (abd a) := Lib.hid (aok_abd (canon_set hca HZ.out.2.1 HV.out.zlt HZ.out.2.2.1 HV.out.llt HV.out.hlt HV.out.nk).1)
            have HSP : Hid (∀ r, Spn (w9.setRow w.heap.size r) (fun b => w.heap.size ≤ b) Aa ca a.daily) := Lib.hid fun r => (hsp.keep (by simp) (fun b _ hb => setRow_other w9 w.heap.size b _ (by omega))).mono fun b _ hb => by omega
            clear hca hsp
            go_wp2_with (with_reducible refine wpList_store_aut rfl _ _ rfl (g := w.heap.size) rfl rfl HZ9.out (by with_unfolding_all rfl) (by with_unfolding_all rfl) (by with_unfolding_all rfl) ?_)
            refine bodyPost_ret (results_aut2 (g := w.heap.size) Tryd.results17 _ rfl _ rfl rfl (Whole.setRow HZ9.out _)) rfl ?_
            exact ⟨⟨_, a, 0, rfl, ⟨Aa, ca, rfl, HSP.out _, HAB.out⟩, HR.out⟩, below_setRow HB9.out (Nat.le_refl _) _⟩
end Go.Proofs.YtgbcncfhmnhljaaDoor
