/-
  The program's Of: the summary of a list of predicates.
-/
import Derived.Deep.DeepCutAuto
import Derived.Test.YtgbcncfhmnhljaaDoorPk20
import Derived.Test.YtgbcncfhmnhljaaDoorPk16
import Derived.Test.YtgbcncfhmnhljaaDoorPk32
import Derived.Test.YtgbcncfhmnhljaaDoorPk23
namespace Go.Proofs.YtgbcncfhmnhljaaDoor
open Go Go.RowKit Sh Leaf

theorem full_wk : Wk fullA := aok_wk full_set.1
/-- While Of goes through the list. -/
structure AoI (w : World) (l : List Prd) (A : Option Addr) (k g4 : Nat) (wr : World) (i : Nat) (a : Aut) (Ad : Option Addr) (c : Nat) : Prop where
  e : a = rstl fullA (l.take i)
  ok : ∀ p ∈ l.take i, pok p
  row : Whole wr g4 25 (avl a Ad c)
  sp : Spn wr (fun g => g ≠ g4) Ad c a.daily
  bd : abd a
  res : ARow wr w.heap.size false 0 0 0 0 0 (.slice none 0 0) []
  low : Below w.heap.size w wr
  g : w.heap.size < g4
theorem AoI.wk {w wr : World} {l : List Prd} {A : Option Addr} {k g4 i : Nat} {a : Aut} {Ad : Option Addr} {c : Nat} (h : AoI w l A k g4 wr i a Ad c) : Wk a := by rw [h.e]; exact rstl_wk full_wk h.ok
/-- The authority whose fields are all zero, as the program builds it. -/
abbrev zlit : Array Value := #[.bool false, .int .u64 0, .int .u64 0, .int .u64 0, .int .i64 0, .int .i64 0, .slice none 0 0, .string { data := #[] }]
theorem zlit_eq : zlit = arow false 0 0 0 0 0 (.slice none 0 0) [] := by
  have esn : sof [] = { data := #[] } := by unfold sof; rfl
  unfold zlit arow
  rw [esn]
/-- What Of answers with an error. -/
theorem aof_err {w W : World} {l : List Prd} {er : Int} (hb : Below w.heap.size w W) (h : OfR l zeroA er) : (∃ x m e', (Ending.returned (.tuple #[.agg zlit, .int .i64 er]) : Ending) = .returned (.tuple #[x, .int .i64 e']) ∧ Av W (fun b => w.heap.size ≤ b) x m ∧ OfR l m e') ∧ Below w.heap.size w W :=
  ⟨⟨_, zeroA, er, rfl, by rw [zlit_eq]; exact av_zero _ _, h⟩, hb⟩
set_option maxRecDepth 100000 in
set_option maxHeartbeats 4000000 in
theorem aof (l : List Prd) (A : Option Addr) (k : Nat) (Q : Nat → Prop) (w : World) (hI : Prds w Q A k l) :
    Calls Tryd.prog 13 #[.slice A l.length k] w fun e w' => (∃ x m er, e = .returned (.tuple #[x, .int .i64 er]) ∧ Av w' (fun b => w.heap.size ≤ b) x m ∧ OfR l m er) ∧ Below w.heap.size w w' := by
  have hlen : l.length ≤ 9223372036854775807 := by
    have := hI.1
    have := hI.2.1
    unfold maxLen at this
    omega
  have HP := Lib.hid (hI.mono (Q' := fun b => b < w.heap.size) fun g hg _ => hg)
  have esn : sof [] = { data := #[] } := by unfold sof; rfl
  have hz : ARow (w.alloc (.cells #[.bool false, .int .u64 0, .int .u64 0, .int .u64 0, .int .i64 0, .int .i64 0, .slice none 0 0, .string { data := #[] }] 25)) w.heap.size false 0 0 0 0 0 (.slice none 0 0) [] := by
    show Whole _ _ _ #[_, _, _, _, _, _, _, .string (sof [])]
    rw [esn]
    exact Whole.here _ _ _
  obtain ⟨n, hn⟩ : ∃ n, n = l.length := ⟨_, rfl⟩
  rw [← hn] at hlen ⊢
  have HN := Lib.hid hn
  obtain ⟨w1, hw1⟩ : ∃ w1, w1 = w.alloc (.cells #[.bool false, .int .u64 0, .int .u64 0, .int .u64 0, .int .i64 0, .int .i64 0, .slice none 0 0, .string { data := #[] }] 25) := ⟨_, rfl⟩
  have hb1 : Below w.heap.size w w1 := by rw [hw1]; exact (Below.refl w.heap.size w).alloc (Nat.le_refl _) _
  have hs1 : w1.heap.size = w.heap.size + 1 := by rw [hw1]; simp
  rw [← hw1] at hz
  have HZ := Lib.hid hz
  have HB1 := Lib.hid hb1
  clear hI hn hz hb1
  by_cases hlong : 64 < n
  · have hl2 : (64 : Int) < (n : Int) := by omega
    have HW := Lib.hid (HZ.out.setRow zlit)
    have HF := Lib.hid (aof_err (below_setRow (g := w.heap.size) HB1.out (Nat.le_refl _) zlit) (.inl ⟨by rw [← HN.out]; exact hlong, rfl, rfl⟩ : OfR l zeroA 2))
    have hzz : ARow w1 w.heap.size false 0 0 0 0 0 (.slice none 0 0) [] := HZ.out
    go_enter Tryd.func13, Tryd.ntmps13
    go_upto_region 2 with fail
    rw [← hw1]
    clear hw1
    go_wp2_with (with_reducible refine wpList_store_aut rfl _ _ rfl (g := w.heap.size) rfl rfl hzz (by with_unfolding_all rfl) (by with_unfolding_all rfl) (by with_unfolding_all rfl) ?_)
    refine bodyPost_ret (results_aut2 (g := w.heap.size) Tryd.results13 _ rfl _ rfl rfl HW.out) rfl ?_
    exact HF.out
  · have hl2 : (n : Int) ≤ 64 := by omega
    have hfu := fun W => afull W
    go_enter Tryd.func13, Tryd.ntmps13
    go_upto_region 3 with fail
    rw [← hw1]
    clear hw1
    go_wp2_with fail
    refine (hfu _).mono ?_
    rintro e w2 ⟨⟨x, rfl, hx⟩, hb2⟩
    obtain ⟨Ad, c, rfl, hS, hab⟩ := hx
    obtain ⟨g4, hg4⟩ : ∃ g, g = w2.heap.size := ⟨_, rfl⟩
    have hI : AoI w l A k g4 (w2.alloc (.cells (avl fullA Ad c) 25)) 0 fullA Ad c := by
      have hs2 := hb2.size
      refine ⟨rfl, fun p hp => by simp at hp, Whole.at_ _ _ _ _ hg4, (hS.mono (Q' := fun g => g ≠ g4) fun g hg _ => by show g ≠ g4; omega).alloc _, hab, (Whole.below HZ.out hb2 (by omega)).alloc _, (HB1.out.trans (hb2.mono (by omega))).alloc (by have := HB1.out.size; omega) _, by omega⟩
    have HI := Lib.hid hI
    clear hI hS hab hb2
    clear esn
    go_wp2_with fail
    rw [← hg4]
    have hgw := HI.out.g
    clear hg4 hfu
    go_loopw [14] (fun iv wr => ∃ i a Ad c, iv = .int .i64 (i : Nat) ∧ i ≤ n ∧ AoI w l A k g4 wr i a Ad c) (fun iv _ => n - (intOf iv).toNat)
    case atStart => exact ⟨0, _, _, _, rfl, by omega, HI.out⟩
    case round =>
      obtain ⟨i, a, Ad, c, rfl, hi, hI⟩ := hrel
      clear HI
      have HI := Lib.hid hI
      have hgl := hI.row.lt
      have hP : Prds wr (fun b => b < w.heap.size) A k l := HP.out.keep hI.low.size fun g _ hq => hI.low.block g hq
      clear hI
      by_cases hin : i < n
      · obtain ⟨p, hp⟩ : ∃ p, l[i]? = some p := ⟨_, List.getElem?_eq_getElem (by have := HN.out; omega)⟩
        have hpb := hP.2.2.2.1 p (List.mem_of_getElem? hp)
        have hv := fun W => pvalid p hpb.1 hpb.2 W
        have hre := fun W (y : Value) (hy : Av W (fun g => g ≠ g4) y a) (hk : pok p) => arestrict hy HI.out.wk.len hk hpb
        have hst : pok p → rst a p = rstl fullA (l.take (i + 1)) := fun _ => by rw [rstl_snoc hp, ← HI.out.e]
        have hok2 : pok p → ∀ q ∈ l.take (i + 1), pok q := fun hk q hq => by
          rw [Sh.take_snoc hp] at hq
          rcases List.mem_append.1 hq with hq | hq
          · exact HI.out.ok q hq
          · rw [List.mem_singleton.1 hq]; exact hk
        have hmem := List.mem_of_getElem? hp
        rw [pv_row] at hv hre
        obtain ⟨g, o, rfl, hQ, hg, c0, c1, c2', c3, c4, c5⟩ := hP.get i p hp
        obtain ⟨pk, pm, pl, ph, pn, pu⟩ := p
        simp only at hv hre hst hok2 hmem c0 c1 c2' c3 c4 c5
        obtain ⟨D1, hD1⟩ : ∃ D, D = decide (pok ⟨pk, pm, pl, ph, pn, pu⟩) := ⟨_, rfl⟩
        rw [← hD1] at hv
        have HD := Lib.hid hD1
        have HST := Lib.hid hst
        have HOK2 := Lib.hid hok2
        have HM := Lib.hid hmem
        have HRE := Lib.hid hre
        have hi0 : (0 : Int) ≤ (i : Int) := by omega
        have hi1 : (i : Int) < (n : Int) := by omega
        clear hP hp hpb hst hok2 hmem hre hD1
        go_wp2_with fail
        refine (hv _).mono ?_
        rintro e w5 ⟨rfl, hb5⟩
        have hb5' : Below wr.heap.size wr w5 := ((Below.refl wr.heap.size wr).alloc (Nat.le_refl _) _).trans (hb5.mono (by simp))
        have hpr : Whole w5 wr.heap.size 41 (prow pk pm pl ph pn pu) := Whole.below (Whole.here wr _ _) hb5 (by simp)
        have hrow : Whole w5 g4 25 (avl a Ad c) := Whole.below HI.out.row hb5' hgl
        have hres : ARow w5 w.heap.size false 0 0 0 0 0 (.slice none 0 0) [] := Whole.below HI.out.res hb5' (by omega)
        have hsp5 : Spn w5 (fun g => g ≠ g4) Ad c a.daily := HI.out.sp.below hb5' (Nat.le_refl _)
        have hlow5 : Below w.heap.size w w5 := HI.out.low.trans (hb5'.mono HI.out.low.size)
        obtain ⟨q0, q1, q2, q3, q4, q5⟩ := PRow.cells hpr
        cases D1
        · have HW := Lib.hid (hres.setRow zlit)
          have HF := Lib.hid (aof_err (below_setRow (g := w.heap.size) hlow5 (Nat.le_refl _) zlit) (.inr (.inl ⟨by rw [← HN.out]; omega, fun h => (of_decide_eq_false HD.out.symm) (h _ HM.out), rfl, rfl⟩) : OfR l zeroA 5))
          clear hb5 hb5' hpr hrow hsp5 hlow5 HRE HI c0 c1 c2' c3 c4 c5
          go_wp2_with (with_reducible refine wpList_store_aut rfl _ _ rfl (g := w.heap.size) rfl rfl hres (by with_unfolding_all rfl) (by with_unfolding_all rfl) (by with_unfolding_all rfl) ?_)
          refine bodyPost_ret (results_aut2 (g := w.heap.size) Tryd.results13 _ rfl _ rfl rfl HW.out) rfl ?_
          exact HF.out
        · have hk := of_decide_eq_true HD.out.symm
          have hcall := HRE.out w5 (.agg (avl a Ad c)) ⟨Ad, c, rfl, hsp5, HI.out.bd⟩ hk
          have HBD := Lib.hid HI.out.bd
          have HST2 := Lib.hid (HST.out hk)
          have HOK3 := Lib.hid (HOK2.out hk)
          have HG := HI.out.g
          clear hb5 hpr hsp5 HRE c0 c1 c2' c3 c4 c5 HI hk
          go_wp2_with (with_reducible refine wpList_load_aut rfl _ rfl rfl hrow ?_)
          refine hcall.mono ?_
          rintro e w6 ⟨⟨y, rfl, hy⟩, hb6⟩
          obtain ⟨Ad2, cc2, rfl, hS6, hab6⟩ := hy
          obtain ⟨m, hm⟩ : ∃ m, m = rst a ⟨pk, pm, pl, ph, pn, pu⟩ := ⟨_, rfl⟩
          rw [← hm] at hS6 hab6 ⊢
          have hg5 : g4 < w5.heap.size := hrow.lt
          have hrow6 : Whole w6 g4 25 (avl a Ad c) := Whole.below hrow hb6 hg5
          have hres6 : ARow w6 w.heap.size false 0 0 0 0 0 (.slice none 0 0) [] := Whole.below hres hb6 (by omega)
          have hsp6 : Spn (w6.setRow g4 (avl m Ad2 cc2)) (fun g => g ≠ g4) Ad2 cc2 m.daily := (hS6.mono (Q' := fun g => g ≠ g4) fun g _ hq => by
            rcases hq with hq | hq
            · exact hq
            · show g ≠ g4
              have : w5.heap.size ≤ g := hq
              omega).keep (by simp [World.setRow]) fun g _ hq => setRow_other w6 g4 g _ hq
          have HI2 : Hid (AoI w l (some ⟨g, o, none⟩) k g4 (w6.setRow g4 (avl m Ad2 cc2)) (i + 1) m Ad2 cc2) := Lib.hid
            ⟨hm.trans HST2.out, HOK3.out, hrow6.setRow _, hsp6, hab6, Whole.setRow_far hres6 (by omega) _, below_setRow (g := g4) (hlow5.trans (hb6.mono hlow5.size)) (by omega) _, HG⟩
          clear hb5' hrow hres hlow5 q0 q1 q2 q3 q4 q5 hcall hb6 hS6 hab6 hres6 hsp6 hm
          go_wp2_with (with_reducible refine wpList_store_aut rfl _ _ rfl (g := g4) rfl rfl hrow6 (by with_unfolding_all rfl) (by with_unfolding_all rfl) (by with_unfolding_all rfl) ?_)
          go_roundw
          case rel => exact ⟨i + 1, m, Ad2, cc2, by go_num, by omega, HI2.out⟩
          case measure => simp [intOf]; omega
      · obtain rfl : i = n := by omega
        have hex := HI.out.e
        have hok := HI.out.ok
        rw [HN.out, List.take_length] at hex hok
        have hsh := ashrink (x := .agg (avl a Ad c)) ⟨Ad, c, rfl, HI.out.sp, HI.out.bd⟩ HI.out.wk
        have hset : ∀ m, IsSet (ina a) m → IsSet (holdsAll l) m := fun m hm => hm.congr fun c hc => by
          rw [hex, rstl_ina full_wk hok c hc]
          exact ⟨fun h => h.2, fun h => ⟨(full_set.2 c hc).2 trivial, h⟩⟩
        have HSET := Lib.hid hset
        have HOK := Lib.hid hok
        have hrow := HI.out.row
        clear hex hok hset hP
        go_wp2_with (with_reducible refine wpList_load_aut rfl _ rfl rfl hrow ?_)
        refine hsh.mono ?_
        rintro e w6 ⟨⟨y, m, rfl, hy, hs⟩, hb6⟩
        obtain ⟨Ad2, cc2, rfl, hS6, hab6⟩ := hy
        have hres6 : ARow w6 w.heap.size false 0 0 0 0 0 (.slice none 0 0) [] := Whole.below HI.out.res hb6 (by omega)
        have HW := Lib.hid (hres6.setRow (avl m Ad2 cc2))
        have HF : Hid ((∃ x m' er, (Ending.returned (.tuple #[.agg (avl m Ad2 cc2), .int .i64 0]) : Ending) = .returned (.tuple #[x, .int .i64 er]) ∧ Av (w6.setRow w.heap.size (avl m Ad2 cc2)) (fun b => w.heap.size ≤ b) x m' ∧ OfR l m' er) ∧ Below w.heap.size w (w6.setRow w.heap.size (avl m Ad2 cc2))) := Lib.hid
          ⟨⟨_, m, 0, rfl, ⟨Ad2, cc2, rfl, (hS6.keep (w' := w6.setRow w.heap.size (avl m Ad2 cc2)) (by simp [World.setRow]) fun g _ hq => setRow_other w6 w.heap.size g _ (by have : wr.heap.size ≤ g := hq; omega)).mono fun g _ hq => by
            show w.heap.size ≤ g
            have : wr.heap.size ≤ g := hq
            omega, hab6⟩, .inr (.inr ⟨by rw [← HN.out]; omega, HOK.out, HSET.out m hs, rfl⟩)⟩, below_setRow (g := w.heap.size) (HI.out.low.trans (hb6.mono (by omega))) (Nat.le_refl _) _⟩
        clear hsh hrow hb6 hS6 hs hab6 HI
        go_wp2_with (with_reducible refine wpList_store_aut rfl _ _ rfl (g := w.heap.size) rfl rfl hres6 (by with_unfolding_all rfl) (by with_unfolding_all rfl) (by with_unfolding_all rfl) ?_)
        refine bodyPost_ret (results_aut2 (g := w.heap.size) Tryd.results13 _ rfl _ rfl rfl HW.out) rfl ?_
        exact HF.out
end Go.Proofs.YtgbcncfhmnhljaaDoor
