/-
  The program's Of: the summary of a list of predicates.
  The law package's awake.
  The law AuthorityExact.
-/
import Derived.Deep.DeepCutAuto
import Derived.Test.YtdmfbgojafbhcaaPk13
import Derived.Test.YtdmfbgojafbhcaaPk8
import Derived.Test.YtdmfbgojafbhcaaPk19
import Derived.Test.YtdmfbgojafbhcaaPk20
import Derived.Test.YtdmfbgojafbhcaaPk6
import Derived.Test.YtdmfbgojafbhcaaPk23
import Derived.Test.YtdmfbgojafbhcaaPk25
namespace Go.Proofs.Ytdmfbgojafbhcaa
open Go Go.RowKit Sh Leaf

theorem full_wk : Wk fullA := aok_wk full_set.1
/-- While Of goes through the list. -/
structure AoI (w : World) (l : List Prd) (A : Option Addr) (k g4 : Nat) (wr : World) (i : Nat) (a : Aut) (Ad : Option Addr) (c : Nat) : Prop where
  e : a = rstl fullA (l.take i)
  ok : ∀ p ∈ l.take i, pok p
  row : Whole wr g4 25 (avl a Ad c)
  sp : Spn wr (fun g => g ≠ g4) Ad c a.daily
  bd : abd a
  res : ARow wr w.heap.size false 0 0 0 0 0 (.slice none 0 0) []
  low : Below w.heap.size w wr
  g : w.heap.size < g4
theorem AoI.wk {w wr : World} {l : List Prd} {A : Option Addr} {k g4 i : Nat} {a : Aut} {Ad : Option Addr} {c : Nat} (h : AoI w l A k g4 wr i a Ad c) : Wk a := by rw [h.e]; exact rstl_wk full_wk h.ok
/-- The authority whose fields are all zero, as the program builds it. -/
abbrev zlit : Array Value := #[.bool false, .int .u64 0, .int .u64 0, .int .u64 0, .int .i64 0, .int .i64 0, .slice none 0 0, .string { data := #[] }]
theorem zlit_eq : zlit = arow false 0 0 0 0 0 (.slice none 0 0) [] := by
  have esn : sof [] = { data := #[] } := by unfold sof; rfl
  unfold zlit arow
  rw [esn]
/-- What Of answers with an error. -/
theorem aof_err {w W : World} {l : List Prd} {er : Int} (hb : Below w.heap.size w W) (h : OfR l zeroA er) : (∃ x m e', (Ending.returned (.tuple #[.agg zlit, .int .i64 er]) : Ending) = .returned (.tuple #[x, .int .i64 e']) ∧ Av W (fun b => w.heap.size ≤ b) x m ∧ OfR l m e') ∧ Below w.heap.size w W :=
  ⟨⟨_, zeroA, er, rfl, by rw [zlit_eq]; exact av_zero _ _, h⟩, hb⟩
set_option maxRecDepth 100000 in
set_option maxHeartbeats 4000000 in
theorem aof (l : List Prd) (A : Option Addr) (k : Nat) (Q : Nat → Prop) (w : World) (hI : Prds w Q A k l) :
    Calls Try.prog 20 #[.slice A l.length k] w fun e w' => (∃ x m er, e = .returned (.tuple #[x, .int .i64 er]) ∧ Av w' (fun b => w.heap.size ≤ b) x m ∧ OfR l m er) ∧ Below w.heap.size w w' := by
  have hlen : l.length ≤ 9223372036854775807 := by
    have := hI.1
    have := hI.2.1
    unfold maxLen at this
    omega
  have HP := Lib.hid (hI.mono (Q' := fun b => b < w.heap.size) fun g hg _ => hg)
  have esn : sof [] = { data := #[] } := by unfold sof; rfl
  have hz : ARow (w.alloc (.cells #[.bool false, .int .u64 0, .int .u64 0, .int .u64 0, .int .i64 0, .int .i64 0, .slice none 0 0, .string { data := #[] }] 25)) w.heap.size false 0 0 0 0 0 (.slice none 0 0) [] := by
    show Whole _ _ _ #[_, _, _, _, _, _, _, .string (sof [])]
    rw [esn]
    exact Whole.here _ _ _
  obtain ⟨n, hn⟩ : ∃ n, n = l.length := ⟨_, rfl⟩
  rw [← hn] at hlen ⊢
  have HN := Lib.hid hn
  obtain ⟨w1, hw1⟩ : ∃ w1, w1 = w.alloc (.cells #[.bool false, .int .u64 0, .int .u64 0, .int .u64 0, .int .i64 0, .int .i64 0, .slice none 0 0, .string { data := #[] }] 25) := ⟨_, rfl⟩
  have hb1 : Below w.heap.size w w1 := by rw [hw1]; exact (Below.refl w.heap.size w).alloc (Nat.le_refl _) _
  have hs1 : w1.heap.size = w.heap.size + 1 := by rw [hw1]; simp
  rw [← hw1] at hz
  have HZ := Lib.hid hz
  have HB1 := Lib.hid hb1
  clear hI hn hz hb1
  by_cases hlong : 64 < n
  · have hl2 : (64 : Int) < (n : Int) := by omega
    have HW := Lib.hid (HZ.out.setRow zlit)
    have HF := Lib.hid (aof_err (below_setRow (g := w.heap.size) HB1.out (Nat.le_refl _) zlit) (.inl ⟨by rw [← HN.out]; exact hlong, rfl, rfl⟩ : OfR l zeroA 2))
    have hzz : ARow w1 w.heap.size false 0 0 0 0 0 (.slice none 0 0) [] := HZ.out
    go_enter Try.func20, Try.ntmps20
    go_upto_region 2 with fail
    rw [← hw1]
    clear hw1
    go_wp2_with (with_reducible refine wpList_store_aut rfl _ _ rfl (g := w.heap.size) rfl rfl hzz (by with_unfolding_all rfl) (by with_unfolding_all rfl) (by with_unfolding_all rfl) ?_)
    refine bodyPost_ret (results_aut2 (g := w.heap.size) Try.results20 _ rfl _ rfl rfl HW.out) rfl ?_
    exact HF.out
  · have hl2 : (n : Int) ≤ 64 := by omega
    have hfu := fun W => afull W
    go_enter Try.func20, Try.ntmps20
    go_upto_region 3 with fail
    rw [← hw1]
    clear hw1
    go_wp2_with fail
    refine (hfu _).mono ?_
    rintro e w2 ⟨⟨x, rfl, hx⟩, hb2⟩
    obtain ⟨Ad, c, rfl, hS, hab⟩ := hx
    obtain ⟨g4, hg4⟩ : ∃ g, g = w2.heap.size := ⟨_, rfl⟩
    have hI : AoI w l A k g4 (w2.alloc (.cells (avl fullA Ad c) 25)) 0 fullA Ad c := by
      have hs2 := hb2.size
      refine ⟨rfl, fun p hp => by simp at hp, Whole.at_ _ _ _ _ hg4, (hS.mono (Q' := fun g => g ≠ g4) fun g hg _ => by show g ≠ g4; omega).alloc _, hab, (Whole.below HZ.out hb2 (by omega)).alloc _, (HB1.out.trans (hb2.mono (by omega))).alloc (by have := HB1.out.size; omega) _, by omega⟩
    have HI := Lib.hid hI
    clear hI hS hab hb2
    clear esn
    go_wp2_with fail
    rw [← hg4]
    have hgw := HI.out.g
    clear hg4 hfu
    go_loopw [14] (fun iv wr => ∃ i a Ad c, iv = .int .i64 (i : Nat) ∧ i ≤ n ∧ AoI w l A k g4 wr i a Ad c) (fun iv _ => n - (intOf iv).toNat)
    case atStart => exact ⟨0, _, _, _, rfl, by omega, HI.out⟩
    case round =>
      obtain ⟨i, a, Ad, c, rfl, hi, hI⟩ := hrel
      clear HI
      have HI := Lib.hid hI
      have hgl := hI.row.lt
      have hP : Prds wr (fun b => b < w.heap.size) A k l := HP.out.keep hI.low.size fun g _ hq => hI.low.block g hq
      clear hI
      by_cases hin : i < n
      · obtain ⟨p, hp⟩ : ∃ p, l[i]? = some p := ⟨_, List.getElem?_eq_getElem (by have := HN.out; omega)⟩
        have hpb := hP.2.2.2.1 p (List.mem_of_getElem? hp)
        have hv := fun W => pvalid p hpb.1 hpb.2 W
        have hre := fun W (y : Value) (hy : Av W (fun g => g ≠ g4) y a) (hk : pok p) => arestrict hy HI.out.wk.len hk hpb
        have hst : pok p → rst a p = rstl fullA (l.take (i + 1)) := fun _ => by rw [rstl_snoc hp, ← HI.out.e]
        have hok2 : pok p → ∀ q ∈ l.take (i + 1), pok q := fun hk q hq => by
          rw [Sh.take_snoc hp] at hq
          rcases List.mem_append.1 hq with hq | hq
          · exact HI.out.ok q hq
          · rw [List.mem_singleton.1 hq]; exact hk
        have hmem := List.mem_of_getElem? hp
        rw [pv_row] at hv hre
        obtain ⟨g, o, rfl, hQ, hg, c0, c1, c2', c3, c4, c5⟩ := hP.get i p hp
        obtain ⟨pk, pm, pl, ph, pn, pu⟩ := p
        simp only at hv hre hst hok2 hmem c0 c1 c2' c3 c4 c5
        obtain ⟨D1, hD1⟩ : ∃ D, D = decide (pok ⟨pk, pm, pl, ph, pn, pu⟩) := ⟨_, rfl⟩
        rw [← hD1] at hv
        have HD := Lib.hid hD1
        have HST := Lib.hid hst
        have HOK2 := Lib.hid hok2
        have HM := Lib.hid hmem
        have HRE := Lib.hid hre
        have hi0 : (0 : Int) ≤ (i : Int) := by omega
        have hi1 : (i : Int) < (n : Int) := by omega
        clear hP hp hpb hst hok2 hmem hre hD1
        go_wp2_with fail
        refine (hv _).mono ?_
        rintro e w5 ⟨rfl, hb5⟩
        have hb5' : Below wr.heap.size wr w5 := ((Below.refl wr.heap.size wr).alloc (Nat.le_refl _) _).trans (hb5.mono (by simp))
        have hpr : Whole w5 wr.heap.size 43 (prow pk pm pl ph pn pu) := Whole.below (Whole.here wr _ _) hb5 (by simp)
        have hrow : Whole w5 g4 25 (avl a Ad c) := Whole.below HI.out.row hb5' hgl
        have hres : ARow w5 w.heap.size false 0 0 0 0 0 (.slice none 0 0) [] := Whole.below HI.out.res hb5' (by omega)
        have hsp5 : Spn w5 (fun g => g ≠ g4) Ad c a.daily := HI.out.sp.below hb5' (Nat.le_refl _)
        have hlow5 : Below w.heap.size w w5 := HI.out.low.trans (hb5'.mono HI.out.low.size)
        obtain ⟨q0, q1, q2, q3, q4, q5⟩ := PRow.cells hpr
        cases D1
        · have HW := Lib.hid (hres.setRow zlit)
          have HF := Lib.hid (aof_err (below_setRow (g := w.heap.size) hlow5 (Nat.le_refl _) zlit) (.inr (.inl ⟨by rw [← HN.out]; omega, fun h => (of_decide_eq_false HD.out.symm) (h _ HM.out), rfl, rfl⟩) : OfR l zeroA 5))
          clear hb5 hb5' hpr hrow hsp5 hlow5 HRE HI c0 c1 c2' c3 c4 c5
          go_wp2_with (with_reducible refine wpList_store_aut rfl _ _ rfl (g := w.heap.size) rfl rfl hres (by with_unfolding_all rfl) (by with_unfolding_all rfl) (by with_unfolding_all rfl) ?_)
          refine bodyPost_ret (results_aut2 (g := w.heap.size) Try.results20 _ rfl _ rfl rfl HW.out) rfl ?_
          exact HF.out
        · have hk := of_decide_eq_true HD.out.symm
          have hcall := HRE.out w5 (.agg (avl a Ad c)) ⟨Ad, c, rfl, hsp5, HI.out.bd⟩ hk
          have HBD := Lib.hid HI.out.bd
          have HST2 := Lib.hid (HST.out hk)
          have HOK3 := Lib.hid (HOK2.out hk)
          have HG := HI.out.g
          clear hb5 hpr hsp5 HRE c0 c1 c2' c3 c4 c5 HI hk
          go_wp2_with (with_reducible refine wpList_load_aut rfl _ rfl rfl hrow ?_)
          refine hcall.mono ?_
          rintro e w6 ⟨⟨y, rfl, hy⟩, hb6⟩
          obtain ⟨Ad2, cc2, rfl, hS6, hab6⟩ := hy
          obtain ⟨m, hm⟩ : ∃ m, m = rst a ⟨pk, pm, pl, ph, pn, pu⟩ := ⟨_, rfl⟩
          rw [← hm] at hS6 hab6 ⊢
          have hg5 : g4 < w5.heap.size := hrow.lt
          have hrow6 : Whole w6 g4 25 (avl a Ad c) := Whole.below hrow hb6 hg5
          have hres6 : ARow w6 w.heap.size false 0 0 0 0 0 (.slice none 0 0) [] := Whole.below hres hb6 (by omega)
          have hsp6 : Spn (w6.setRow g4 (avl m Ad2 cc2)) (fun g => g ≠ g4) Ad2 cc2 m.daily := (hS6.mono (Q' := fun g => g ≠ g4) fun g _ hq => by
            rcases hq with hq | hq
            · exact hq
            · show g ≠ g4
              have : w5.heap.size ≤ g := hq
              omega).keep (by simp [World.setRow]) fun g _ hq => setRow_other w6 g4 g _ hq
          have HI2 : Hid (AoI w l (some ⟨g, o, none⟩) k g4 (w6.setRow g4 (avl m Ad2 cc2)) (i + 1) m Ad2 cc2) := Lib.hid
            ⟨hm.trans HST2.out, HOK3.out, hrow6.setRow _, hsp6, hab6, Whole.setRow_far hres6 (by omega) _, below_setRow (g := g4) (hlow5.trans (hb6.mono hlow5.size)) (by omega) _, HG⟩
          clear hb5' hrow hres hlow5 q0 q1 q2 q3 q4 q5 hcall hb6 hS6 hab6 hres6 hsp6 hm
          go_wp2_with (with_reducible refine wpList_store_aut rfl _ _ rfl (g := g4) rfl rfl hrow6 (by with_unfolding_all rfl) (by with_unfolding_all rfl) (by with_unfolding_all rfl) ?_)
          go_roundw
          case rel => exact ⟨i + 1, m, Ad2, cc2, by go_num, by omega, HI2.out⟩
          case measure => simp [intOf]; omega
      · obtain rfl : i = n := by omega
        have hex := HI.out.e
        have hok := HI.out.ok
        rw [HN.out, List.take_length] at hex hok
        have hsh := ashrink (x := .agg (avl a Ad c)) ⟨Ad, c, rfl, HI.out.sp, HI.out.bd⟩ HI.out.wk
        have hset : ∀ m, IsSet (ina a) m → IsSet (holdsAll l) m := fun m hm => hm.congr fun c hc => by
          rw [hex, rstl_ina full_wk hok c hc]
          exact ⟨fun h => h.2, fun h => ⟨(full_set.2 c hc).2 trivial, h⟩⟩
        have HSET := Lib.hid hset
        have HOK := Lib.hid hok
        have hrow := HI.out.row
        clear hex hok hset hP
        go_wp2_with (with_reducible refine wpList_load_aut rfl _ rfl rfl hrow ?_)
        refine hsh.mono ?_
        rintro e w6 ⟨⟨y, m, rfl, hy, hs⟩, hb6⟩
        obtain ⟨Ad2, cc2, rfl, hS6, hab6⟩ := hy
        have hres6 : ARow w6 w.heap.size false 0 0 0 0 0 (.slice none 0 0) [] := Whole.below HI.out.res hb6 (by omega)
        have HW := Lib.hid (hres6.setRow (avl m Ad2 cc2))
        have HF : Hid ((∃ x m' er, (Ending.returned (.tuple #[.agg (avl m Ad2 cc2), .int .i64 0]) : Ending) = .returned (.tuple #[x, .int .i64 er]) ∧ Av (w6.setRow w.heap.size (avl m Ad2 cc2)) (fun b => w.heap.size ≤ b) x m' ∧ OfR l m' er) ∧ Below w.heap.size w (w6.setRow w.heap.size (avl m Ad2 cc2))) := Lib.hid
          ⟨⟨_, m, 0, rfl, ⟨Ad2, cc2, rfl, (hS6.keep (w' := w6.setRow w.heap.size (avl m Ad2 cc2)) (by simp [World.setRow]) fun g _ hq => setRow_other w6 w.heap.size g _ (by have : wr.heap.size ≤ g := hq; omega)).mono fun g _ hq => by
            show w.heap.size ≤ g
            have : wr.heap.size ≤ g := hq
            omega, hab6⟩, .inr (.inr ⟨by rw [← HN.out]; omega, HOK.out, HSET.out m hs, rfl⟩)⟩, below_setRow (g := w.heap.size) (HI.out.low.trans (hb6.mono (by omega))) (Nat.le_refl _) _⟩
        clear hsh hrow hb6 hS6 hs hab6 HI
        go_wp2_with (with_reducible refine wpList_store_aut rfl _ _ rfl (g := w.heap.size) rfl rfl hres6 (by with_unfolding_all rfl) (by with_unfolding_all rfl) (by with_unfolding_all rfl) ?_)
        refine bodyPost_ret (results_aut2 (g := w.heap.size) Try.results20 _ rfl _ rfl rfl HW.out) rfl ?_
        exact HF.out
end Go.Proofs.Ytdmfbgojafbhcaa
namespace Go.Proofs.Ytdmfbgojafbhcaa
open Go Go.RowKit Sh Leaf

theorem two_prds {W : World} {g : Nat} {p q : Prd} {cs : Array Value} (h : Whole W g 43 cs) (e : cs = (pcl p ++ pcl q).toArray) (hp : pbd p) (hq : pbd q) : Prds W (fun _ => True) (some ⟨g, 0, none⟩) 2 [p, q] := by
  have hcs : cs = (fl pcl [p, q]).toArray := by rw [e]; simp [fl]
  obtain ⟨A, c, e2, hP⟩ := OwnP.prds (base := 0) (owns_lit (f := pcl) (n := 6) (l := [p, q]) h (Nat.zero_le _) pcl_length rfl hcs (by simp)) (by
    intro x hx
    simp at hx
    rcases hx with rfl | rfl
    · exact hp
    · exact hq)
  injection e2 with e3 e4 e5
  subst e3 e5
  exact hP.mono fun _ _ _ => trivial
set_option maxRecDepth 100000 in
set_option maxHeartbeats 2000000 in
theorem aawake (w : World) : Calls Try.prog 10 #[] w fun e w' => e = .returned (.bool true) ∧ Below w.heap.size w w' := by
  have esn : sof [] = { data := #[] } := by unfold sof; rfl
  have h1 : ∀ W g cs, Whole W g 43 cs → cs = (pcl ⟨4, 0, 0, 1439, [], 0⟩ ++ pcl ⟨5, 0, 1380, 300, [], 0⟩).toArray → Calls Try.prog 20 #[.slice (some ⟨g, 0, none⟩) 2 2] W fun e w' => (∃ Ad c, e = .returned (.tuple #[.agg (arow false 18446744073709551615 4294967295 1 0 1439 (.slice Ad 2 c) []), .int .i64 0]) ∧ Spn w' (fun b => W.heap.size ≤ b) Ad c [(0, 300), (1380, 1439)]) ∧ Below W.heap.size W w' := fun W g cs hW hcs => by
    refine (aof [⟨4, 0, 0, 1439, [], 0⟩, ⟨5, 0, 1380, 300, [], 0⟩] _ _ _ W (two_prds hW hcs ⟨by decide, by decide⟩ ⟨by decide, by decide⟩)).mono fun e w' h => ?_
    obtain ⟨⟨x, m, er, he, hm, hr⟩, h2⟩ := h
    rcases hr with ⟨h, _⟩ | ⟨_, h, _⟩ | ⟨_, _, hs, rfl⟩
    · exact absurd h (by decide)
    · exact absurd (fun p hp => by
        simp at hp
        rcases hp with rfl | rfl <;> decide) h
    · obtain rfl := hs.unique exA_set
      obtain ⟨Ad, c, rfl, hS, _⟩ := hm
      exact ⟨⟨Ad, c, he, hS⟩, h2⟩
  have h2 : ∀ W g cs, Whole W g 43 cs → cs = (pcl ⟨4, 0, 0, 1439, [], 0⟩ ++ pcl ⟨3, 2, 0, 0, [], 0⟩).toArray → Calls Try.prog 20 #[.slice (some ⟨g, 0, none⟩) 2 2] W fun e w' => (∃ Ad c n, e = .returned (.tuple #[.agg (arow true 0 0 0 0 0 (.slice Ad n c) []), .int .i64 0])) ∧ Below W.heap.size W w' := fun W g cs hW hcs => by
    refine (aof [⟨4, 0, 0, 1439, [], 0⟩, ⟨3, 2, 0, 0, [], 0⟩] _ _ _ W (two_prds hW hcs ⟨by decide, by decide⟩ ⟨by decide, by decide⟩)).mono fun e w' h => ?_
    obtain ⟨⟨x, m, er, he, hm, hr⟩, h2⟩ := h
    rcases hr with ⟨h, _⟩ | ⟨_, h, _⟩ | ⟨_, _, hs, rfl⟩
    · exact absurd h (by decide)
    · exact absurd (fun p hp => by
        simp at hp
        rcases hp with rfl | rfl <;> decide) h
    · obtain rfl := hs.unique exB_set
      obtain ⟨Ad, c, rfl, hS, _⟩ := hm
      exact ⟨⟨Ad, c, _, he⟩, h2⟩
  have hc1 : (#[.int .i64 4, .int .u64 0, .int .i64 0, .int .i64 1439, .string { data := #[] }, .int .i64 0, .int .i64 5, .int .u64 0, .int .i64 1380, .int .i64 300, .string { data := #[] }, .int .i64 0] : Array Value) = (pcl ⟨4, 0, 0, 1439, [], 0⟩ ++ pcl ⟨5, 0, 1380, 300, [], 0⟩).toArray := by simp [pcl, esn]
  have hc2 : (#[.int .i64 4, .int .u64 0, .int .i64 0, .int .i64 1439, .string { data := #[] }, .int .i64 0, .int .i64 3, .int .u64 2, .int .i64 0, .int .i64 0, .string { data := #[] }, .int .i64 0] : Array Value) = (pcl ⟨4, 0, 0, 1439, [], 0⟩ ++ pcl ⟨3, 2, 0, 0, [], 0⟩).toArray := by simp [pcl, esn]
  have H1 := Lib.hid fun W g (hW : Whole W g 43 _) => h1 W g _ hW hc1
  have H2 := Lib.hid fun W g (hW : Whole W g 43 _) => h2 W g _ hW hc2
  clear h1 h2 hc1 hc2 esn
  go_enter Try.func10, Try.ntmps10
  go_wp2_with fail
  refine (H1.out _ w.heap.size (Whole.here w _ _)).mono ?_
  rintro e w1 ⟨⟨Ad, c, rfl, hS⟩, hb1⟩
  obtain ⟨g, o, rfl, hq, hg, _, y2⟩ := Spn.get hS 0 (0, 300) rfl
  have hlow1 : Below w.heap.size w w1 := ((Below.refl w.heap.size w).alloc (Nat.le_refl _) _).trans (hb1.mono (by simp))
  have HL1 := Lib.hid hlow1
  clear hS hb1 H1 hlow1 hq
  go_upto_region 2 with fail
  go_wp2_with fail
  refine (H2.out _ (w1.heap.size + 1) (Whole.at_ _ _ _ _ (by simp))).mono ?_
  rintro e w2 ⟨⟨Bd, bc, bn, rfl⟩, hb2⟩
  have hb2' : Below (w1.heap.size + 1) (w1.alloc (.cells (arow false 18446744073709551615 4294967295 1 0 1439 (.slice (some ⟨g, o, none⟩) 2 c) []) 25)) w2 := by
    refine Below.trans ?_ (hb2.mono (by simp))
    exact (Below.refl _ _).alloc (by simp) _
  have hr : ARow w2 w1.heap.size false 18446744073709551615 4294967295 1 0 1439 (.slice (some ⟨g, o, none⟩) 2 c) [] := Whole.below (Whole.here w1 _ _) hb2' (by omega)
  have y3 : w2.cell? ⟨g, o + 0 * 2 + 1, none⟩ = some (.int .i64 300) := (World.cell?_of_block (hb2'.block g (by omega))).trans ((World.cell?_of_block (Below.heap_alloc w1 _ g hg)).trans y2)
  rw [Nat.zero_mul, Nat.add_zero] at y3
  have HF : Hid (Below w.heap.size w w2) := Lib.hid (HL1.out.trans (((Below.refl w1.heap.size w1).alloc (Nat.le_refl _) _).trans (hb2'.mono (by omega)) |>.mono HL1.out.size))
  obtain ⟨a0, a1, a2, a3, a4, a5, a6, a7⟩ := hr.cells
  have hl1 : w1.heap.size < w2.heap.size := hr.lt
  have hl2 : g < w2.heap.size := by omega
  have HF2 : Hid (∀ o, Below w.heap.size w (w2.alloc o)) := Lib.hid fun o => HF.out.alloc HF.out.size o
  clear hb2 hb2' hr H2 y2 HL1 a0 a1 a2 a7
  go_wp2_with fail
  go_ret
  exact ⟨rfl, HF2.out _⟩
end Go.Proofs.Ytdmfbgojafbhcaa
namespace Go.Proofs.Ytdmfbgojafbhcaa
open Go Go.RowKit Sh Leaf

theorem of_ok {l : List Prd} {m : Aut} {er : Int} (hr : OfR l m er) (hl : l.length ≤ 64) (hp : ∀ p ∈ l, pok p) : IsSet (holdsAll l) m ∧ er = 0 := by
  rcases hr with ⟨h, _⟩ | ⟨_, h, _⟩ | ⟨_, _, h, e⟩
  · omega
  · exact absurd hp h
  · exact ⟨h, e⟩
theorem exact_eq {l : List Prd} {m : Aut} {c : Ctx} (hp : ∀ p ∈ l, pok p) (hs : IsSet (holdsAll l) m) (hc : cok c) : decide (aok m ∧ cok c ∧ ina m c) = (hdAll l c).2 := by
  rw [hdAll_all]
  refine decide_eq_decide.2 ⟨fun h p hp' => ⟨hp p hp', hc, (hs.2 c hc).1 h.2.2 p hp'⟩, fun h => ⟨hs.1, hc, (hs.2 c hc).2 fun p hp' => (h p hp').2.2⟩⟩
set_option maxRecDepth 100000 in
set_option maxHeartbeats 4000000 in
theorem aexact_law (A0 : Option Addr) (l0 : List Int) (c0 : Nat) (A1 : Option Addr) (l1 : List Int) (c1 : Nat) (w : World) (hI0 : Ints w (fun b => b < w.heap.size) A0 c0 l0) (hI1 : Ints w (fun b => b < w.heap.size) A1 c1 l1) :
    Calls Try.prog 5 #[.slice A0 l0.length c0, .slice A1 l1.length c1] w fun e w' => e = .returned (.bool true) ∧ Below w.heap.size w w' := by
  obtain ⟨n0, hn0⟩ : ∃ n, n = l0.length := ⟨_, rfl⟩
  obtain ⟨n1, hn1⟩ : ∃ n, n = l1.length := ⟨_, rfl⟩
  rw [← hn0, ← hn1]
  have hd := dnew A0 n0 c0 l0 w hn0 hI0
  have HI1 := Lib.hid hI1
  have HN1 := Lib.hid hn1
  clear hI0 hI1 hn0 hn1
  go_enter Try.func5, Try.ntmps5
  go_wp2_with fail
  refine hd.mono ?_
  rintro e w1 ⟨rfl, hk1, hb1⟩
  have hps := dpreds 5 (by omega) _ _ hk1
  rw [show ((5 : Nat) : Int) = 5 from rfl] at hps
  have hg1 : w.heap.size < w1.heap.size := hk1.lt
  have HB1 := Lib.hid hb1
  clear hd hk1 hb1
  go_wp2_with fail
  refine hps.mono ?_
  rintro e w2 ⟨v, lx, rfl, hlx5, hlx, hown, ht2⟩
  obtain ⟨Ax, cx, rfl, hX⟩ := hown.prds (fun p hp => (hlx p hp).2)
  have HX := Lib.hid (hX.mono (Q' := fun g => g < w2.heap.size) fun g hg _ => hg)
  have HB2 := Lib.hid (HB1.out.trans ht2.2.1)
  have hd2 := dnew A1 n1 c1 l1 w2 HN1.out ((HI1.out.below HB2.out).mono HB2.out.size)
  have HLX : Hid (∀ p ∈ lx, pok p) := Lib.hid fun p hp => (hlx p hp).1
  obtain ⟨nx, hnx⟩ : ∃ n, n = lx.length := ⟨_, rfl⟩
  rw [← hnx]
  have HNX := Lib.hid hnx
  have HL5 : Hid (lx.length ≤ 64) := Lib.hid (by omega)
  clear hps hlx hlx5 hown ht2 hX HB1 HI1 HN1 hnx
  go_wp2_with fail
  refine hd2.mono ?_
  rintro e w3 ⟨rfl, hk3, hb3⟩
  have hcx := dctx _ _ hk3
  have HB3 := Lib.hid hb3
  clear hd2 hk3 hb3
  go_wp2_with fail
  refine hcx.mono ?_
  rintro e w4 ⟨c, hc, rfl, ht4⟩
  have HB4 : Hid (Below w2.heap.size w2 w4) := Lib.hid (HB3.out.trans ht4.2.1)
  have HC := Lib.hid hc
  have hcl : c.holder.length ≤ 9223372036854775807 := by have := hc.2.2.2.2.1; omega
  have hX4 : Prds w4 (fun g => g < w2.heap.size) Ax cx lx := HX.out.keep HB4.out.size fun g _ hq => HB4.out.block g hq
  have hof := fun o => aof lx Ax cx _ (w4.alloc o) (hX4.alloc o)
  have hcon := fun W x (m : Aut) Q (hx : Av W Q x m) => acontains hx c hcl
  have hal := fun W Q (hW : Prds W Q Ax cx lx) => hall_ lx c hcl Ax cx Q W hW
  have HEX : Hid (∀ m, IsSet (holdsAll lx) m → decide (aok m ∧ cok c ∧ ina m c) = (hdAll lx c).2) := Lib.hid fun m hm => exact_eq HLX.out hm hc
  rw [← HNX.out] at hof hal
  rw [cv_row] at hcon hal ⊢
  obtain ⟨cz, cl, cm, cn⟩ := c
  simp only at hcon hal ⊢
  have HAL := Lib.hid hal
  have HCON := Lib.hid hcon
  obtain ⟨K, hK⟩ : ∃ K, K = (hdAll lx ⟨cz, cl, cm, cn⟩).2 := ⟨_, rfl⟩
  obtain ⟨ix, hix⟩ : ∃ K : Int, K = ((hdAll lx ⟨cz, cl, cm, cn⟩).1 : Int) := ⟨_, rfl⟩
  rw [← hK] at HAL HEX
  rw [← hix] at HAL
  clear hcx hc hcl ht4 hal hcon hK hix HB3
  go_wp2_with fail
  refine (hof _).mono ?_
  rintro e w6 ⟨⟨x, m, er, rfl, hm, hr⟩, hb6⟩
  obtain ⟨hs, rfl⟩ := of_ok hr HL5.out HLX.out
  obtain ⟨Am, cm2, rfl, hS, hab⟩ := hm
  have hC6 : CRow w6 w4.heap.size cz cl cm cn := Whole.below (Whole.here w4 _ _) hb6 (by simp)
  have hb46 : Below w4.heap.size w4 w6 := ((Below.refl w4.heap.size w4).alloc (Nat.le_refl _) _).trans (hb6.mono (by simp))
  obtain ⟨w7, hw7⟩ : ∃ w7, w7 = w6.alloc (.cells (avl m Am cm2) 25) := ⟨_, rfl⟩
  have hb67 : Below w6.heap.size w6 w7 := by rw [hw7]; exact (Below.refl w6.heap.size w6).alloc (Nat.le_refl _) _
  have hr7 : ARow w7 w6.heap.size m.none m.zones m.lines m.days m.lo m.hi (.slice Am m.daily.length cm2) m.holder := by rw [hw7]; exact Whole.here _ _ _
  have hC7 : CRow w7 w4.heap.size cz cl cm cn := Whole.below hC6 hb67 hC6.lt
  have hb47 : Below w4.heap.size w4 w7 := hb46.trans (hb67.mono hb46.size)
  have hX7 : Prds w7 (fun g => g < w2.heap.size) Ax cx lx := hX4.keep hb47.size fun g _ hq => hb47.block g (by have := HB4.out.size; have : g < w2.heap.size := hq; omega)
  have hAv7 : Av w7 (fun _ => True) (.agg (avl m Am cm2)) m := ⟨Am, cm2, rfl, (hS.below hb67 (Nat.le_refl _)).mono fun _ _ _ => trivial, hab⟩
  have hal := HAL.out w7 _ hX7
  obtain ⟨k0, k1, k2, k3⟩ := hC7.cells
  have HAV := Lib.hid hAv7
  have HR7 := Lib.hid hr7
  have HC7 := Lib.hid hC7
  have HB7 : Hid (Below w.heap.size w w7) := Lib.hid ((HB2.out.trans (HB4.out.mono HB2.out.size)).trans (hb47.mono (Nat.le_trans HB2.out.size HB4.out.size)))
  have HKM := Lib.hid (HEX.out m hs)
  have hwl := hC6.lt
  clear hof hX4 hX7 hAv7 hr7 hC7 hC6 hb46 hb47 hb6 hb67 hS hab hr hs HAL HEX HX
  go_upto_region 4 with fail
  rw [← hw7]
  clear hw7
  go_wp2_with fail
  refine hal.mono ?_
  rintro e w8 ⟨rfl, hb8⟩
  have hr8 : ARow w8 w6.heap.size m.none m.zones m.lines m.days m.lo m.hi (.slice Am m.daily.length cm2) m.holder := Whole.below HR7.out hb8 HR7.out.lt
  have hC8 : CRow w8 w4.heap.size cz cl cm cn := Whole.below HC7.out hb8 HC7.out.lt
  have hcon := HCON.out w8 (.agg (avl m Am cm2)) m (fun _ => True) (HAV.out.below hb8 (Nat.le_refl _))
  rw [HKM.out] at hcon
  have HB8 : Hid (Below w.heap.size w w8) := Lib.hid (HB7.out.trans (hb8.mono HB7.out.size))
  obtain ⟨k0', k1', k2', k3'⟩ := hC8.cells
  obtain ⟨a0, a1, a2, a3, a4, a5, a6, a7⟩ := hr8.cells
  have hkk : (K == K) = true := by simp
  have haw := fun W => aawake W
  clear hal hb8 hr8 hC8 HCON HAV HR7 HC7 HKM k0 k1 k2 k3
  go_wp2_with fail
  refine hcon.mono ?_
  rintro e w9 ⟨rfl, hb9⟩
  have HB9 : Hid (Below w.heap.size w w9) := Lib.hid (HB8.out.trans (hb9.mono HB8.out.size))
  clear hcon hb9 k0' k1' k2' k3' a0 a1 a2 a3 a4 a5 a6 a7
  go_wp2_with fail
  refine (haw _).mono ?_
  rintro e w10 ⟨rfl, hb10⟩
  have HB10 : Hid (Below w.heap.size w w10) := Lib.hid (HB9.out.trans (hb10.mono HB9.out.size))
  clear hb10 haw
  go_wp2_with fail
  go_ret
  exact ⟨rfl, HB10.out⟩
end Go.Proofs.Ytdmfbgojafbhcaa
