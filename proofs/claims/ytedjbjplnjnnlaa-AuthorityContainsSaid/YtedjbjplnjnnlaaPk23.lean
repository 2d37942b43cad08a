/-
  The program's Of: the summary of a list of predicates.
  The calls of Of and of SameAuthority, from a world p on that they leave as it was.
  The law package's awake.
  The call of awake of the laws of stage 8.
  The law AuthorityOf.
-/
import Derived.Deep.DeepCutAuto
import Derived.Test.YtedjbjplnjnnlaaPk15
import Derived.Test.YtedjbjplnjnnlaaPk10
import Derived.Test.YtedjbjplnjnnlaaPk21
import Derived.Test.YtedjbjplnjnnlaaPk22
import Derived.Test.YtedjbjplnjnnlaaPk7
import Derived.Test.YtedjbjplnjnnlaaPk24
import Derived.Test.YtedjbjplnjnnlaaPk26
import Derived.Deep.RegionHeld3
namespace Go.Proofs.Ytedjbjplnjnnlaa
open Go Go.RowKit Sh Leaf

theorem full_wk : Wk fullA := aok_wk full_set.1
/-- While Of goes through the list. -/
structure AoI (w : World) (l : List Prd) (A : Option Addr) (k g4 : Nat) (wr : World) (i : Nat) (a : Aut) (Ad : Option Addr) (c : Nat) : Prop where
  e : a = rstl fullA (l.take i)
  ok : ∀ p ∈ l.take i, pok p
  row : Whole wr g4 25 (avl a Ad c)
  sp : Spn wr (fun g => g ≠ g4) Ad c a.daily
  bd : abd a
  res : ARow wr w.heap.size false 0 0 0 0 0 (.slice none 0 0) []
  low : Below w.heap.size w wr
  g : w.heap.size < g4
theorem AoI.wk {w wr : World} {l : List Prd} {A : Option Addr} {k g4 i : Nat} {a : Aut} {Ad : Option Addr} {c : Nat} (h : AoI w l A k g4 wr i a Ad c) : Wk a := by rw [h.e]; exact rstl_wk full_wk h.ok
/-- The authority whose fields are all zero, as the program builds it. -/
abbrev zlit : Array Value := #[.bool false, .int .u64 0, .int .u64 0, .int .u64 0, .int .i64 0, .int .i64 0, .slice none 0 0, .string { data := #[] }]
theorem zlit_eq : zlit = arow false 0 0 0 0 0 (.slice none 0 0) [] := by
  have esn : sof [] = { data := #[] } := by unfold sof; rfl
  unfold zlit arow
  rw [esn]
/-- What Of answers with an error. -/
theorem aof_err {w W : World} {l : List Prd} {er : Int} (hb : Below w.heap.size w W) (h : OfR l zeroA er) : (∃ x m e', (Ending.returned (.tuple #[.agg zlit, .int .i64 er]) : Ending) = .returned (.tuple #[x, .int .i64 e']) ∧ Av W (fun b => w.heap.size ≤ b) x m ∧ OfR l m e') ∧ Below w.heap.size w W :=
  ⟨⟨_, zeroA, er, rfl, by rw [zlit_eq]; exact av_zero _ _, h⟩, hb⟩
set_option maxRecDepth 100000 in
set_option maxHeartbeats 4000000 in
theorem aof (l : List Prd) (A : Option Addr) (k : Nat) (Q : Nat → Prop) (w : World) (hI : Prds w Q A k l) :
    Calls Try.prog 18 #[.slice A l.length k] w fun e w' => (∃ x m er, e = .returned (.tuple #[x, .int .i64 er]) ∧ Av w' (fun b => w.heap.size ≤ b) x m ∧ OfR l m er) ∧ Below w.heap.size w w' := by
  have hlen : l.length ≤ 9223372036854775807 := by
    have := hI.1
    have := hI.2.1
    unfold maxLen at this
    omega
  have HP := Lib.hid (hI.mono (Q' := fun b => b < w.heap.size) fun g hg _ => hg)
  have esn : sof [] = { data := #[] } := by unfold sof; rfl
  have hz : ARow (w.alloc (.cells #[.bool false, .int .u64 0, .int .u64 0, .int .u64 0, .int .i64 0, .int .i64 0, .slice none 0 0, .string { data := #[] }] 25)) w.heap.size false 0 0 0 0 0 (.slice none 0 0) [] := by
    show Whole _ _ _ #[_, _, _, _, _, _, _, .string (sof [])]
    rw [esn]
    exact Whole.here _ _ _
  obtain ⟨n, hn⟩ : ∃ n, n = l.length := ⟨_, rfl⟩
  rw [← hn] at hlen ⊢
  have HN := Lib.hid hn
  obtain ⟨w1, hw1⟩ : ∃ w1, w1 = w.alloc (.cells #[.bool false, .int .u64 0, .int .u64 0, .int .u64 0, .int .i64 0, .int .i64 0, .slice none 0 0, .string { data := #[] }] 25) := ⟨_, rfl⟩
  have hb1 : Below w.heap.size w w1 := by rw [hw1]; exact (Below.refl w.heap.size w).alloc (Nat.le_refl _) _
  have hs1 : w1.heap.size = w.heap.size + 1 := by rw [hw1]; simp
  rw [← hw1] at hz
  have HZ := Lib.hid hz
  have HB1 := Lib.hid hb1
  clear hI hn hz hb1
  by_cases hlong : 64 < n
  · have hl2 : (64 : Int) < (n : Int) := by omega
    have HW := Lib.hid (HZ.out.setRow zlit)
    have HF := Lib.hid (aof_err (below_setRow (g := w.heap.size) HB1.out (Nat.le_refl _) zlit) (.inl ⟨by rw [← HN.out]; exact hlong, rfl, rfl⟩ : OfR l zeroA 2))
    have hzz : ARow w1 w.heap.size false 0 0 0 0 0 (.slice none 0 0) [] := HZ.out
    go_enter Try.func18, Try.ntmps18
    go_upto_region 2 with fail
    rw [← hw1]
    clear hw1
    go_wp2_with (with_reducible refine wpList_store_aut rfl _ _ rfl (g := w.heap.size) rfl rfl hzz (by with_unfolding_all rfl) (by with_unfolding_all rfl) (by with_unfolding_all rfl) ?_)
    refine bodyPost_ret (results_aut2 (g := w.heap.size) Try.results18 _ rfl _ rfl rfl HW.out) rfl ?_
    exact HF.out
  · have hl2 : (n : Int) ≤ 64 := by omega
    have hfu := fun W => afull W
    go_enter Try.func18, Try.ntmps18
    go_upto_region 3 with fail
    rw [← hw1]
    clear hw1
    go_wp2_with fail
    refine (hfu _).mono ?_
    rintro e w2 ⟨⟨x, rfl, hx⟩, hb2⟩
    obtain ⟨Ad, c, rfl, hS, hab⟩ := hx
    obtain ⟨g4, hg4⟩ : ∃ g, g = w2.heap.size := ⟨_, rfl⟩
    have hI : AoI w l A k g4 (w2.alloc (.cells (avl fullA Ad c) 25)) 0 fullA Ad c := by
      have hs2 := hb2.size
      refine ⟨rfl, fun p hp => by simp at hp, Whole.at_ _ _ _ _ hg4, (hS.mono (Q' := fun g => g ≠ g4) fun g hg _ => by show g ≠ g4; omega).alloc _, hab, (Whole.below HZ.out hb2 (by omega)).alloc _, (HB1.out.trans (hb2.mono (by omega))).alloc (by have := HB1.out.size; omega) _, by omega⟩
    have HI := Lib.hid hI
    clear hI hS hab hb2
    clear esn
    go_wp2_with fail
    rw [← hg4]
    have hgw := HI.out.g
    clear hg4 hfu
    go_loopw [14] (fun iv wr => ∃ i a Ad c, iv = .int .i64 (i : Nat) ∧ i ≤ n ∧ AoI w l A k g4 wr i a Ad c) (fun iv _ => n - (intOf iv).toNat)
    case atStart => exact ⟨0, _, _, _, rfl, by omega, HI.out⟩
    case round =>
      obtain ⟨i, a, Ad, c, rfl, hi, hI⟩ := hrel
      clear HI
      have HI := Lib.hid hI
      have hgl := hI.row.lt
      have hP : Prds wr (fun b => b < w.heap.size) A k l := HP.out.keep hI.low.size fun g _ hq => hI.low.block g hq
      clear hI
      by_cases hin : i < n
      · obtain ⟨p, hp⟩ : ∃ p, l[i]? = some p := ⟨_, List.getElem?_eq_getElem (by have := HN.out; omega)⟩
        have hpb := hP.2.2.2.1 p (List.mem_of_getElem? hp)
        have hv := fun W => pvalid p hpb.1 hpb.2 W
        have hre := fun W (y : Value) (hy : Av W (fun g => g ≠ g4) y a) (hk : pok p) => arestrict hy HI.out.wk.len hk hpb
        have hst : pok p → rst a p = rstl fullA (l.take (i + 1)) := fun _ => by rw [rstl_snoc hp, ← HI.out.e]
        have hok2 : pok p → ∀ q ∈ l.take (i + 1), pok q := fun hk q hq => by
          rw [Sh.take_snoc hp] at hq
          rcases List.mem_append.1 hq with hq | hq
          · exact HI.out.ok q hq
          · rw [List.mem_singleton.1 hq]; exact hk
        have hmem := List.mem_of_getElem? hp
        rw [pv_row] at hv hre
        obtain ⟨g, o, rfl, hQ, hg, c0, c1, c2', c3, c4, c5⟩ := hP.get i p hp
        obtain ⟨pk, pm, pl, ph, pn, pu⟩ := p
        simp only at hv hre hst hok2 hmem c0 c1 c2' c3 c4 c5
        obtain ⟨D1, hD1⟩ : ∃ D, D = decide (pok ⟨pk, pm, pl, ph, pn, pu⟩) := ⟨_, rfl⟩
        rw [← hD1] at hv
        have HD := Lib.hid hD1
        have HST := Lib.hid hst
        have HOK2 := Lib.hid hok2
        have HM := Lib.hid hmem
        have HRE := Lib.hid hre
        have hi0 : (0 : Int) ≤ (i : Int) := by omega
        have hi1 : (i : Int) < (n : Int) := by omega
        clear hP hp hpb hst hok2 hmem hre hD1
        go_wp2_with fail
        refine (hv _).mono ?_
        rintro e w5 ⟨rfl, hb5⟩
        have hb5' : Below wr.heap.size wr w5 := ((Below.refl wr.heap.size wr).alloc (Nat.le_refl _) _).trans (hb5.mono (by simp))
        have hpr : Whole w5 wr.heap.size 43 (prow pk pm pl ph pn pu) := Whole.below (Whole.here wr _ _) hb5 (by simp)
        have hrow : Whole w5 g4 25 (avl a Ad c) := Whole.below HI.out.row hb5' hgl
        have hres : ARow w5 w.heap.size false 0 0 0 0 0 (.slice none 0 0) [] := Whole.below HI.out.res hb5' (by omega)
        have hsp5 : Spn w5 (fun g => g ≠ g4) Ad c a.daily := HI.out.sp.below hb5' (Nat.le_refl _)
        have hlow5 : Below w.heap.size w w5 := HI.out.low.trans (hb5'.mono HI.out.low.size)
        obtain ⟨q0, q1, q2, q3, q4, q5⟩ := PRow.cells hpr
        cases D1
        · have HW := Lib.hid (hres.setRow zlit)
          have HF := Lib.hid (aof_err (below_setRow (g := w.heap.size) hlow5 (Nat.le_refl _) zlit) (.inr (.inl ⟨by rw [← HN.out]; omega, fun h => (of_decide_eq_false HD.out.symm) (h _ HM.out), rfl, rfl⟩) : OfR l zeroA 5))
          clear hb5 hb5' hpr hrow hsp5 hlow5 HRE HI c0 c1 c2' c3 c4 c5
          go_wp2_with (with_reducible refine wpList_store_aut rfl _ _ rfl (g := w.heap.size) rfl rfl hres (by with_unfolding_all rfl) (by with_unfolding_all rfl) (by with_unfolding_all rfl) ?_)
          refine bodyPost_ret (results_aut2 (g := w.heap.size) Try.results18 _ rfl _ rfl rfl HW.out) rfl ?_
          exact HF.out
        · have hk := of_decide_eq_true HD.out.symm
          have hcall := HRE.out w5 (.agg (avl a Ad c)) ⟨Ad, c, rfl, hsp5, HI.out.bd⟩ hk
          have HBD := Lib.hid HI.out.bd
          have HST2 := Lib.hid (HST.out hk)
          have HOK3 := Lib.hid (HOK2.out hk)
          have HG := HI.out.g
          clear hb5 hpr hsp5 HRE c0 c1 c2' c3 c4 c5 HI hk
          go_wp2_with (with_reducible refine wpList_load_aut rfl _ rfl rfl hrow ?_)
          refine hcall.mono ?_
          rintro e w6 ⟨⟨y, rfl, hy⟩, hb6⟩
          obtain ⟨Ad2, cc2, rfl, hS6, hab6⟩ := hy
          obtain ⟨m, hm⟩ : ∃ m, m = rst a ⟨pk, pm, pl, ph, pn, pu⟩ := ⟨_, rfl⟩
          rw [← hm] at hS6 hab6 ⊢
          have hg5 : g4 < w5.heap.size := hrow.lt
          have hrow6 : Whole w6 g4 25 (avl a Ad c) := Whole.below hrow hb6 hg5
          have hres6 : ARow w6 w.heap.size false 0 0 0 0 0 (.slice none 0 0) [] := Whole.below hres hb6 (by omega)
          have hsp6 : Spn (w6.setRow g4 (avl m Ad2 cc2)) (fun g => g ≠ g4) Ad2 cc2 m.daily := (hS6.mono (Q' := fun g => g ≠ g4) fun g _ hq => by
            rcases hq with hq | hq
            · exact hq
            · show g ≠ g4
              have : w5.heap.size ≤ g := hq
              omega).keep (by simp [World.setRow]) fun g _ hq => setRow_other w6 g4 g _ hq
          have HI2 : Hid (AoI w l (some ⟨g, o, none⟩) k g4 (w6.setRow g4 (avl m Ad2 cc2)) (i + 1) m Ad2 cc2) := Lib.hid
            ⟨hm.trans HST2.out, HOK3.out, hrow6.setRow _, hsp6, hab6, Whole.setRow_far hres6 (by omega) _, below_setRow (g := g4) (hlow5.trans (hb6.mono hlow5.size)) (by omega) _, HG⟩
          clear hb5' hrow hres hlow5 q0 q1 q2 q3 q4 q5 hcall hb6 hS6 hab6 hres6 hsp6 hm
          go_wp2_with (with_reducible refine wpList_store_aut rfl _ _ rfl (g := g4) rfl rfl hrow6 (by with_unfolding_all rfl) (by with_unfolding_all rfl) (by with_unfolding_all rfl) ?_)
          go_roundw
          case rel => exact ⟨i + 1, m, Ad2, cc2, by go_num, by omega, HI2.out⟩
          case measure => simp [intOf]; omega
      · obtain rfl : i = n := by omega
        have hex := HI.out.e
        have hok := HI.out.ok
        rw [HN.out, List.take_length] at hex hok
        have hsh := ashrink (x := .agg (avl a Ad c)) ⟨Ad, c, rfl, HI.out.sp, HI.out.bd⟩ HI.out.wk
        have hset : ∀ m, IsSet (ina a) m → IsSet (holdsAll l) m := fun m hm => hm.congr fun c hc => by
          rw [hex, rstl_ina full_wk hok c hc]
          exact ⟨fun h => h.2, fun h => ⟨(full_set.2 c hc).2 trivial, h⟩⟩
        have HSET := Lib.hid hset
        have HOK := Lib.hid hok
        have hrow := HI.out.row
        clear hex hok hset hP
        go_wp2_with (with_reducible refine wpList_load_aut rfl _ rfl rfl hrow ?_)
        refine hsh.mono ?_
        rintro e w6 ⟨⟨y, m, rfl, hy, hs⟩, hb6⟩
        obtain ⟨Ad2, cc2, rfl, hS6, hab6⟩ := hy
        have hres6 : ARow w6 w.heap.size false 0 0 0 0 0 (.slice none 0 0) [] := Whole.below HI.out.res hb6 (by omega)
        have HW := Lib.hid (hres6.setRow (avl m Ad2 cc2))
        have HF : Hid ((∃ x m' er, (Ending.returned (.tuple #[.agg (avl m Ad2 cc2), .int .i64 0]) : Ending) = .returned (.tuple #[x, .int .i64 er]) ∧ Av (w6.setRow w.heap.size (avl m Ad2 cc2)) (fun b => w.heap.size ≤ b) x m' ∧ OfR l m' er) ∧ Below w.heap.size w (w6.setRow w.heap.size (avl m Ad2 cc2))) := Lib.hid
          ⟨⟨_, m, 0, rfl, ⟨Ad2, cc2, rfl, (hS6.keep (w' := w6.setRow w.heap.size (avl m Ad2 cc2)) (by simp [World.setRow]) fun g _ hq => setRow_other w6 w.heap.size g _ (by have : wr.heap.size ≤ g := hq; omega)).mono fun g _ hq => by
            show w.heap.size ≤ g
            have : wr.heap.size ≤ g := hq
            omega, hab6⟩, .inr (.inr ⟨by rw [← HN.out]; omega, HOK.out, HSET.out m hs, rfl⟩)⟩, below_setRow (g := w.heap.size) (HI.out.low.trans (hb6.mono (by omega))) (Nat.le_refl _) _⟩
        clear hsh hrow hb6 hS6 hs hab6 HI
        go_wp2_with (with_reducible refine wpList_store_aut rfl _ _ rfl (g := w.heap.size) rfl rfl hres6 (by with_unfolding_all rfl) (by with_unfolding_all rfl) (by with_unfolding_all rfl) ?_)
        refine bodyPost_ret (results_aut2 (g := w.heap.size) Try.results18 _ rfl _ rfl rfl HW.out) rfl ?_
        exact HF.out
end Go.Proofs.Ytedjbjplnjnnlaa
namespace Go.Proofs.Ytedjbjplnjnnlaa
open Go Go.RowKit Sh Leaf

section
variable {p W : World} {x y : Value} {a b : Aut} {Q1 Q2 : Nat → Prop}
theorem law_same (hb : Below p.heap.size p W) (hx : Av W Q1 x a) (hy : Av W Q2 y b) {B : Bool} (e : decide (a = b) = B) :
    Calls Try.prog 15 #[x, y] W fun e w' => e = .returned (.bool B) ∧ Below p.heap.size p w' ∧ Below W.heap.size W w' :=
  (rsame_aut hx hy).mono fun _ _ h => ⟨by rw [h.1, e], hb.trans (h.2.mono hb.size), h.2⟩
end
/-- The calls of Of. -/
def OfC (A : Option Addr) (n c : Nat) (l : List Prd) (W : World) : Prop := Calls Try.prog 18 #[.slice A n c] W fun e w' => (∃ x m er, e = .returned (.tuple #[x, .int .i64 er]) ∧ Av w' (fun b => W.heap.size ≤ b) x m ∧ OfR l m er) ∧ Below W.heap.size W w'
def OfD (A : Option Addr) (n c : Nat) (l : List Prd) (W : World) : Prop := Calls Try.prog 19 #[.slice A n c] W fun e w' => (∃ x m er, e = .returned (.tuple #[x, .int .i64 er]) ∧ Av w' (fun b => W.heap.size ≤ b) x m ∧ OfR l m er) ∧ Below W.heap.size W w'
theorem law_ofs {p : World} {A : Option Addr} {n c : Nat} {l : List Prd} (hP : Prds p (fun g => g < p.heap.size) A c l) (hn : n = l.length) : ∀ W, Below p.heap.size p W → OfC A n c l W ∧ OfD A n c l W := fun W hb => by
  subst hn
  have h := hP.keep hb.size fun g _ hq => hb.block g hq
  exact ⟨aof l A c _ W h, rof l A c _ W h⟩
theorem ofr_unique {l : List Prd} {m n : Aut} {d e : Int} (h : OfR l m d) (k : OfR l n e) : m = n ∧ d = e := by
  rcases h with ⟨h1, rfl, rfl⟩ | ⟨h1, h2, rfl, rfl⟩ | ⟨h1, h2, h3, rfl⟩ <;> rcases k with ⟨k1, rfl, rfl⟩ | ⟨k1, k2, rfl, rfl⟩ | ⟨k1, k2, k3, rfl⟩
  · exact ⟨rfl, rfl⟩
  · omega
  · omega
  · omega
  · exact ⟨rfl, rfl⟩
  · exact absurd k2 h2
  · omega
  · exact absurd h2 k2
  · exact ⟨h3.unique k3, rfl⟩
end Go.Proofs.Ytedjbjplnjnnlaa
namespace Go.Proofs.Ytedjbjplnjnnlaa
open Go Go.RowKit Sh Leaf

theorem two_prds {W : World} {g : Nat} {p q : Prd} {cs : Array Value} (h : Whole W g 43 cs) (e : cs = (pcl p ++ pcl q).toArray) (hp : pbd p) (hq : pbd q) : Prds W (fun _ => True) (some ⟨g, 0, none⟩) 2 [p, q] := by
  have hcs : cs = (fl pcl [p, q]).toArray := by rw [e]; simp [fl]
  obtain ⟨A, c, e2, hP⟩ := OwnP.prds (base := 0) (owns_lit (f := pcl) (n := 6) (l := [p, q]) h (Nat.zero_le _) pcl_length rfl hcs (by simp)) (by
    intro x hx
    simp at hx
    rcases hx with rfl | rfl
    · exact hp
    · exact hq)
  injection e2 with e3 e4 e5
  subst e3 e5
  exact hP.mono fun _ _ _ => trivial
set_option maxRecDepth 100000 in
set_option maxHeartbeats 2000000 in
theorem aawake (w : World) : Calls Try.prog 8 #[] w fun e w' => e = .returned (.bool true) ∧ Below w.heap.size w w' := by
  have esn : sof [] = { data := #[] } := by unfold sof; rfl
  have h1 : ∀ W g cs, Whole W g 43 cs → cs = (pcl ⟨4, 0, 0, 1439, [], 0⟩ ++ pcl ⟨5, 0, 1380, 300, [], 0⟩).toArray → Calls Try.prog 18 #[.slice (some ⟨g, 0, none⟩) 2 2] W fun e w' => (∃ Ad c, e = .returned (.tuple #[.agg (arow false 18446744073709551615 4294967295 1 0 1439 (.slice Ad 2 c) []), .int .i64 0]) ∧ Spn w' (fun b => W.heap.size ≤ b) Ad c [(0, 300), (1380, 1439)]) ∧ Below W.heap.size W w' := fun W g cs hW hcs => by
    refine (aof [⟨4, 0, 0, 1439, [], 0⟩, ⟨5, 0, 1380, 300, [], 0⟩] _ _ _ W (two_prds hW hcs ⟨by decide, by decide⟩ ⟨by decide, by decide⟩)).mono fun e w' h => ?_
    obtain ⟨⟨x, m, er, he, hm, hr⟩, h2⟩ := h
    rcases hr with ⟨h, _⟩ | ⟨_, h, _⟩ | ⟨_, _, hs, rfl⟩
    · exact absurd h (by decide)
    · exact absurd (fun p hp => by
        simp at hp
        rcases hp with rfl | rfl <;> decide) h
    · obtain rfl := hs.unique exA_set
      obtain ⟨Ad, c, rfl, hS, _⟩ := hm
      exact ⟨⟨Ad, c, he, hS⟩, h2⟩
  have h2 : ∀ W g cs, Whole W g 43 cs → cs = (pcl ⟨4, 0, 0, 1439, [], 0⟩ ++ pcl ⟨3, 2, 0, 0, [], 0⟩).toArray → Calls Try.prog 18 #[.slice (some ⟨g, 0, none⟩) 2 2] W fun e w' => (∃ Ad c n, e = .returned (.tuple #[.agg (arow true 0 0 0 0 0 (.slice Ad n c) []), .int .i64 0])) ∧ Below W.heap.size W w' := fun W g cs hW hcs => by
    refine (aof [⟨4, 0, 0, 1439, [], 0⟩, ⟨3, 2, 0, 0, [], 0⟩] _ _ _ W (two_prds hW hcs ⟨by decide, by decide⟩ ⟨by decide, by decide⟩)).mono fun e w' h => ?_
    obtain ⟨⟨x, m, er, he, hm, hr⟩, h2⟩ := h
    rcases hr with ⟨h, _⟩ | ⟨_, h, _⟩ | ⟨_, _, hs, rfl⟩
    · exact absurd h (by decide)
    · exact absurd (fun p hp => by
        simp at hp
        rcases hp with rfl | rfl <;> decide) h
    · obtain rfl := hs.unique exB_set
      obtain ⟨Ad, c, rfl, hS, _⟩ := hm
      exact ⟨⟨Ad, c, _, he⟩, h2⟩
  have hc1 : (#[.int .i64 4, .int .u64 0, .int .i64 0, .int .i64 1439, .string { data := #[] }, .int .i64 0, .int .i64 5, .int .u64 0, .int .i64 1380, .int .i64 300, .string { data := #[] }, .int .i64 0] : Array Value) = (pcl ⟨4, 0, 0, 1439, [], 0⟩ ++ pcl ⟨5, 0, 1380, 300, [], 0⟩).toArray := by simp [pcl, esn]
  have hc2 : (#[.int .i64 4, .int .u64 0, .int .i64 0, .int .i64 1439, .string { data := #[] }, .int .i64 0, .int .i64 3, .int .u64 2, .int .i64 0, .int .i64 0, .string { data := #[] }, .int .i64 0] : Array Value) = (pcl ⟨4, 0, 0, 1439, [], 0⟩ ++ pcl ⟨3, 2, 0, 0, [], 0⟩).toArray := by simp [pcl, esn]
  have H1 := Lib.hid fun W g (hW : Whole W g 43 _) => h1 W g _ hW hc1
  have H2 := Lib.hid fun W g (hW : Whole W g 43 _) => h2 W g _ hW hc2
  clear h1 h2 hc1 hc2 esn
  go_enter Try.func8, Try.ntmps8
  go_wp2_with fail
  refine (H1.out _ w.heap.size (Whole.here w _ _)).mono ?_
  rintro e w1 ⟨⟨Ad, c, rfl, hS⟩, hb1⟩
  obtain ⟨g, o, rfl, hq, hg, _, y2⟩ := Spn.get hS 0 (0, 300) rfl
  have hlow1 : Below w.heap.size w w1 := ((Below.refl w.heap.size w).alloc (Nat.le_refl _) _).trans (hb1.mono (by simp))
  have HL1 := Lib.hid hlow1
  clear hS hb1 H1 hlow1 hq
  go_upto_region 2 with fail
  go_wp2_with fail
  refine (H2.out _ (w1.heap.size + 1) (Whole.at_ _ _ _ _ (by simp))).mono ?_
  rintro e w2 ⟨⟨Bd, bc, bn, rfl⟩, hb2⟩
  have hb2' : Below (w1.heap.size + 1) (w1.alloc (.cells (arow false 18446744073709551615 4294967295 1 0 1439 (.slice (some ⟨g, o, none⟩) 2 c) []) 25)) w2 := by
    refine Below.trans ?_ (hb2.mono (by simp))
    exact (Below.refl _ _).alloc (by simp) _
  have hr : ARow w2 w1.heap.size false 18446744073709551615 4294967295 1 0 1439 (.slice (some ⟨g, o, none⟩) 2 c) [] := Whole.below (Whole.here w1 _ _) hb2' (by omega)
  have y3 : w2.cell? ⟨g, o + 0 * 2 + 1, none⟩ = some (.int .i64 300) := (World.cell?_of_block (hb2'.block g (by omega))).trans ((World.cell?_of_block (Below.heap_alloc w1 _ g hg)).trans y2)
  rw [Nat.zero_mul, Nat.add_zero] at y3
  have HF : Hid (Below w.heap.size w w2) := Lib.hid (HL1.out.trans (((Below.refl w1.heap.size w1).alloc (Nat.le_refl _) _).trans (hb2'.mono (by omega)) |>.mono HL1.out.size))
  obtain ⟨a0, a1, a2, a3, a4, a5, a6, a7⟩ := hr.cells
  have hl1 : w1.heap.size < w2.heap.size := hr.lt
  have hl2 : g < w2.heap.size := by omega
  have HF2 : Hid (∀ o, Below w.heap.size w (w2.alloc o)) := Lib.hid fun o => HF.out.alloc HF.out.size o
  clear hb2 hb2' hr H2 y2 HL1 a0 a1 a2 a7
  go_wp2_with fail
  go_ret
  exact ⟨rfl, HF2.out _⟩
end Go.Proofs.Ytedjbjplnjnnlaa
namespace Go.Proofs.Ytedjbjplnjnnlaa
open Go Go.RowKit Sh Leaf

section
variable {p W : World} 
theorem law_awake (hb : Below p.heap.size p W) :
    Calls Try.prog 8 #[] W fun e w' => e = .returned (.bool true) ∧ Below p.heap.size p w' ∧ Below W.heap.size W w' :=
  (aawake W).mono fun _ _ h => ⟨h.1, hb.trans (h.2.mono hb.size), h.2⟩
end
end Go.Proofs.Ytedjbjplnjnnlaa
namespace Go.Proofs.Ytedjbjplnjnnlaa
open Go Go.RowKit Sh Leaf

theorem min80 (n : Nat) : ∃ N : Nat, min (n : Int) 80 = (N : Int) ∧ N ≤ n ∧ N ≤ 80 := ⟨min n 80, by omega, by omega, by omega⟩
abbrev zp : Prd := ⟨1, 3, 0, 0, [], 0⟩
theorem zp_rep (k : Nat) : List.replicate k zp ++ [zp] = List.replicate (k + 1) zp := List.replicate_succ'.symm
set_option linter.unusedSimpArgs false in
set_option maxRecDepth 100000 in
set_option maxHeartbeats 8000000 in
theorem aof_law (A0 : Option Addr) (l0 : List Prd) (c0 : Nat) (A1 : Option Addr) (l1 : List Int) (c1 : Nat) (m : Nat) (hm255 : m ≤ 255) (w : World) (hP : Prds w (fun b => b < w.heap.size) A0 c0 l0) (hI1 : Ints w (fun b => b < w.heap.size) A1 c1 l1) :
    Calls Try.prog 4 #[.slice A0 l0.length c0, .slice A1 l1.length c1, .int .u8 (m : Int)] w fun e w' => e = .returned (.bool true) ∧ Below w.heap.size w w' := by
  obtain ⟨N, hN, hNl, hN80⟩ := min80 l0.length
  have hNc : N ≤ c0 := Nat.le_trans hNl hP.1
  have hct := fun W => run_pcut_to A0 l0.length c0 N hNc W
  obtain ⟨el, hQ⟩ := hP.cut N hNl
  have hl0 : l0.length ≤ 9223372036854775807 := by have := hP.1; have := hP.2.1; unfold maxLen at this; omega
  have hN2 : (if (80 : Int) < (l0.length : Int) then (80 : Int) else (l0.length : Int)) = (N : Int) := by rw [← hN]; omega
  clear hNl hNc hP hN80
  generalize l0.take N = lp at *
  obtain ⟨n1, hn1⟩ : ∃ n, n = l1.length := ⟨_, rfl⟩
  rw [← hn1]
  have hd := dnew A1 n1 c1 l1 w hn1 hI1
  have HQ := Lib.hid hQ
  have HEL := Lib.hid el
  clear hI1 hn1 hQ el
  go_enter Try.func4, Try.ntmps4
  go_wp2_with fail
  refine hd.mono ?_
  rintro e w1 ⟨rfl, hk1, hb1⟩
  have hps := dpreds 5 (by omega) _ _ hk1
  rw [show ((5 : Nat) : Int) = 5 from rfl] at hps
  have hg1 : w.heap.size < w1.heap.size := hk1.lt
  have HB1 := Lib.hid hb1
  clear hd hk1 hb1 hct hN hN2 hl0
  go_wp2_with fail
  refine hps.mono ?_
  rintro e p0 ⟨v, lx, rfl, hlx5, hlx, hown, ht2⟩
  obtain ⟨Ax, cx, rfl, hX⟩ := hown.prds (fun p hp => (hlx p hp).2)
  obtain ⟨nx, hnx⟩ : ∃ n, n = lx.length := ⟨_, rfl⟩
  rw [← hnx]
  have HB := Lib.hid (HB1.out.trans ht2.2.1)
  have HOX := Lib.hid (law_ofs (hX.mono (Q' := fun g => g < p0.heap.size) fun g hg _ => hg) hnx)
  have HOL := Lib.hid (law_ofs ((HQ.out.low HB.out).mono (Q' := fun g => g < p0.heap.size) fun g hg _ => hg) HEL.out.symm)
  clear hps hlx hlx5 hown ht2 hX HB1 HQ HEL hnx hg1
  have HP0 : Hid (Below p0.heap.size p0 p0) := Lib.hid (Below.refl _ _)
  have hof := (HOX.out p0 HP0.out).1
  unfold OfC at hof
  go_wp2_with fail
  refine hof.mono ?_
  rintro e u1 ⟨⟨x, a, e1, rfl, hm, hr⟩, hb⟩
  obtain ⟨A1, c11, rfl, hS, hab⟩ := hm
  obtain ⟨p1, hp⟩ : ∃ p, p = u1.alloc (.cells (avl a A1 c11) 25) := ⟨_, rfl⟩
  have hup : Below u1.heap.size u1 p1 := by rw [hp]; exact (Below.refl u1.heap.size u1).alloc (Nat.le_refl _) _
  have HR1 : Hid (ARow p1 u1.heap.size a.none a.zones a.lines a.days a.lo a.hi (.slice A1 a.daily.length c11) a.holder) := Lib.hid (by rw [hp]; exact Whole.here _ _ _)
  have HE1 : Hid (Below p0.heap.size p0 p1) := Lib.hid (hb.trans (hup.mono hb.size))
  have HP1 : Hid (Below p0.heap.size p0 p1) := Lib.hid (HP0.out.trans (HE1.out.mono HP0.out.size))
  have HA1 : Hid (Av p1 (fun _ => True) (.agg (arow a.none a.zones a.lines a.days a.lo a.hi (.slice A1 a.daily.length c11) a.holder)) a) := Lib.hid ⟨A1, c11, rfl, (hS.below hup (Nat.le_refl _)).mono fun _ _ _ => trivial, hab⟩
  have HRR1 := Lib.hid hr
  clear hof hb hr hS hab hup
  go_upto_region 4 with fail
  rw [← hp]
  clear hp
  have hof := (HOX.out p1 HP1.out).2
  unfold OfD at hof
  go_wp2_with fail
  refine hof.mono ?_
  rintro e u2 ⟨⟨x, ax, f2, rfl, hm, hr⟩, hb⟩
  obtain ⟨rfl, rfl⟩ := ofr_unique HRR1.out hr
  obtain ⟨A2, c12, rfl, hS, hab⟩ := hm
  obtain ⟨p2, hp⟩ : ∃ p, p = u2.alloc (.cells (avl a A2 c12) 25) := ⟨_, rfl⟩
  have hup : Below u2.heap.size u2 p2 := by rw [hp]; exact (Below.refl u2.heap.size u2).alloc (Nat.le_refl _) _
  have HR2 : Hid (ARow p2 u2.heap.size a.none a.zones a.lines a.days a.lo a.hi (.slice A2 a.daily.length c12) a.holder) := Lib.hid (by rw [hp]; exact Whole.here _ _ _)
  have HE2 : Hid (Below p1.heap.size p1 p2) := Lib.hid (hb.trans (hup.mono hb.size))
  have HP2 : Hid (Below p0.heap.size p0 p2) := Lib.hid (HP1.out.trans (HE2.out.mono HP1.out.size))
  have HA2 : Hid (Av p2 (fun _ => True) (.agg (arow a.none a.zones a.lines a.days a.lo a.hi (.slice A2 a.daily.length c12) a.holder)) a) := Lib.hid ⟨A2, c12, rfl, (hS.below hup (Nat.le_refl _)).mono fun _ _ _ => trivial, hab⟩
  clear hof hb hr hS hab hup
  go_upto_region 5 with fail
  rw [← hp]
  clear hp
  have hof := (HOL.out p2 HP2.out).1
  unfold OfC at hof
  go_wp2_with fail
  refine hof.mono ?_
  rintro e u3 ⟨⟨x, b, e3, rfl, hm, hr⟩, hb⟩
  obtain ⟨A3, c13, rfl, hS, hab⟩ := hm
  obtain ⟨p3, hp⟩ : ∃ p, p = u3.alloc (.cells (avl b A3 c13) 25) := ⟨_, rfl⟩
  have hup : Below u3.heap.size u3 p3 := by rw [hp]; exact (Below.refl u3.heap.size u3).alloc (Nat.le_refl _) _
  have HR3 : Hid (ARow p3 u3.heap.size b.none b.zones b.lines b.days b.lo b.hi (.slice A3 b.daily.length c13) b.holder) := Lib.hid (by rw [hp]; exact Whole.here _ _ _)
  have HE3 : Hid (Below p2.heap.size p2 p3) := Lib.hid (hb.trans (hup.mono hb.size))
  have HP3 : Hid (Below p0.heap.size p0 p3) := Lib.hid (HP2.out.trans (HE3.out.mono HP2.out.size))
  have HA3 : Hid (Av p3 (fun _ => True) (.agg (arow b.none b.zones b.lines b.days b.lo b.hi (.slice A3 b.daily.length c13) b.holder)) b) := Lib.hid ⟨A3, c13, rfl, (hS.below hup (Nat.le_refl _)).mono fun _ _ _ => trivial, hab⟩
  have HRR3 := Lib.hid hr
  clear hof hb hr hS hab hup
  go_upto_region 6 with fail
  rw [← hp]
  clear hp
  have hof := (HOL.out p3 HP3.out).2
  unfold OfD at hof
  go_wp2_with fail
  refine hof.mono ?_
  rintro e u4 ⟨⟨x, bx, f4, rfl, hm, hr⟩, hb⟩
  obtain ⟨rfl, rfl⟩ := ofr_unique HRR3.out hr
  obtain ⟨A4, c14, rfl, hS, hab⟩ := hm
  obtain ⟨p4, hp⟩ : ∃ p, p = u4.alloc (.cells (avl b A4 c14) 25) := ⟨_, rfl⟩
  have hup : Below u4.heap.size u4 p4 := by rw [hp]; exact (Below.refl u4.heap.size u4).alloc (Nat.le_refl _) _
  have HR4 : Hid (ARow p4 u4.heap.size b.none b.zones b.lines b.days b.lo b.hi (.slice A4 b.daily.length c14) b.holder) := Lib.hid (by rw [hp]; exact Whole.here _ _ _)
  have HE4 : Hid (Below p3.heap.size p3 p4) := Lib.hid (hb.trans (hup.mono hb.size))
  have HP4 : Hid (Below p0.heap.size p0 p4) := Lib.hid (HP3.out.trans (HE4.out.mono HP3.out.size))
  have HA4 : Hid (Av p4 (fun _ => True) (.agg (arow b.none b.zones b.lines b.days b.lo b.hi (.slice A4 b.daily.length c14) b.holder)) b) := Lib.hid ⟨A4, c14, rfl, (hS.below hup (Nat.le_refl _)).mono fun _ _ _ => trivial, hab⟩
  clear hof hb hr hS hab hup
  go_upto_region 7 with fail
  rw [← hp]
  clear hp
  clear HOX HOL HRR1 HRR3
  obtain ⟨q, hq⟩ : ∃ q, q = m % 5 := ⟨_, rfl⟩
  have hw0 : IntKind.i64.wrap (m : Int) = (m : Int) := by rw [IntKind.wrap_i64]; omega
  have hw1 : (m : Int).tmod 5 = (q : Int) := by rw [hq, Int.tmod_eq_emod_of_nonneg (by omega)]; omega
  have hq5 : q < 5 := by omega
  have hw2 : IntKind.i64.wrap (q : Int) = (q : Int) := by rw [IntKind.wrap_i64]; omega
  have hw3 : IntKind.i64.wrap (62 + (q : Int)) = 62 + (q : Int) := by rw [IntKind.wrap_i64]; omega
  clear hq hm255
  go_wp2_with fail
  go_loopw [16, 17] (fun v kk wr => ∃ k : Nat, kk = .int .i64 k ∧ k ≤ 62 + q ∧ OwnP wr p4.heap.size v (List.replicate k zp) ∧ Below p4.heap.size p4 wr) (fun _ k _ => 70 - (intOf k).toNat)
  case atStart => exact ⟨0, rfl, by omega, ownp_nil _ _, Below.refl _ _⟩
  case round =>
    obtain ⟨k, rfl, hk, hown, hb⟩ := hrel
    by_cases hlt : k < 62 + q
    · have hlt' : (k : Int) < 62 + (q : Int) := by omega
      have hk1 : IntKind.i64.wrap ((k : Int) + 1) = ((k + 1 : Nat) : Int) := by rw [IntKind.wrap_i64]; omega
      have HO := Lib.hid hown
      have HBk := Lib.hid hb
      have esn : sof [] = { data := #[] } := by unfold sof; rfl
      have HR : Hid (wr.alloc (.cells #[.int .i64 1, .int .u64 3, .int .i64 0, .int .i64 0, .string { data := #[] }, .int .i64 0] 43) |>.rangeAt wr.heap.size 0 (pcs [zp])) := Lib.hid (range_one (by
        show Whole _ _ _ #[.int .i64 1, .int .u64 3, .int .i64 0, .int .i64 0, .string (sof []), .int .i64 0]
        rw [esn]
        exact Whole.here wr _ _))
      have hbs := hb.size
      clear hown hb esn
      go_wp2_with (at_builtin; go_must (refine wpList_append_prds rfl _ _ rfl p4.heap.size _ (List.replicate k zp) rfl (HO.out.alloc _) wr.heap.size 0 _ [zp] rfl HR.out (by simp; omega) (by simp; omega) ?_; intro v' w' h1 h2))
      rw [zp_rep] at h1
      go_roundw
      case rel =>
        exact ⟨k + 1, by go_num, by omega, h1, (HBk.out.alloc hbs _).trans h2⟩
      case measure => simp [intOf]; omega
    · have hlt' : ¬ (k : Int) < 62 + (q : Int) := by omega
      obtain ⟨lm, hlm⟩ : ∃ l, l = List.replicate k zp := ⟨_, rfl⟩
      rw [← hlm] at hown
      have hpb : ∀ x ∈ lm, pbd x := fun x hx => by
        rw [hlm] at hx
        rw [List.eq_of_mem_replicate hx]
        exact ⟨by decide, by decide⟩
      obtain ⟨Ay, cy, rfl, hY⟩ := hown.prds hpb
      obtain ⟨ny, hny⟩ : ∃ n, n = lm.length := ⟨_, rfl⟩
      rw [← hny]
      have HOM := Lib.hid (law_ofs (hY.mono (Q' := fun g => g < wr.heap.size) fun g hg _ => hg) hny)
      have HEW : Hid (Below p4.heap.size p4 wr) := Lib.hid hb
      have HPW : Hid (Below wr.heap.size wr wr) := Lib.hid (Below.refl _ _)
      clear hlm hown hpb hY hny hb hk hlt
      have hof := (HOM.out wr HPW.out).1
      unfold OfC at hof
      go_wp2_with fail
      refine hof.mono ?_
      rintro e u5 ⟨⟨x, u, e5, rfl, hm, hr⟩, hb⟩
      obtain ⟨A5, c15, rfl, hS, hab⟩ := hm
      obtain ⟨p5, hp⟩ : ∃ p, p = u5.alloc (.cells (avl u A5 c15) 25) := ⟨_, rfl⟩
      have hup : Below u5.heap.size u5 p5 := by rw [hp]; exact (Below.refl u5.heap.size u5).alloc (Nat.le_refl _) _
      have HR5 : Hid (ARow p5 u5.heap.size u.none u.zones u.lines u.days u.lo u.hi (.slice A5 u.daily.length c15) u.holder) := Lib.hid (by rw [hp]; exact Whole.here _ _ _)
      have HE5 : Hid (Below wr.heap.size wr p5) := Lib.hid (hb.trans (hup.mono hb.size))
      have HP5 : Hid (Below wr.heap.size wr p5) := Lib.hid (HPW.out.trans (HE5.out.mono HPW.out.size))
      have HA5 : Hid (Av p5 (fun _ => True) (.agg (arow u.none u.zones u.lines u.days u.lo u.hi (.slice A5 u.daily.length c15) u.holder)) u) := Lib.hid ⟨A5, c15, rfl, (hS.below hup (Nat.le_refl _)).mono fun _ _ _ => trivial, hab⟩
      have HRR5 := Lib.hid hr
      clear hof hb hr hS hab hup
      go_upto_region 13 with fail
      rw [← hp]
      clear hp
      have hof := (HOM.out p5 HP5.out).2
      unfold OfD at hof
      go_wp2_with fail
      refine hof.mono ?_
      rintro e u6 ⟨⟨x, ux, f6, rfl, hm, hr⟩, hb⟩
      obtain ⟨rfl, rfl⟩ := ofr_unique HRR5.out hr
      obtain ⟨A6, c16, rfl, hS, hab⟩ := hm
      obtain ⟨p6, hp⟩ : ∃ p, p = u6.alloc (.cells (avl u A6 c16) 25) := ⟨_, rfl⟩
      have hup : Below u6.heap.size u6 p6 := by rw [hp]; exact (Below.refl u6.heap.size u6).alloc (Nat.le_refl _) _
      have HR6 : Hid (ARow p6 u6.heap.size u.none u.zones u.lines u.days u.lo u.hi (.slice A6 u.daily.length c16) u.holder) := Lib.hid (by rw [hp]; exact Whole.here _ _ _)
      have HE6 : Hid (Below p5.heap.size p5 p6) := Lib.hid (hb.trans (hup.mono hb.size))
      have HP6 : Hid (Below wr.heap.size wr p6) := Lib.hid (HP5.out.trans (HE6.out.mono HP5.out.size))
      have HA6 : Hid (Av p6 (fun _ => True) (.agg (arow u.none u.zones u.lines u.days u.lo u.hi (.slice A6 u.daily.length c16) u.holder)) u) := Lib.hid ⟨A6, c16, rfl, (hS.below hup (Nat.le_refl _)).mono fun _ _ _ => trivial, hab⟩
      clear hof hb hr hS hab hup
      go_upto_region 14 with fail
      rw [← hp]
      clear hp
      have h7 : Below p6.heap.size p6 p6 := Below.refl _ _
      have h6 : Below p5.heap.size p5 p6 := Below.trans HE6.out (Below.mono h7 (Below.size HE6.out))
      have h5 : Below wr.heap.size wr p6 := Below.trans HE5.out (Below.mono h6 (Below.size HE5.out))
      have h4 : Below p4.heap.size p4 p6 := Below.trans HEW.out (Below.mono h5 (Below.size HEW.out))
      have h3 : Below p3.heap.size p3 p6 := Below.trans HE4.out (Below.mono h4 (Below.size HE4.out))
      have h2 : Below p2.heap.size p2 p6 := Below.trans HE3.out (Below.mono h3 (Below.size HE3.out))
      have h1 : Below p1.heap.size p1 p6 := Below.trans HE2.out (Below.mono h2 (Below.size HE2.out))
      have h0 : Below p0.heap.size p0 p6 := Below.trans HE1.out (Below.mono h1 (Below.size HE1.out))
      have r1 := Whole.below HR1.out h1 (Whole.lt HR1.out)
      have a1 : Av p6 (fun _ => True) (.agg (arow a.none a.zones a.lines a.days a.lo a.hi (.slice A1 a.daily.length c11) a.holder)) a := Av.below HA1.out h1 (Nat.le_refl _)
      have r2 := Whole.below HR2.out h2 (Whole.lt HR2.out)
      have a2 : Av p6 (fun _ => True) (.agg (arow a.none a.zones a.lines a.days a.lo a.hi (.slice A2 a.daily.length c12) a.holder)) a := Av.below HA2.out h2 (Nat.le_refl _)
      have r3 := Whole.below HR3.out h3 (Whole.lt HR3.out)
      have a3 : Av p6 (fun _ => True) (.agg (arow b.none b.zones b.lines b.days b.lo b.hi (.slice A3 b.daily.length c13) b.holder)) b := Av.below HA3.out h3 (Nat.le_refl _)
      have r4 := Whole.below HR4.out h4 (Whole.lt HR4.out)
      have a4 : Av p6 (fun _ => True) (.agg (arow b.none b.zones b.lines b.days b.lo b.hi (.slice A4 b.daily.length c14) b.holder)) b := Av.below HA4.out h4 (Nat.le_refl _)
      have r5 := Whole.below HR5.out h6 (Whole.lt HR5.out)
      have a5 : Av p6 (fun _ => True) (.agg (arow u.none u.zones u.lines u.days u.lo u.hi (.slice A5 u.daily.length c15) u.holder)) u := Av.below HA5.out h6 (Nat.le_refl _)
      have r6 := Whole.below HR6.out h7 (Whole.lt HR6.out)
      have a6 : Av p6 (fun _ => True) (.agg (arow u.none u.zones u.lines u.days u.lo u.hi (.slice A6 u.daily.length c16) u.holder)) u := Av.below HA6.out h7 (Nat.le_refl _)
      have HF : Hid (Below w.heap.size w p6) := Lib.hid (HB.out.trans (h0.mono HB.out.size))
      have e1e : (e1 == e1) = true := by simp
      have e3e : (e3 == e3) = true := by simp
      have e5e : (e5 == e5) = true := by simp
      clear HOM HRR5 HPW HEW HP0 HP1 HP2 HP3 HP4 HP5 HP6 HB h0 h1 h2 h3 h4 h5 h6 h7 HE1 HR1 HA1 HE2 HR2 HA2 HE3 HR3 HA3 HE4 HR4 HA4 HE5 HR5 HA5 HE6 HR6 HA6
      obtain ⟨x0_0, x0_1, x0_2, x0_3, x0_4, x0_5, x0_6, x0_7⟩ := ARow.cells (Whole.below r1 (Below.refl _ _) (Whole.lt r1))
      obtain ⟨x1_0, x1_1, x1_2, x1_3, x1_4, x1_5, x1_6, x1_7⟩ := ARow.cells (Whole.below r2 (Below.refl _ _) (Whole.lt r2))
      go_wp2_with fail
      refine (law_same (Below.refl _ _) (Av.below a1 (Below.refl _ _) (Nat.le_refl _)) (Av.below a2 (Below.refl _ _) (Nat.le_refl _)) (decide_eq_true rfl)).mono ?_
      rintro e w20 ⟨rfl, b20, -⟩
      clear x0_0 x0_1 x0_2 x0_3 x0_4 x0_5 x0_6 x0_7 x1_0 x1_1 x1_2 x1_3 x1_4 x1_5 x1_6 x1_7
      obtain ⟨x2_0, x2_1, x2_2, x2_3, x2_4, x2_5, x2_6, x2_7⟩ := ARow.cells (Whole.below r3 b20 (Whole.lt r3))
      obtain ⟨x3_0, x3_1, x3_2, x3_3, x3_4, x3_5, x3_6, x3_7⟩ := ARow.cells (Whole.below r4 b20 (Whole.lt r4))
      go_wp2_with fail
      refine (law_same b20 (Av.below a3 b20 (Nat.le_refl _)) (Av.below a4 b20 (Nat.le_refl _)) (decide_eq_true rfl)).mono ?_
      rintro e w21 ⟨rfl, b21, -⟩
      clear x2_0 x2_1 x2_2 x2_3 x2_4 x2_5 x2_6 x2_7 x3_0 x3_1 x3_2 x3_3 x3_4 x3_5 x3_6 x3_7
      obtain ⟨x4_0, x4_1, x4_2, x4_3, x4_4, x4_5, x4_6, x4_7⟩ := ARow.cells (Whole.below r5 b21 (Whole.lt r5))
      obtain ⟨x5_0, x5_1, x5_2, x5_3, x5_4, x5_5, x5_6, x5_7⟩ := ARow.cells (Whole.below r6 b21 (Whole.lt r6))
      go_wp2_with fail
      refine (law_same b21 (Av.below a5 b21 (Nat.le_refl _)) (Av.below a6 b21 (Nat.le_refl _)) (decide_eq_true rfl)).mono ?_
      rintro e w22 ⟨rfl, b22, -⟩
      clear x4_0 x4_1 x4_2 x4_3 x4_4 x4_5 x4_6 x4_7 x5_0 x5_1 x5_2 x5_3 x5_4 x5_5 x5_6 x5_7
      go_wp2_with fail
      refine (law_awake b22).mono ?_
      rintro e w23 ⟨rfl, b23, -⟩
      have HG := Lib.hid (HF.out.trans (b23.mono HF.out.size))
      clear b20 b21 b22 b23 a1 a2 a3 a4 a5 a6 r1 r2 r3 r4 r5 r6
      go_wp2
      go_ret
      exact ⟨rfl, HG.out⟩
end Go.Proofs.Ytedjbjplnjnnlaa
