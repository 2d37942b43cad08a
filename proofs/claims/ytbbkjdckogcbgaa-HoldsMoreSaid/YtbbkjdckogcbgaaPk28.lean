/-
  The law HoldsMore.
-/
import Derived.Deep.DeepCutAuto
import Derived.Deep.CutBlock
import Derived.Test.YtbbkjdckogcbgaaPk9
import Derived.Test.YtbbkjdckogcbgaaPk11
import Derived.Test.YtbbkjdckogcbgaaPk27
import Derived.Test.YtbbkjdckogcbgaaPk24
namespace Go.Proofs.Ytbbkjdckogcbgaa
open Go Go.RowKit Sh Leaf

set_option maxRecDepth 100000 in
set_option maxHeartbeats 8000000 in
theorem hmore_law (A : Option Addr) (l : List Int) (ck : Nat) (n : Int) (h0 : -9223372036854775808 ≤ n) (h1 : n ≤ 9223372036854775807) (w : World)
    (hI : Ints w (fun b => b < w.heap.size) A ck l) :
    Calls Try.prog 6 #[.slice A l.length ck, .int .i64 n] w fun e w' => e = .returned (.bool true) ∧ Below w.heap.size w w' := by
  go_enter Try.func6, Try.ntmps6
  go_wp2_with fail
  refine (dnew A l.length ck l w rfl hI).mono ?_
  rintro e w1 ⟨rfl, hd1, hb1⟩
  have HB1 := Lib.hid hb1
  clear hb1 hI
  go_wp2_with fail
  refine (dctx _ _ hd1).mono ?_
  rintro e w2 ⟨c, hc, rfl, ht2⟩
  have hd2 := ht2.1
  have HB2 := Lib.hid (HB1.out.trans ht2.2.1)
  have hcl : c.holder.length ≤ 9223372036854775807 := by have := hc.2.2.2.2.1; omega
  clear ht2 hd1 HB1 hc
  go_wp2_with fail
  refine (dpred _ _ hd2).mono ?_
  rintro e w3 ⟨p, hp, hpm, rfl, ht3⟩
  have hpb : pbd p := ⟨hpm, by have := pok_name_le hp; omega⟩
  have hd3 := ht3.1
  have HB3 := Lib.hid (HB2.out.trans ht3.2.1)
  have hh := fun W => hholds p c hpb.1 hpb.2 hcl W
  have hall := Lib.hid fun (lx : List Prd) (Ax : Option Addr) (cx : Nat) (Q : Nat → Prop) W hW => hall_ lx c hcl Ax cx Q W hW
  have hmm := Lib.hid fun (lx : List Prd) k => hdAll_more lx p k c
  obtain ⟨D, hD⟩ : ∃ D, D = decide (hd p c) := ⟨_, rfl⟩
  rw [← hD] at hh hmm
  have HP := Lib.hid hpb
  clear hD ht3 hd2 HB2 hp hpm hpb hcl
  rw [cv_row] at hh hall ⊢
  rw [pv_row] at hh ⊢
  obtain ⟨pk, pm, pl, ph, pn, pu⟩ := p
  obtain ⟨cz, cl, cm, cn⟩ := c
  simp only at hh hall hmm ⊢
  have hl3 : w.heap.size < w3.heap.size := hd3.lt
  have hd4 := (hd3.alloc (.cells (crow cz cl cm cn) 23)).alloc (.cells (prow pk pm pl ph pn pu) 35)
  have hC4 : CRow ((w3.alloc (.cells (crow cz cl cm cn) 23)).alloc (.cells (prow pk pm pl ph pn pu) 35)) w3.heap.size cz cl cm cn := (Whole.here _ _ _).alloc _
  have hP4 : PRow ((w3.alloc (.cells (crow cz cl cm cn) 23)).alloc (.cells (prow pk pm pl ph pn pu) 35)) (w3.heap.size + 1) pk pm pl ph pn pu := Whole.at_ _ _ _ _ (by simp)
  have hB4 : Below w.heap.size w ((w3.alloc (.cells (crow cz cl cm cn) 23)).alloc (.cells (prow pk pm pl ph pn pu) 35)) := (HB3.out.alloc HB3.out.size _).alloc (by have := HB3.out.size; simp; omega) _
  have hps := dpreds 5 (by omega) _ _ hd4
  rw [show ((5 : Nat) : Int) = 5 from rfl] at hps
  clear hd3 HB3 hd4
  go_wp2_with fail
  refine hps.mono ?_
  rintro e w4z ⟨v, lx, rfl, hlx5, hlx, hown, ht4⟩
  obtain ⟨Ax, cx, rfl, hX⟩ := hown.prds (fun p hp => (hlx p hp).2)
  have hC5 := ht4.2.2 _ _ _ (by omega) hC4
  have hP5 := ht4.2.2 _ _ _ (by omega) hP4
  have HB5 := Lib.hid (hB4.trans ht4.2.1)
  have hX5 := hX.mono (Q' := fun _ => True) fun _ _ _ => trivial
  clear hps hlx hown ht4 hC4 hP4 hB4 hX
  have hw1 : IntKind.i64.wrap ((lx.length : Int) + 1) = (lx.length : Int) + 1 := by rw [IntKind.wrap_i64]; omega
  have hwi := fun W => within_ n ((lx.length : Int) + 1) (by omega) (by omega) ⟨h0, h1⟩ W
  go_wp2_with fail
  refine (hwi _).mono ?_
  rintro e w4 ⟨⟨k, hk, rfl⟩, rfl⟩
  have hkl : k ≤ lx.length := by omega
  have hkc : k ≤ cx := Nat.le_trans hkl hX5.1
  have hcut := fun W => run_pcut_to Ax lx.length cx k hkc W
  have hfrom := fun W => run_pcut_from Ax lx.length cx k hkl W
  obtain ⟨e1, hQ1⟩ := hX5.cut k hkl
  obtain ⟨e2, hQ2⟩ := hX5.from k hkl
  have HM := Lib.hid (hmm.out lx k)
  obtain ⟨Ay, hAy⟩ : ∃ x, x = (if cx = k then Ax else Ax.map (·.add (k * 6))) := ⟨_, rfl⟩
  obtain ⟨ny, hny⟩ : ∃ x, x = lx.length - k := ⟨_, rfl⟩
  obtain ⟨cy, hcy⟩ : ∃ x, x = cx - k := ⟨_, rfl⟩
  rw [← hAy, ← hny, ← hcy] at hfrom
  rw [← hny] at e2
  rw [← hAy, ← hcy] at hQ2
  have hl1 : (lx.take k).length ≤ 5 := by rw [e1]; omega
  have hl2 : (lx.drop k).length ≤ 5 := by rw [e2]; omega
  generalize lx.take k = p1 at *
  generalize lx.drop k = p2 at *
  have hcx : cx ≤ 9223372036854775807 := by have := hX5.2.1; unfold maxLen at this; omega
  obtain ⟨nx, hnx⟩ : ∃ x, x = lx.length := ⟨_, rfl⟩
  have he1 := Lib.hid e1
  have he2 := Lib.hid e2
  have hallx := Lib.hid fun W hW => hall.out lx Ax cx (fun _ => True) W hW
  rw [← hnx] at hallx hcut hfrom hk hkl hw1 ⊢
  clear hAy hny hcy hnx hmm hwi e1 e2
  have hq : ∀ W, Ups w4 W → (W.cell? ⟨w3.heap.size + 1, 0, none⟩ = some (.int .i64 pk) ∧ W.cell? ⟨w3.heap.size + 1, 1, none⟩ = some (.int .u64 (pm : Int)) ∧ W.cell? ⟨w3.heap.size + 1, 2, none⟩ = some (.int .i64 pl) ∧ W.cell? ⟨w3.heap.size + 1, 3, none⟩ = some (.int .i64 ph) ∧ W.cell? ⟨w3.heap.size + 1, 4, none⟩ = some (.string (sof pn)) ∧ W.cell? ⟨w3.heap.size + 1, 5, none⟩ = some (.int .i64 pu)) := fun W hb => PRow.cells (Whole.below hP5 hb (Whole.lt hP5))
  have hq0 := hq w4 (Ups.refl _)
  have hx1 : ∀ W, Ups w4 W → Prds W (fun _ => True) Ax cx p1 := fun W hb => hQ1.below hb (Nat.le_refl _)
  have hx2 : ∀ W, Ups w4 W → Prds W (fun _ => True) Ay cy p2 := fun W hb => hQ2.below hb (Nat.le_refl _)
  have hpo : ∀ W g, W.heap[g]? = some (.cells #[.int .i64 pk, .int .u64 (pm : Int), .int .i64 pl, .int .i64 ph, .string (sof pn), .int .i64 pu] 35 (0, 0)) → Prds W (fun _ => True) (some ⟨g, 0, none⟩) 1 [⟨pk, pm, pl, ph, pn, pu⟩] := fun W g h => prds_one h rfl HP.out
  obtain ⟨LL, hLL⟩ : ∃ LL : List Prd, LL = p1 ++ ⟨pk, pm, pl, ph, pn, pu⟩ :: p2 := ⟨_, rfl⟩
  rw [← hLL] at HM
  have HLL := Lib.hid hLL
  clear hLL
  go_upto_region 5 with fail
  go_cut [10] (fun s wx => ∃ Az cz', s = .slice Az LL.length cz' ∧ Prds wx (fun _ => True) Az cz' LL ∧ Below w4.heap.size w4 wx)
  case first =>
    go_region_held3 (fun W => W.cell? ⟨w3.heap.size + 1, 0, none⟩ = some (.int .i64 pk) ∧ W.cell? ⟨w3.heap.size + 1, 1, none⟩ = some (.int .u64 (pm : Int)) ∧ W.cell? ⟨w3.heap.size + 1, 2, none⟩ = some (.int .i64 pl) ∧ W.cell? ⟨w3.heap.size + 1, 3, none⟩ = some (.int .i64 ph) ∧ W.cell? ⟨w3.heap.size + 1, 4, none⟩ = some (.string (sof pn)) ∧ W.cell? ⟨w3.heap.size + 1, 5, none⟩ = some (.int .i64 pu)) (first | exact hq0 | exact hq _ (by repeat (first | with_reducible exact Ups.refl _ | with_reducible exact hC3 | with_reducible exact hC2 | with_reducible exact hC1 | with_reducible refine Ups.drew ?_ | with_reducible refine Ups.alloc ?_ _)))
      (first
        | (have g := hown2; refine step_append_prds (by rfl) _ _ (by rfl) w4.heap.size _ _ (by rfl) (own_below hown2 (Ups.low (by repeat (first | with_reducible exact Ups.refl _ | with_reducible refine Ups.drew ?_ | with_reducible refine Ups.alloc ?_ _))) (Nat.le_refl _)) _ _ _ _ p2 he2.out (by rfl) (hx2 _ (by repeat (first | with_reducible exact Ups.refl _ | with_reducible exact hC3 | with_reducible exact hC2 | with_reducible exact hC1 | with_reducible refine Ups.drew ?_ | with_reducible refine Ups.alloc ?_ _))) (by simp; omega) (Ups.size (w := w4) (by repeat (first | with_reducible exact Ups.refl _ | with_reducible exact hC3 | with_reducible exact hC2 | with_reducible exact hC1 | with_reducible refine Ups.drew ?_ | with_reducible refine Ups.alloc ?_ _))) ?_; intro v3 w7 hown3 hb3 hg3; have hC3 : Ups w4 w7 := Ups.trans (by repeat (first | with_reducible exact Ups.refl _ | with_reducible exact hC3 | with_reducible exact hC2 | with_reducible exact hC1 | with_reducible refine Ups.drew ?_ | with_reducible refine Ups.alloc ?_ _)) hb3)
        | (have g := hown1; refine step_append_prds (by rfl) _ _ (by rfl) w4.heap.size _ _ (by rfl) (own_below hown1 (Ups.low (by repeat (first | with_reducible exact Ups.refl _ | with_reducible refine Ups.drew ?_ | with_reducible refine Ups.alloc ?_ _))) (Nat.le_refl _)) _ _ 1 1 [⟨pk, pm, pl, ph, pn, pu⟩] rfl (by rfl) (hpo _ _ (by repeat (first | with_reducible refine pblk_drew ?_ | ((with_reducible refine pblk_new _ _ _ ?_); (simp; done)) | with_reducible refine pblk_alloc ?_ _ | ((with_reducible refine hK1 _ _ ?_ ?_); rotate_left; (simp [Value.ownBlock] <;> omega))))) (by simp; omega) (Ups.size (w := w4) (by repeat (first | with_reducible exact Ups.refl _ | with_reducible exact hC3 | with_reducible exact hC2 | with_reducible exact hC1 | with_reducible refine Ups.drew ?_ | with_reducible refine Ups.alloc ?_ _))) ?_; intro v2 w6 hown2 hb2 hg2; have hC2 : Ups w4 w6 := Ups.trans (by repeat (first | with_reducible exact Ups.refl _ | with_reducible exact hC3 | with_reducible exact hC2 | with_reducible exact hC1 | with_reducible refine Ups.drew ?_ | with_reducible refine Ups.alloc ?_ _)) hb2)
        | (refine step_append_prds (by rfl) _ _ (by rfl) w4.heap.size _ [] (by rfl) (ownp_empty (by repeat (first | with_reducible refine pblk_drew ?_ | ((with_reducible refine pblk_new _ _ _ ?_); (simp; done)) | with_reducible refine pblk_alloc ?_ _ | ((with_reducible refine hK1 _ _ ?_ ?_); rotate_left; (simp [Value.ownBlock] <;> omega)))) (by omega)) _ _ _ _ p1 he1.out (by rfl) (hx1 _ (by repeat (first | with_reducible exact Ups.refl _ | with_reducible exact hC3 | with_reducible exact hC2 | with_reducible exact hC1 | with_reducible refine Ups.drew ?_ | with_reducible refine Ups.alloc ?_ _))) (by simp; omega) (Ups.size (w := w4) (by repeat (first | with_reducible exact Ups.refl _ | with_reducible exact hC3 | with_reducible exact hC2 | with_reducible exact hC1 | with_reducible refine Ups.drew ?_ | with_reducible refine Ups.alloc ?_ _))) ?_; intro v1 w5 hown1 hb1 hg1; rw [List.nil_append] at hown1; have hC1 : Ups w4 w5 := Ups.trans (by repeat (first | with_reducible exact Ups.refl _ | with_reducible exact hC3 | with_reducible exact hC2 | with_reducible exact hC1 | with_reducible refine Ups.drew ?_ | with_reducible refine Ups.alloc ?_ _)) hb1; have hK1 := fun (g : Nat) (o : Obj) h hn => pblk_grown (g := g) (o := o) hg1 h hn))
    all_goals
      obtain ⟨Az, cz', rfl, hz⟩ := hown3.prds (fun q hq => by
        rcases List.mem_append.1 hq with hq | hq
        · rcases List.mem_append.1 hq with hq | hq
          · exact hQ1.2.2.2.1 q hq
          · rw [List.mem_singleton.1 hq]; exact HP.out
        · exact hQ2.2.2.2.1 q hq)
      rw [List.append_assoc, List.singleton_append, ← HLL.out] at hz ⊢
      have HZ := Lib.hid (hz.mono (Q' := fun _ => True) fun _ _ _ => trivial)
      have HC := Lib.hid hC3
      clear hz hC3 hown3 hb3 hg3 hown2 hb2 hg2 hC2 hown1 hb1 hg1 hC1 hK1
      go_wp2_with fail
      go_meet
      exact ⟨Az, cz', rfl, HZ.out, HC.out⟩
  case rest =>
    obtain ⟨Az, czz, rfl, hZ, hb6⟩ := hcut
    rename World => w6
    obtain ⟨E1, hE1⟩ : ∃ x, x = ((hdAll lx ⟨cz, cl, cm, cn⟩).1 : Int) := ⟨_, rfl⟩
    obtain ⟨E2, hE2⟩ : ∃ x, x = (hdAll lx ⟨cz, cl, cm, cn⟩).2 := ⟨_, rfl⟩
    obtain ⟨F1, hF1⟩ : ∃ x, x = ((hdAll LL ⟨cz, cl, cm, cn⟩).1 : Int) := ⟨_, rfl⟩
    obtain ⟨F2, hF2⟩ : ∃ x, x = (hdAll LL ⟨cz, cl, cm, cn⟩).2 := ⟨_, rfl⟩
    have hal := Lib.hid fun W hW => hall.out LL Az czz (fun _ => True) W hW
    rw [← hE1, ← hE2] at hallx
    rw [← hF1, ← hF2] at hal
    rw [← hE2, ← hF2] at HM
    generalize LL.length = nl at *
    have HX6 := Lib.hid (hX5.below hb6 (Nat.le_refl _))
    have HC6 := Lib.hid (Whole.below hC5 hb6 (Whole.lt hC5))
    have HP6 := Lib.hid (Whole.below hP5 hb6 (Whole.lt hP5))
    have HB6 := Lib.hid (HB5.out.trans (hb6.mono HB5.out.size))
    have HZ6 := Lib.hid hZ
    clear hE1 hE2 hF1 hF2 hall hq hq0 hx1 hx2 hpo hQ1 hQ2 hX5 hC5 hP5 hZ hb6 hcut hfrom hkc hkl hk hcx hl1 hl2 hl3 hlx5 hw1
    obtain ⟨a0, a1, a2, a3⟩ := CRow.cells HC6.out
    go_wp2_with fail
    refine (hallx.out _ HX6.out).mono ?_
    rintro e w7 ⟨rfl, hb⟩
    have HZ7 := Lib.hid (HZ6.out.below hb (Nat.le_refl _))
    have HC7 := Lib.hid (Whole.below HC6.out hb (Whole.lt HC6.out))
    have HP7 := Lib.hid (Whole.below HP6.out hb (Whole.lt HP6.out))
    have HB7 := Lib.hid (HB6.out.trans (hb.mono HB6.out.size))
    clear hb a0 a1 a2 a3 HX6 HZ6 HC6 HP6 HB6
    obtain ⟨a0, a1, a2, a3⟩ := CRow.cells HC7.out
    go_wp2_with fail
    refine (hal.out _ HZ7.out).mono ?_
    rintro e w8 ⟨rfl, hb⟩
    have HC8 := Lib.hid (Whole.below HC7.out hb (Whole.lt HC7.out))
    have HP8 := Lib.hid (Whole.below HP7.out hb (Whole.lt HP7.out))
    have HB8 := Lib.hid (HB7.out.trans (hb.mono HB7.out.size))
    clear hb a0 a1 a2 a3 HZ7 HC7 HP7 HB7
    obtain ⟨a0, a1, a2, a3⟩ := CRow.cells HC8.out
    obtain ⟨b0, b1, b2, b3, b4, b5⟩ := PRow.cells HP8.out
    have hM := HM.out
    cases E2
    · rw [Bool.false_and] at hM
      subst hM
      go_wp2_with fail
      refine (hawake _).mono ?_
      rintro e w9 ⟨rfl, hb⟩
      have HF := Lib.hid (HB8.out.trans (hb.mono HB8.out.size))
      clear hb
      go_wp2
      go_ret
      exact ⟨rfl, HF.out⟩
    · rw [Bool.true_and] at hM
      subst hM
      go_wp2_with fail
      refine (hh _).mono ?_
      rintro e w9 ⟨rfl, hb⟩
      have HB9 := Lib.hid (HB8.out.trans (hb.mono HB8.out.size))
      clear hb a0 a1 a2 a3 b0 b1 b2 b3 b4 b5
      go_wp2_with fail
      refine (hawake _).mono ?_
      rintro e w10 ⟨rfl, hb⟩
      have HF := Lib.hid (HB9.out.trans (hb.mono HB9.out.size))
      clear hb
      go_wp2
      go_ret
      exact ⟨rfl, HF.out⟩
end Go.Proofs.Ytbbkjdckogcbgaa
