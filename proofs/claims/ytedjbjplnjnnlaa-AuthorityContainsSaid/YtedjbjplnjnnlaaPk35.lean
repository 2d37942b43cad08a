/-
  The reference's Meet of two summaries that are not empty.
  The reference's Meet: the summary of the rides of both.
  The calls of the reference of stage 8.
-/
import Derived.Deep.RegionHeld3
import Derived.BigQuiet
import Derived.Test.YtedjbjplnjnnlaaPk19
import Derived.Test.YtedjbjplnjnnlaaPk18
import Derived.Test.YtedjbjplnjnnlaaKAnyG
import Derived.Test.YtedjbjplnjnnlaaPk29
import Derived.Test.YtedjbjplnjnnlaaPk7
namespace Go.Proofs.Ytedjbjplnjnnlaa
open Go Go.RowKit Sh Leaf

/-- The five blocks of a call of Meet. -/
structure Mc (w wx : World) (ra rb : Array Value) (G : Nat) (Z L : Nat) (H : List B8) : Prop where
  m : Mt w wx ra rb
  c : ARow wx G false Z L 0 0 0 (.slice none 0 0) H
  hG : w.heap.size + 3 ≤ G
theorem Mc.below {w wx wy : World} {ra rb : Array Value} {G Z L : Nat} {H : List B8} (h : Mc w wx ra rb G Z L H) {B : Nat} (hb : Below B wx wy) (hB : G + 1 ≤ B) : Mc w wy ra rb G Z L H :=
  ⟨h.m.below hb (by have := h.hG; omega), Whole.below h.c hb (by omega), h.hG⟩
set_option maxRecDepth 100000 in
set_option maxHeartbeats 4000000 in
theorem rmeet_good (za la da loA hiA : Nat) (zb lb db loB hiB : Nat) (A1 A2 : Option Addr) (n1 c1 n2 c2 : Nat) (ha hb : List B8) (ea eb eq : Bool) (MA MB : Nat → Bool) (Z Ln F L D : Nat) (H : List B8) (hZ : Z = za &&& zb) (hLn : Ln = la &&& lb) (hF : F = max loA loB) (hL : L = min hiA hiB) (hD : D = da &&& db) (hH : H = if eq then ha else ha ++ hb) (w w1 : World) (hw1 : w1 = ((w.alloc (.cells (arow false za la da loA hiA (.slice A1 n1 c1) ha) 25)).alloc (.cells (arow false zb lb db loB hiB (.slice A2 n2 c2) hb) 25)).alloc (.cells #[.bool false, .int .u64 0, .int .u64 0, .int .u64 0, .int .i64 0, .int .i64 0, .slice none 0 0, .string { data := #[] }] 25))
    (hbad : mbad true true false false ea eb eq = false) (hea : (sof ha).toList.isEmpty = ea) (heb : (sof hb).toList.isEmpty = eb) (heq : ((sof ha).toList == (sof hb).toList) = eq)
    (hza : za < 18446744073709551616) (hzb : zb < 18446744073709551616) (hla : la < 18446744073709551616) (hlb : lb < 18446744073709551616) (hda : da < 18446744073709551616) (hdb : db < 18446744073709551616)
    (hna : ha.length ≤ 1000) (hnb : hb.length ≤ 1000) (hl1 : loA ≤ 67108864) (hh1 : hiA ≤ 67108864) (hl2 : loB ≤ 67108864) (hh2 : hiB ≤ 67108864)
    (kA : ∀ W, Below w1.heap.size w1 W → Calls Try.prog 14 #[.agg (arow false za la da loA hiA (.slice A1 n1 c1) ha)] W fun e w' => e = .returned (.bool true) ∧ Below w1.heap.size w1 w')
    (kB : ∀ W, Below w1.heap.size w1 W → Calls Try.prog 14 #[.agg (arow false zb lb db loB hiB (.slice A2 n2 c2) hb)] W fun e w' => e = .returned (.bool true) ∧ Below w1.heap.size w1 w')
    (tA : ∀ W, Below w.heap.size w W → Calls Try.prog 32 #[.agg (arow false za la da loA hiA (.slice A1 n1 c1) ha)] W fun e w' => e = .returned (.pointer (some ⟨W.heap.size + 1, 0, none⟩)) ∧ TRow w' (W.heap.size + 1) loA hiA da MA ∧ Below W.heap.size W w')
    (tB : ∀ W, Below w.heap.size w W → Calls Try.prog 32 #[.agg (arow false zb lb db loB hiB (.slice A2 n2 c2) hb)] W fun e w' => e = .returned (.pointer (some ⟨W.heap.size + 1, 0, none⟩)) ∧ TRow w' (W.heap.size + 1) loB hiB db MB ∧ Below W.heap.size W w') :
    Calls Try.prog 24 #[.agg (arow false za la da loA hiA (.slice A1 n1 c1) ha), .agg (arow false zb lb db loB hiB (.slice A2 n2 c2) hb)] w fun e w' =>
      (∃ x, e = .returned x ∧ (((Z = 0 ∨ Ln = 0 ∨ L < F) ∧ x = .agg (arow true 0 0 0 0 0 (.slice none 0 0) [])) ∨
        (¬ Z = 0 ∧ ¬ Ln = 0 ∧ F ≤ L ∧ (((∀ y, ¬ inT F L D (tm fun k => MA k && MB k) y) ∧ x = .agg (arow true 0 0 0 0 0 (.slice none 0 0) [])) ∨ ∃ a A c, Canon Z Ln (inT F L D (tm fun k => MA k && MB k)) H a ∧ x = .agg (avl a A c) ∧ Spn w' (fun b => w.heap.size ≤ b) A c a.daily)))) ∧ Below w.heap.size w w' := by
  have hM : Mt w w1 (arow false za la da loA hiA (.slice A1 n1 c1) ha) (arow false zb lb db loB hiB (.slice A2 n2 c2) hb) := by rw [hw1]; exact mt_new w _ _
  have hsz : w1.heap.size = w.heap.size + 3 := by rw [hw1]; simp
  have esn : sof [] = { data := #[] } := by unfold sof; rfl
  have HM : Hid (∀ W, Below w1.heap.size w1 W → Mt w W (arow false za la da loA hiA (.slice A1 n1 c1) ha) (arow false zb lb db loB hiB (.slice A2 n2 c2) hb)) := Lib.hid fun W h => hM.below h (by omega)
  have hbr := Below.refl w1.heap.size w1
  have HSN := Lib.hid esn
  have HTA := Lib.hid tA
  have HTB := Lib.hid tB
  have HSZ : Hid (∀ W, Below w1.heap.size w1 W → w.heap.size + 3 ≤ W.heap.size) := Lib.hid fun W h => by have := h.size; omega
  have HF' := Lib.hid hF
  have HL' := Lib.hid hL
  have HD' := Lib.hid hD
  have HH' := Lib.hid hH
  clear hM hsz esn tA tB hF hL hD hH
  go_enter Try.func24, Try.ntmps24
  go_upto_region 1 with fail
  go_cut [41] (fun v wx => v = .bool false ∧ Mt w wx (arow false za la da loA hiA (.slice A1 n1 c1) ha) (arow false zb lb db loB hiB (.slice A2 n2 c2) hb) ∧ w.heap.size + 3 ≤ wx.heap.size)
  case first =>
    go_wp2_with fail
    rw [← hw1]
    clear hw1
    refine (kA _ hbr).mono ?_
    rintro e w2 ⟨rfl, hb2⟩
    have hM2 := HM.out w2 hb2
    obtain ⟨a0, a1, a2, a3, a4, a5, a6, a7⟩ := ARow.cells hM2.a
    obtain ⟨b0, b1, b2, b3, b4, b5, b6, b7⟩ := ARow.cells hM2.b
    clear kA hbr hM2
    go_wp2_with fail
    refine (kB _ hb2).mono ?_
    rintro e w3 ⟨rfl, hb3⟩
    have hM3 := HM.out w3 hb3
    clear a0 a1 a2 a3 a4 a5 a6 a7 b0 b1 b2 b3 b4 b5 b6 b7
    obtain ⟨a0, a1, a2, a3, a4, a5, a6, a7⟩ := ARow.cells hM3.a
    obtain ⟨b0, b1, b2, b3, b4, b5, b6, b7⟩ := ARow.cells hM3.b
    have HM3 := Lib.hid (And.intro hM3 (HSZ.out _ hb3))
    clear kB hM3 hb2 hb3
    cases ea
    case true =>
      go_wp2_with fail
      go_meet
      exact ⟨rfl, HM3.out⟩
    cases eb
    case true =>
      go_wp2_with fail
      go_meet
      exact ⟨rfl, HM3.out⟩
    cases eq
    case false => cases hbad
    go_wp2_with fail
    go_meet
    exact ⟨rfl, HM3.out⟩
  case rest =>
    obtain ⟨rfl, hM, hsz⟩ := hcut
    rename World => w2
    obtain ⟨a0, a1, a2, a3, a4, a5, a6, a7⟩ := ARow.cells hM.a
    obtain ⟨b0, b1, b2, b3, b4, b5, b6, b7⟩ := ARow.cells hM.b
    have eZ : bits .and .u64 (za : Int) (zb : Int) = ((za &&& zb : Nat) : Int) := bits_and_u64_nat _ _ hza hzb
    have eL : bits .and .u64 (la : Int) (lb : Int) = ((la &&& lb : Nat) : Int) := bits_and_u64_nat _ _ hla hlb
    have eH : sof ha ++ sof hb = sof (ha ++ hb) := sof_append _ _
    rw [← hZ] at eZ
    rw [← hLn] at eL
    have hss : ¬ 9223372036854775807 < (sof ha).size + (sof hb).size := by rw [sof_size, sof_size]; omega
    have HM2 := Lib.hid hM
    have HSZ2 := Lib.hid hsz
    have hs0 : w.heap.size < w2.heap.size := by omega
    have hs1 : w.heap.size + 1 < w2.heap.size := by omega
    have HC : Hid (∀ nm, Mc w (w2.alloc (.cells (arow false Z Ln 0 0 0 (.slice none 0 0) nm) 25)) (arow false za la da loA hiA (.slice A1 n1 c1) ha) (arow false zb lb db loB hiB (.slice A2 n2 c2) hb) w2.heap.size Z Ln nm ∧ w2.heap.size < (w2.alloc (.cells (arow false Z Ln 0 0 0 (.slice none 0 0) nm) 25)).heap.size) := Lib.hid fun nm => ⟨⟨hM.below ((Below.refl _ _).alloc (Nat.le_refl _) _) hsz, Whole.here _ _ _, hsz⟩, by simp⟩
    clear hM hsz hbad hea heb kA kB hbr HM hw1 HSZ hZ hLn hza hzb hla hlb hna hnb
    go_upto_if 63 with fail
    go_cut [] (fun wx => Mc w wx (arow false za la da loA hiA (.slice A1 n1 c1) ha) (arow false zb lb db loB hiB (.slice A2 n2 c2) hb) w2.heap.size Z Ln H ∧ w2.heap.size < wx.heap.size)
    case first =>
      cases eq
      · have hh := HH'.out
        simp only [Bool.false_eq_true, if_false] at hh
        subst hh
        go_wp2_with fail
        go_meet
        exact HC.out _
      · have hh := HH'.out
        simp only [if_true] at hh
        subst hh
        go_wp2_with fail
        go_meet
        exact HC.out _
    case rest =>
      obtain ⟨hM3, hs3⟩ := hcut
      rename World => w3
      clear a0 a1 a2 a3 a4 a5 a6 a7 b0 b1 b2 b3 b4 b5 b6 b7
      have hcc : ∀ W, Below w3.heap.size w3 W → W.cell? ⟨w.heap.size, 0, none⟩ = some (.bool false) ∧ W.cell? ⟨w.heap.size, 1, none⟩ = some (.int .u64 (za : Int)) ∧ W.cell? ⟨w.heap.size, 2, none⟩ = some (.int .u64 (la : Int)) ∧ W.cell? ⟨w.heap.size, 3, none⟩ = some (.int .u64 (da : Int)) ∧ W.cell? ⟨w.heap.size, 4, none⟩ = some (.int .i64 (loA : Int)) ∧ W.cell? ⟨w.heap.size, 5, none⟩ = some (.int .i64 (hiA : Int)) ∧ W.cell? ⟨w.heap.size, 6, none⟩ = some (.slice A1 n1 c1) ∧ W.cell? ⟨w.heap.size, 7, none⟩ = some (.string (sof ha)) ∧ W.cell? ⟨w.heap.size + 1, 0, none⟩ = some (.bool false) ∧ W.cell? ⟨w.heap.size + 1, 1, none⟩ = some (.int .u64 (zb : Int)) ∧ W.cell? ⟨w.heap.size + 1, 2, none⟩ = some (.int .u64 (lb : Int)) ∧ W.cell? ⟨w.heap.size + 1, 3, none⟩ = some (.int .u64 (db : Int)) ∧ W.cell? ⟨w.heap.size + 1, 4, none⟩ = some (.int .i64 (loB : Int)) ∧ W.cell? ⟨w.heap.size + 1, 5, none⟩ = some (.int .i64 (hiB : Int)) ∧ W.cell? ⟨w.heap.size + 1, 6, none⟩ = some (.slice A2 n2 c2) ∧ W.cell? ⟨w.heap.size + 1, 7, none⟩ = some (.string (sof hb)) := fun W hb => by
        have h := hM3.below hb (by omega)
        obtain ⟨a0, a1, a2, a3, a4, a5, a6, a7⟩ := ARow.cells h.m.a
        obtain ⟨b0, b1, b2, b3, b4, b5, b6, b7⟩ := ARow.cells h.m.b
        exact ⟨a0, a1, a2, a3, a4, a5, a6, a7, b0, b1, b2, b3, b4, b5, b6, b7⟩
      have hc0 := hcc w3 (Below.refl _ _)
      have kTA : ∀ W, Below w3.heap.size w3 W → Calls Try.prog 32 #[.agg (arow false za la da loA hiA (.slice A1 n1 c1) ha)] W fun e w' => (∃ g, e = .returned (.pointer (some ⟨g, 0, none⟩)) ∧ TRow w' g loA hiA da MA ∧ w3.heap.size ≤ g) ∧ Below w3.heap.size w3 w' := fun W hb => (HTA.out W (hM3.m.low.trans (hb.mono hM3.m.low.size))).mono fun e w' h => ⟨⟨_, h.1, h.2.1, by have := hb.size; omega⟩, hb.trans (h.2.2.mono hb.size)⟩
      have kTB : ∀ W, Below w3.heap.size w3 W → Calls Try.prog 32 #[.agg (arow false zb lb db loB hiB (.slice A2 n2 c2) hb)] W fun e w' => ∃ g, e = .returned (.pointer (some ⟨g, 0, none⟩)) ∧ TRow w' g loB hiB db MB ∧ W.heap.size ≤ g ∧ Below W.heap.size W w' := fun W hb => (HTB.out W (hM3.m.low.trans (hb.mono hM3.m.low.size))).mono fun e w' h => ⟨_, h.1, h.2.1, by omega, h.2.2⟩
      have HM3 := Lib.hid hM3
      have HS3 := Lib.hid hs3
      have hbr := Below.refl w3.heap.size w3
      clear hM3 hs3 HTA HTB HC heq HH' eZ eL eH hss hs0 hs1
      go_wp2_with fail
      go_region_held3 (fun W => W.cell? ⟨w.heap.size, 0, none⟩ = some (.bool false) ∧ W.cell? ⟨w.heap.size, 1, none⟩ = some (.int .u64 (za : Int)) ∧ W.cell? ⟨w.heap.size, 2, none⟩ = some (.int .u64 (la : Int)) ∧ W.cell? ⟨w.heap.size, 3, none⟩ = some (.int .u64 (da : Int)) ∧ W.cell? ⟨w.heap.size, 4, none⟩ = some (.int .i64 (loA : Int)) ∧ W.cell? ⟨w.heap.size, 5, none⟩ = some (.int .i64 (hiA : Int)) ∧ W.cell? ⟨w.heap.size, 6, none⟩ = some (.slice A1 n1 c1) ∧ W.cell? ⟨w.heap.size, 7, none⟩ = some (.string (sof ha)) ∧ W.cell? ⟨w.heap.size + 1, 0, none⟩ = some (.bool false) ∧ W.cell? ⟨w.heap.size + 1, 1, none⟩ = some (.int .u64 (zb : Int)) ∧ W.cell? ⟨w.heap.size + 1, 2, none⟩ = some (.int .u64 (lb : Int)) ∧ W.cell? ⟨w.heap.size + 1, 3, none⟩ = some (.int .u64 (db : Int)) ∧ W.cell? ⟨w.heap.size + 1, 4, none⟩ = some (.int .i64 (loB : Int)) ∧ W.cell? ⟨w.heap.size + 1, 5, none⟩ = some (.int .i64 (hiB : Int)) ∧ W.cell? ⟨w.heap.size + 1, 6, none⟩ = some (.slice A2 n2 c2) ∧ W.cell? ⟨w.heap.size + 1, 7, none⟩ = some (.string (sof hb))) (first | exact hc0 | assumption | go_keep)
        (first
          | (have g5 := hb4; go_at_call 32; refine (kTB _ hb4).mono ?_; rintro e w5 ⟨g2, rfl, hT2, hg2, hb5⟩; have hs5 := hcc w5 (hb4.trans (hb5.mono hb4.size)))
          | (go_at_call 32; refine (kTA _ (Below.drew hbr)).mono ?_; rintro e w4 ⟨⟨g1, rfl, hT1, hg1⟩, hb4⟩; have hs4 := hcc w4 hb4))
      have hT1' : TRow w5 g1 loA hiA da MA := Whole.below hT1 hb5 hT1.lt
      have hne : ¬ g1 = g2 := by have := hT1.lt; omega
      have hb5' : Below w3.heap.size w3 w5 := hb4.trans (hb5.mono hb4.size)
      have HM5 := Lib.hid (HM3.out.below hb5' HS3.out)
      have HG1 : Hid (w3.heap.size ≤ g1) := Lib.hid hg1
      have HG2 : Hid (w3.heap.size ≤ g2) := Lib.hid (by have := hb4.size; omega)
      have HT1 := Lib.hid hT1'
      have HT2 := Lib.hid hT2
      have eF : (if loA < loB then (loB : Int) else (loA : Int)) = (F : Int) := by rw [HF'.out]; split <;> omega
      have eL : (if hiB < hiA then (hiB : Int) else (hiA : Int)) = (L : Int) := by rw [HL'.out]; split <;> omega
      have HFL : Hid (F ≤ 67108864 ∧ L ≤ 67108864) := Lib.hid (by rw [HF'.out, HL'.out]; omega)
      have eD : bits .and .u64 (da : Int) (db : Int) = (D : Int) := by rw [HD'.out]; exact bits_and_u64_nat _ _ hda hdb
      have x0 := TRow.c0 hT1'
      have x1 := TRow.c1 hT1'
      have x2 := TRow.c2 hT1'
      have f0 := Whole.frozen hT1' 0
      have f1 := Whole.frozen hT1' 1
      have f2 := Whole.frozen hT1' 2
      have y0 := TRow.c0 hT2
      have y1 := TRow.c1 hT2
      have y2 := TRow.c2 hT2
      clear hT1 hT1' hT2 hb4 hb5 hb5' hs4 hs5 hg1 hg2 hc0 hcc kTA kTB hbr HM3 HF' HL' HD'
      go_wp2_with fail
      refine wp_region_G (fun W : World => W.cell? ⟨g1, 0, none⟩ = some (.int .i64 (loA : Int)) ∧ W.cell? ⟨g1, 1, none⟩ = some (.int .i64 (hiA : Int)) ∧ W.cell? ⟨g1, 2, none⟩ = some (.int .u64 (da : Int)) ∧ W.cell? ⟨g2, 0, none⟩ = some (.int .i64 (loB : Int)) ∧ W.cell? ⟨g2, 1, none⟩ = some (.int .i64 (hiB : Int)) ∧ W.cell? ⟨g2, 2, none⟩ = some (.int .u64 (db : Int))) (fun _ => True) [32] (by kernel_rfl) ?_
      have hHeld : (fun W : World => W.cell? ⟨g1, 0, none⟩ = some (.int .i64 (loA : Int)) ∧ W.cell? ⟨g1, 1, none⟩ = some (.int .i64 (hiA : Int)) ∧ W.cell? ⟨g1, 2, none⟩ = some (.int .u64 (da : Int)) ∧ W.cell? ⟨g2, 0, none⟩ = some (.int .i64 (loB : Int)) ∧ W.cell? ⟨g2, 1, none⟩ = some (.int .i64 (hiB : Int)) ∧ W.cell? ⟨g2, 2, none⟩ = some (.int .u64 (db : Int))) (w5.drew) := ⟨x0, x1, x2, y0, y1, y2⟩
      have hBeld : (fun _ : World => True) (w5.drew) := trivial
      apply AnyG_pure (i := 0) rfl (by kernel_rfl) (by kernel_rfl) (by kernel_rfl) (by kernel_rfl)
      case hQ => exact fun _ _ _ h => h
      case hB => exact hBeld
      case hC => exact .inr hHeld
      case hy => (refine Or.inl ⟨by rfl, ?_⟩; intro w hSw; (try go_split_ands); go_simp; (try with_reducible rfl))
      (try simp only [List.getElem_toArray, List.getElem_cons_zero, Act.put, List.setIfInBounds_toArray, List.set_cons_zero, List.set_cons_succ])
      apply AnyG_pure (i := 1) rfl (by kernel_rfl) (by kernel_rfl) (by kernel_rfl) (by kernel_rfl)
      case hQ => exact fun _ _ _ h => h
      case hB => exact hBeld
      case hC => exact .inr hHeld
      case hy => (refine Or.inl ⟨by rfl, ?_⟩; intro w hSw; (try go_split_ands); go_simp; (try with_reducible rfl))
      (try simp only [List.getElem_toArray, List.getElem_cons_succ, List.getElem_cons_zero, Act.put, List.setIfInBounds_toArray, List.set_cons_zero, List.set_cons_succ])
      apply AnyG_pure (i := 2) rfl (by kernel_rfl) (by kernel_rfl) (by kernel_rfl) (by kernel_rfl)
      case hQ => exact fun _ _ _ h => h
      case hB => exact hBeld
      case hC => exact .inr hHeld
      case hy => (refine Or.inl ⟨by rfl, ?_⟩; intro w hSw; (try go_split_ands); go_simp; (try with_reducible rfl))
      (try simp only [List.getElem_toArray, List.getElem_cons_succ, List.getElem_cons_zero, Act.put, List.setIfInBounds_toArray, List.set_cons_zero, List.set_cons_succ])
      apply AnyG_pure (i := 3) rfl (by kernel_rfl) (by kernel_rfl) (by kernel_rfl) (by kernel_rfl)
      case hQ => exact fun _ _ _ h => h
      case hB => exact hBeld
      case hC => exact .inr hHeld
      case hy => (refine Or.inl ⟨by rfl, ?_⟩; intro w hSw; (try go_split_ands); go_simp; (try with_reducible rfl))
      (try simp only [List.getElem_toArray, List.getElem_cons_succ, List.getElem_cons_zero, Act.put, List.setIfInBounds_toArray, List.set_cons_zero, List.set_cons_succ])
      apply AnyG_pure (i := 4) rfl (by kernel_rfl) (by kernel_rfl) (by kernel_rfl) (by kernel_rfl)
      case hQ => exact fun _ _ _ h => h
      case hB => exact hBeld
      case hC => exact .inr hHeld
      case hy => (refine Or.inl ⟨by rfl, ?_⟩; intro w hSw; (try go_split_ands); go_simp; (try with_reducible rfl))
      (try simp only [List.getElem_toArray, List.getElem_cons_succ, List.getElem_cons_zero, Act.put, List.setIfInBounds_toArray, List.set_cons_zero, List.set_cons_succ])
      apply AnyG_pure (i := 5) rfl (by kernel_rfl) (by kernel_rfl) (by kernel_rfl) (by kernel_rfl)
      case hQ => exact fun _ _ _ h => h
      case hB => exact hBeld
      case hC => exact .inr hHeld
      case hy => (refine Or.inl ⟨by rfl, ?_⟩; intro w hSw; (try go_split_ands); go_simp; (try with_reducible rfl))
      (try simp only [List.getElem_toArray, List.getElem_cons_succ, List.getElem_cons_zero, Act.put, List.setIfInBounds_toArray, List.set_cons_zero, List.set_cons_succ])
      apply AnyG_take (i := 6) rfl (by kernel_rfl) (by kernel_rfl) (by kernel_rfl) (by kernel_rfl)
      case hQ => exact fun _ _ _ h => h
      case hB => exact hBeld
      case hC => exact hHeld
      case hy => (refine Or.inl ⟨by rfl, ?_⟩; intro w hSw; go_split_ands; go_simp; (try with_reducible rfl))
      (try simp only [List.getElem_toArray, List.getElem_cons_succ, List.getElem_cons_zero, Act.put, List.setIfInBounds_toArray, List.set_cons_zero, List.set_cons_succ])
      apply AnyG_pure (i := 7) rfl (by kernel_rfl) (by kernel_rfl) (by kernel_rfl) (by kernel_rfl)
      case hQ => exact fun _ _ _ h => h
      case hB => exact hBeld
      case hC => exact .inr hHeld
      case hy => (refine Or.inl ⟨by rfl, ?_⟩; intro w hSw; (try go_split_ands); go_simp; (try with_reducible rfl))
      (try simp only [List.getElem_toArray, List.getElem_cons_succ, List.getElem_cons_zero, Act.put, List.setIfInBounds_toArray, List.set_cons_zero, List.set_cons_succ])
      apply AnyG_pure (i := 8) rfl (by kernel_rfl) (by kernel_rfl) (by kernel_rfl) (by kernel_rfl)
      case hQ => exact fun _ _ _ h => h
      case hB => exact hBeld
      case hC => exact .inr hHeld
      case hy => (refine Or.inl ⟨by rfl, ?_⟩; intro w hSw; (try go_split_ands); go_simp; (try with_reducible rfl))
      (try simp only [List.getElem_toArray, List.getElem_cons_succ, List.getElem_cons_zero, Act.put, List.setIfInBounds_toArray, List.set_cons_zero, List.set_cons_succ])
      apply AnyG_pure (i := 9) rfl (by kernel_rfl) (by kernel_rfl) (by kernel_rfl) (by kernel_rfl)
      case hQ => exact fun _ _ _ h => h
      case hB => exact hBeld
      case hC => exact .inr hHeld
      case hy => (refine Or.inl ⟨by rfl, ?_⟩; intro w hSw; (try go_split_ands); go_simp; (try with_reducible rfl))
      (try simp only [List.getElem_toArray, List.getElem_cons_succ, List.getElem_cons_zero, Act.put, List.setIfInBounds_toArray, List.set_cons_zero, List.set_cons_succ])
      apply AnyG_take (i := 10) rfl (by kernel_rfl) (by kernel_rfl) (by kernel_rfl) (by kernel_rfl)
      case hQ => exact fun _ _ _ h => h
      case hB => exact hBeld
      case hC => exact hHeld
      case hy => (refine Or.inl ⟨by rfl, ?_⟩; intro w hSw; go_split_ands; go_simp; (try with_reducible rfl))
      (try simp only [List.getElem_toArray, List.getElem_cons_succ, List.getElem_cons_zero, Act.put, List.setIfInBounds_toArray, List.set_cons_zero, List.set_cons_succ])
      apply AnyG_pure (i := 11) rfl (by kernel_rfl) (by kernel_rfl) (by kernel_rfl) (by kernel_rfl)
      case hQ => exact fun _ _ _ h => h
      case hB => exact hBeld
      case hC => exact .inr hHeld
      case hy => (refine Or.inl ⟨by rfl, ?_⟩; intro w hSw; (try go_split_ands); go_simp; (try with_reducible rfl))
      (try simp only [List.getElem_toArray, List.getElem_cons_succ, List.getElem_cons_zero, Act.put, List.setIfInBounds_toArray, List.set_cons_zero, List.set_cons_succ])
      apply AnyG_pure (i := 12) rfl (by kernel_rfl) (by kernel_rfl) (by kernel_rfl) (by kernel_rfl)
      case hQ => exact fun _ _ _ h => h
      case hB => exact hBeld
      case hC => exact .inr hHeld
      case hy => (refine Or.inl ⟨by rfl, ?_⟩; intro w hSw; (try go_split_ands); go_simp; (try with_reducible rfl))
      (try simp only [List.getElem_toArray, List.getElem_cons_succ, List.getElem_cons_zero, Act.put, List.setIfInBounds_toArray, List.set_cons_zero, List.set_cons_succ])
      apply AnyG_pure (i := 13) rfl (by kernel_rfl) (by kernel_rfl) (by kernel_rfl) (by kernel_rfl)
      case hQ => exact fun _ _ _ h => h
      case hB => exact hBeld
      case hC => exact .inr hHeld
      case hy => (refine Or.inl ⟨by rfl, ?_⟩; intro w hSw; (try go_split_ands); go_simp; (try with_reducible rfl))
      (try simp only [List.getElem_toArray, List.getElem_cons_succ, List.getElem_cons_zero, Act.put, List.setIfInBounds_toArray, List.set_cons_zero, List.set_cons_succ])
      apply AnyG_pure (i := 14) rfl (by kernel_rfl) (by kernel_rfl) (by kernel_rfl) (by kernel_rfl)
      case hQ => exact fun _ _ _ h => h
      case hB => exact hBeld
      case hC => exact .inr hHeld
      case hy => (refine Or.inl ⟨by rfl, ?_⟩; intro w hSw; (try go_split_ands); go_simp; (try with_reducible rfl))
      (try simp only [List.getElem_toArray, List.getElem_cons_succ, List.getElem_cons_zero, Act.put, List.setIfInBounds_toArray, List.set_cons_zero, List.set_cons_succ])
      apply AnyG_take (i := 15) rfl (by kernel_rfl) (by kernel_rfl) (by kernel_rfl) (by kernel_rfl)
      case hQ => exact fun _ _ _ h => h
      case hB => exact hBeld
      case hC => exact hHeld
      case hy => (refine Or.inl ⟨by rfl, ?_⟩; intro w hSw; go_split_ands; go_simp; (try with_reducible rfl))
      (try simp only [List.getElem_toArray, List.getElem_cons_succ, List.getElem_cons_zero, Act.put, List.setIfInBounds_toArray, List.set_cons_zero, List.set_cons_succ])
      apply AnyG_pure (i := 16) rfl (by kernel_rfl) (by kernel_rfl) (by kernel_rfl) (by kernel_rfl)
      case hQ => exact fun _ _ _ h => h
      case hB => exact hBeld
      case hC => exact .inr hHeld
      case hy => (refine Or.inl ⟨by rfl, ?_⟩; intro w hSw; (try go_split_ands); go_simp; (try with_reducible rfl))
      (try simp only [List.getElem_toArray, List.getElem_cons_succ, List.getElem_cons_zero, Act.put, List.setIfInBounds_toArray, List.set_cons_zero, List.set_cons_succ])
      apply AnyG_pure (i := 17) rfl (by kernel_rfl) (by kernel_rfl) (by kernel_rfl) (by kernel_rfl)
      case hQ => exact fun _ _ _ h => h
      case hB => exact hBeld
      case hC => exact .inr hHeld
      case hy => (refine Or.inl ⟨by rfl, ?_⟩; intro w hSw; (try go_split_ands); go_simp; (try with_reducible rfl))
      (try simp only [List.getElem_toArray, List.getElem_cons_succ, List.getElem_cons_zero, Act.put, List.setIfInBounds_toArray, List.set_cons_zero, List.set_cons_succ])
      apply AnyG_pure (i := 18) rfl (by kernel_rfl) (by kernel_rfl) (by kernel_rfl) (by kernel_rfl)
      case hQ => exact fun _ _ _ h => h
      case hB => exact hBeld
      case hC => exact .inr hHeld
      case hy => (refine Or.inl ⟨by rfl, ?_⟩; intro w hSw; (try go_split_ands); go_simp; (try with_reducible rfl))
      (try simp only [List.getElem_toArray, List.getElem_cons_succ, List.getElem_cons_zero, Act.put, List.setIfInBounds_toArray, List.set_cons_zero, List.set_cons_succ])
      apply AnyG_take (i := 19) rfl (by kernel_rfl) (by kernel_rfl) (by kernel_rfl) (by kernel_rfl)
      case hQ => exact fun _ _ _ h => h
      case hB => exact hBeld
      case hC => exact hHeld
      case hy => (refine Or.inl ⟨by rfl, ?_⟩; intro w hSw; go_split_ands; go_simp; (try with_reducible rfl))
      (try simp only [List.getElem_toArray, List.getElem_cons_succ, List.getElem_cons_zero, Act.put, List.setIfInBounds_toArray, List.set_cons_zero, List.set_cons_succ])
      apply AnyG_pure (i := 20) rfl (by kernel_rfl) (by kernel_rfl) (by kernel_rfl) (by kernel_rfl)
      case hQ => exact fun _ _ _ h => h
      case hB => exact hBeld
      case hC => exact .inr hHeld
      case hy => (refine Or.inl ⟨by rfl, ?_⟩; intro w hSw; (try go_split_ands); go_simp; (try with_reducible rfl))
      (try simp only [List.getElem_toArray, List.getElem_cons_succ, List.getElem_cons_zero, Act.put, List.setIfInBounds_toArray, List.set_cons_zero, List.set_cons_succ])
      apply AnyG_pure (i := 21) rfl (by kernel_rfl) (by kernel_rfl) (by kernel_rfl) (by kernel_rfl)
      case hQ => exact fun _ _ _ h => h
      case hB => exact hBeld
      case hC => exact .inr hHeld
      case hy => (refine Or.inl ⟨by rfl, ?_⟩; intro w hSw; (try go_split_ands); go_simp; (try with_reducible rfl))
      (try simp only [List.getElem_toArray, List.getElem_cons_succ, List.getElem_cons_zero, Act.put, List.setIfInBounds_toArray, List.set_cons_zero, List.set_cons_succ])
      apply AnyG_pure (i := 22) rfl (by kernel_rfl) (by kernel_rfl) (by kernel_rfl) (by kernel_rfl)
      case hQ => exact fun _ _ _ h => h
      case hB => exact hBeld
      case hC => exact .inr hHeld
      case hy => (refine Or.inl ⟨by rfl, ?_⟩; intro w hSw; (try go_split_ands); go_simp; (try with_reducible rfl))
      (try simp only [List.getElem_toArray, List.getElem_cons_succ, List.getElem_cons_zero, Act.put, List.setIfInBounds_toArray, List.set_cons_zero, List.set_cons_succ])
      apply AnyG_pure (i := 23) rfl (by kernel_rfl) (by kernel_rfl) (by kernel_rfl) (by kernel_rfl)
      case hQ => exact fun _ _ _ h => h
      case hB => exact hBeld
      case hC => exact .inr hHeld
      case hy => (refine Or.inl ⟨by rfl, ?_⟩; intro w hSw; (try go_split_ands); go_simp; (try with_reducible rfl))
      (try simp only [List.getElem_toArray, List.getElem_cons_succ, List.getElem_cons_zero, Act.put, List.setIfInBounds_toArray, List.set_cons_zero, List.set_cons_succ])
      apply AnyG_take (i := 24) rfl (by kernel_rfl) (by kernel_rfl) (by kernel_rfl) (by kernel_rfl)
      case hQ => exact fun _ _ _ h => h
      case hB => exact hBeld
      case hC => exact hHeld
      case hy => (refine Or.inl ⟨by rfl, ?_⟩; intro w hSw; go_split_ands; go_simp; (try with_reducible rfl))
      (try simp only [List.getElem_toArray, List.getElem_cons_succ, List.getElem_cons_zero, Act.put, List.setIfInBounds_toArray, List.set_cons_zero, List.set_cons_succ])
      apply AnyG_pure (i := 25) rfl (by kernel_rfl) (by kernel_rfl) (by kernel_rfl) (by kernel_rfl)
      case hQ => exact fun _ _ _ h => h
      case hB => exact hBeld
      case hC => exact .inr hHeld
      case hy => (refine Or.inl ⟨by rfl, ?_⟩; intro w hSw; (try go_split_ands); go_simp; (try with_reducible rfl))
      (try simp only [List.getElem_toArray, List.getElem_cons_succ, List.getElem_cons_zero, Act.put, List.setIfInBounds_toArray, List.set_cons_zero, List.set_cons_succ])
      apply AnyG_pure (i := 26) rfl (by kernel_rfl) (by kernel_rfl) (by kernel_rfl) (by kernel_rfl)
      case hQ => exact fun _ _ _ h => h
      case hB => exact hBeld
      case hC => exact .inr hHeld
      case hy => (refine Or.inl ⟨by rfl, ?_⟩; intro w hSw; (try go_split_ands); go_simp; (try with_reducible rfl))
      (try simp only [List.getElem_toArray, List.getElem_cons_succ, List.getElem_cons_zero, Act.put, List.setIfInBounds_toArray, List.set_cons_zero, List.set_cons_succ])
      apply AnyG_pure (i := 27) rfl (by kernel_rfl) (by kernel_rfl) (by kernel_rfl) (by kernel_rfl)
      case hQ => exact fun _ _ _ h => h
      case hB => exact hBeld
      case hC => exact .inr hHeld
      case hy => (refine Or.inl ⟨by rfl, ?_⟩; intro w hSw; (try go_split_ands); go_simp; (try with_reducible rfl))
      (try simp only [List.getElem_toArray, List.getElem_cons_succ, List.getElem_cons_zero, Act.put, List.setIfInBounds_toArray, List.set_cons_zero, List.set_cons_succ])
      apply AnyG_take (i := 28) rfl (by kernel_rfl) (by kernel_rfl) (by kernel_rfl) (by kernel_rfl)
      case hQ => exact fun _ _ _ h => h
      case hB => exact hBeld
      case hC => exact hHeld
      case hy => (refine Or.inl ⟨by rfl, ?_⟩; intro w hSw; go_split_ands; go_simp; (try with_reducible rfl))
      (try simp only [List.getElem_toArray, List.getElem_cons_succ, List.getElem_cons_zero, Act.put, List.setIfInBounds_toArray, List.set_cons_zero, List.set_cons_succ])
      apply AnyG_pure (i := 29) rfl (by kernel_rfl) (by kernel_rfl) (by kernel_rfl) (by kernel_rfl)
      case hQ => exact fun _ _ _ h => h
      case hB => exact hBeld
      case hC => exact .inr hHeld
      case hy => (refine Or.inl ⟨by rfl, ?_⟩; intro w hSw; (try go_split_ands); go_simp; (try with_reducible rfl))
      (try simp only [List.getElem_toArray, List.getElem_cons_succ, List.getElem_cons_zero, Act.put, List.setIfInBounds_toArray, List.set_cons_zero, List.set_cons_succ])
      apply AnyG_pure (i := 30) rfl (by kernel_rfl) (by kernel_rfl) (by kernel_rfl) (by kernel_rfl)
      case hQ => exact fun _ _ _ h => h
      case hB => exact hBeld
      case hC => exact .inr hHeld
      case hy => (refine Or.inl ⟨by rfl, ?_⟩; intro w hSw; (try go_split_ands); go_simp; (try with_reducible rfl))
      (try simp only [List.getElem_toArray, List.getElem_cons_succ, List.getElem_cons_zero, Act.put, List.setIfInBounds_toArray, List.set_cons_zero, List.set_cons_succ])
      apply AnyG_pure (i := 31) rfl (by kernel_rfl) (by kernel_rfl) (by kernel_rfl) (by kernel_rfl)
      case hQ => exact fun _ _ _ h => h
      case hB => exact hBeld
      case hC => exact .inr hHeld
      case hy => (refine Or.inl ⟨by rfl, ?_⟩; intro w hSw; (try go_split_ands); go_simp; (try with_reducible rfl))
      (try simp only [List.getElem_toArray, List.getElem_cons_succ, List.getElem_cons_zero, Act.put, List.setIfInBounds_toArray, List.set_cons_zero, List.set_cons_succ])
      refine AnyG_one (i := 32) (by kernel_rfl) rfl (fun K hK => ?_)
      (try simp only [List.getElem_toArray, List.getElem_cons_succ, List.getElem_cons_zero])
      go_simp
      clear hHeld
      refine hK.out _ _ (.inl (by kernel_rfl)) (trivial) ?_
      clear hK K
      (try simp only [List.getElem_toArray, List.getElem_cons_succ, List.getElem_cons_zero, Act.put, List.setIfInBounds_toArray, List.set_cons_zero, List.set_cons_succ])
      apply AnyG_pure (i := 33) rfl (by kernel_rfl) (by kernel_rfl) (by kernel_rfl) (by kernel_rfl)
      case hQ => exact fun _ _ _ h => h
      case hB => exact (trivial)
      case hC => exact .inl (by kernel_rfl)
      case hy => (refine Or.inl ⟨by rfl, ?_⟩; intro w hSw; (try go_split_ands); go_simp; (try with_reducible rfl))
      (try simp only [List.getElem_toArray, List.getElem_cons_succ, List.getElem_cons_zero, Act.put, List.setIfInBounds_toArray, List.set_cons_zero, List.set_cons_succ])
      apply AnyG_pure (i := 34) rfl (by kernel_rfl) (by kernel_rfl) (by kernel_rfl) (by kernel_rfl)
      case hQ => exact fun _ _ _ h => h
      case hB => exact (trivial)
      case hC => exact .inl (by kernel_rfl)
      case hy => (refine Or.inl ⟨by rfl, ?_⟩; intro w hSw; (try go_split_ands); go_simp; (try with_reducible rfl))
      (try simp only [List.getElem_toArray, List.getElem_cons_succ, List.getElem_cons_zero, Act.put, List.setIfInBounds_toArray, List.set_cons_zero, List.set_cons_succ])
      refine AnyG_one (i := 35) (by kernel_rfl) rfl (fun K hK => ?_)
      (try simp only [List.getElem_toArray, List.getElem_cons_succ, List.getElem_cons_zero])
      go_simp
      refine hK.out _ _ (.inl (by kernel_rfl)) (trivial) ?_
      clear hK K
      (try simp only [List.getElem_toArray, List.getElem_cons_succ, List.getElem_cons_zero, Act.put, List.setIfInBounds_toArray, List.set_cons_zero, List.set_cons_succ])
      apply AnyG_pure (i := 36) rfl (by kernel_rfl) (by kernel_rfl) (by kernel_rfl) (by kernel_rfl)
      case hQ => exact fun _ _ _ h => h
      case hB => exact (trivial)
      case hC => exact .inl (by kernel_rfl)
      case hy => (refine Or.inl ⟨by rfl, ?_⟩; intro w hSw; (try go_split_ands); go_simp; (try with_reducible rfl))
      (try simp only [List.getElem_toArray, List.getElem_cons_succ, List.getElem_cons_zero, Act.put, List.setIfInBounds_toArray, List.set_cons_zero, List.set_cons_succ])
      apply AnyG_pure (i := 37) rfl (by kernel_rfl) (by kernel_rfl) (by kernel_rfl) (by kernel_rfl)
      case hQ => exact fun _ _ _ h => h
      case hB => exact (trivial)
      case hC => exact .inl (by kernel_rfl)
      case hy => (refine Or.inl ⟨by rfl, ?_⟩; intro w hSw; (try go_split_ands); go_simp; (try with_reducible rfl))
      (try simp only [List.getElem_toArray, List.getElem_cons_succ, List.getElem_cons_zero, Act.put, List.setIfInBounds_toArray, List.set_cons_zero, List.set_cons_succ])
      refine AnyG_one (i := 38) (by kernel_rfl) rfl (fun K hK => ?_)
      (try simp only [List.getElem_toArray, List.getElem_cons_succ, List.getElem_cons_zero])
      go_simp
      refine hK.out _ _ (.inl (by kernel_rfl)) (trivial) ?_
      clear hK K
      (try simp only [List.getElem_toArray, List.getElem_cons_succ, List.getElem_cons_zero, Act.put, List.setIfInBounds_toArray, List.set_cons_zero, List.set_cons_succ])
      refine AnyG_done (by kernel_rfl) ?_ _
      clear hBeld
      clear x0 x1 x2 y0 y1 y2 f0 f1 f2
      have hGW : w2.heap.size + 1 ≤ g1 := by have := HG1.out; have := HS3.out; omega
      have HGW := Lib.hid hGW
      clear hGW
      have hT6 : TRow (((w5.setCell ⟨g1, 0, none⟩ (.int .i64 (F : Int))).setCell ⟨g1, 1, none⟩ (.int .i64 (L : Int))).setCell ⟨g1, 2, none⟩ (.int .u64 (D : Int))).drew g1 F L D MA := ((HT1.out.set0 F).set1 L).set2 D
      have hU6 : TRow (((w5.setCell ⟨g1, 0, none⟩ (.int .i64 (F : Int))).setCell ⟨g1, 1, none⟩ (.int .i64 (L : Int))).setCell ⟨g1, 2, none⟩ (.int .u64 (D : Int))).drew g2 loB hiB db MB := Whole.far (Whole.far (Whole.far HT2.out (a := ⟨g1, 0, none⟩) (fun e => hne e.symm) _) (a := ⟨g1, 1, none⟩) (fun e => hne e.symm) _) (a := ⟨g1, 2, none⟩) (fun e => hne e.symm) _
      have hb6 : Below g1 w5 (((w5.setCell ⟨g1, 0, none⟩ (.int .i64 (F : Int))).setCell ⟨g1, 1, none⟩ (.int .i64 (L : Int))).setCell ⟨g1, 2, none⟩ (.int .u64 (D : Int))).drew := ((((Below.refl g1 w5).setCell (p := ⟨g1, 0, none⟩) (Nat.le_refl _) _).setCell (p := ⟨g1, 1, none⟩) (Nat.le_refl _) _).setCell (p := ⟨g1, 2, none⟩) (Nat.le_refl _) _).drew
      have HM6 : Hid (Mc w (((w5.setCell ⟨g1, 0, none⟩ (.int .i64 (F : Int))).setCell ⟨g1, 1, none⟩ (.int .i64 (L : Int))).setCell ⟨g1, 2, none⟩ (.int .u64 (D : Int))).drew (arow false za la da loA hiA (.slice A1 n1 c1) ha) (arow false zb lb db loB hiB (.slice A2 n2 c2) hb) w2.heap.size Z Ln H) := Lib.hid (HM5.out.below hb6 (by have := HG1.out; have := HS3.out; omega))
      have HT6 := Lib.hid hT6
      have HU6 := Lib.hid hU6
      clear hT6 hU6 hb6 HM5 HT1 HT2 eF eL eD
      go_wp2_with fail
      go_loopw [8] (fun kv wr => ∃ k : Nat, kv = .int .i64 k ∧ k ≤ 1440 ∧ TRow wr g1 F L D (fun j => if j < k then MA j && MB j else MA j) ∧ TRow wr g2 loB hiB db MB ∧ Mc w wr (arow false za la da loA hiA (.slice A1 n1 c1) ha) (arow false zb lb db loB hiB (.slice A2 n2 c2) hb) w2.heap.size Z Ln H) (fun kv _ => 1440 - (intOf kv).toNat)
      case atStart => exact ⟨0, rfl, by omega, HT6.out.congr fun j _ => by simp, HU6.out, HM6.out⟩
      case round =>
        obtain ⟨k, rfl, hk, ht, hu, hm⟩ := hrel
        clear HT6 HU6 HM6
        have HM := Lib.hid hm
        have HT := Lib.hid ht
        have HU := Lib.hid hu
        by_cases hk4 : k < 1440
        · have cm := ht.m k hk4
          have cn := hu.m k hk4
          have fm := Whole.frozen ht (3 + k)
          simp only [Nat.lt_irrefl, if_false] at cm
          have k0 : (0 : Int) ≤ (k : Int) := by omega
          have k1 : (k : Int) < 1440 := by omega
          have HW : Hid (∀ b, b = (MA k && MB k) → TRow (wr.setCell ⟨g1, 3 + k, none⟩ (.bool b)).drew g1 F L D (fun j => if j < k + 1 then MA j && MB j else MA j) ∧ TRow (wr.setCell ⟨g1, 3 + k, none⟩ (.bool b)).drew g2 loB hiB db MB ∧ Mc w (wr.setCell ⟨g1, 3 + k, none⟩ (.bool b)).drew (arow false za la da loA hiA (.slice A1 n1 c1) ha) (arow false zb lb db loB hiB (.slice A2 n2 c2) hb) w2.heap.size Z Ln H) := Lib.hid fun b hb => by
            subst hb
            refine ⟨(TRow.setm HT.out k hk4 _).congr fun j _ => ?_, Whole.far HU.out (a := ⟨g1, 3 + k, none⟩) (fun e => hne e.symm) _, HM.out.below ((Below.refl g1 wr).setCell (p := ⟨g1, 3 + k, none⟩) (Nat.le_refl _) _).drew HGW.out⟩
            by_cases e : j = k
            · subst e; rw [if_pos rfl, if_pos (by omega)]
            · rw [if_neg e]
              by_cases h : j < k
              · rw [if_pos h, if_pos (by omega)]
              · rw [if_neg h, if_neg (by omega)]
          generalize MA k = X at *
          generalize MB k = Y at *
          clear ht hu hm
          go_wp2_with fail
          cases X
          · have HF := Lib.hid (HW.out false rfl)
            clear HW
            refine wp_region_G (fun W : World => W.cell? ⟨g1, 3 + k, none⟩ = some (.bool false) ∧ W.cell? ⟨g2, 3 + k, none⟩ = some (.bool Y)) (fun _ => True) [19] (by kernel_rfl) ?_
            have hHeld : (fun W : World => W.cell? ⟨g1, 3 + k, none⟩ = some (.bool false) ∧ W.cell? ⟨g2, 3 + k, none⟩ = some (.bool Y)) (wr.drew) := ⟨cm, cn⟩
            have hBeld : (fun _ : World => True) (wr.drew) := trivial
            apply AnyG_pure (i := 0) rfl (by kernel_rfl) (by kernel_rfl) (by kernel_rfl) (by kernel_rfl)
            case hQ => exact fun _ _ _ h => h
            case hB => exact hBeld
            case hC => exact .inr hHeld
            case hy => (refine Or.inl ⟨by rfl, ?_⟩; intro w hSw; (try go_split_ands); go_simp; (try with_reducible rfl))
            (try simp only [List.getElem_toArray, List.getElem_cons_zero, Act.put, List.setIfInBounds_toArray, List.set_cons_zero, List.set_cons_succ])
            apply AnyG_pure (i := 1) rfl (by kernel_rfl) (by kernel_rfl) (by kernel_rfl) (by kernel_rfl)
            case hQ => exact fun _ _ _ h => h
            case hB => exact hBeld
            case hC => exact .inr hHeld
            case hy => (refine Or.inl ⟨by rfl, ?_⟩; intro w hSw; (try go_split_ands); go_simp; (try with_reducible rfl))
            (try simp only [List.getElem_toArray, List.getElem_cons_succ, List.getElem_cons_zero, Act.put, List.setIfInBounds_toArray, List.set_cons_zero, List.set_cons_succ])
            apply AnyG_pure (i := 2) rfl (by kernel_rfl) (by kernel_rfl) (by kernel_rfl) (by kernel_rfl)
            case hQ => exact fun _ _ _ h => h
            case hB => exact hBeld
            case hC => exact .inr hHeld
            case hy => (refine Or.inl ⟨by rfl, ?_⟩; intro w hSw; (try go_split_ands); go_simp; (try with_reducible rfl))
            (try simp only [List.getElem_toArray, List.getElem_cons_succ, List.getElem_cons_zero, Act.put, List.setIfInBounds_toArray, List.set_cons_zero, List.set_cons_succ])
            apply AnyG_pure (i := 3) rfl (by kernel_rfl) (by kernel_rfl) (by kernel_rfl) (by kernel_rfl)
            case hQ => exact fun _ _ _ h => h
            case hB => exact hBeld
            case hC => exact .inr hHeld
            case hy => (refine Or.inl ⟨by rfl, ?_⟩; intro w hSw; (try go_split_ands); go_simp; (try with_reducible rfl))
            (try simp only [List.getElem_toArray, List.getElem_cons_succ, List.getElem_cons_zero, Act.put, List.setIfInBounds_toArray, List.set_cons_zero, List.set_cons_succ])
            apply AnyG_pure (i := 4) rfl (by kernel_rfl) (by kernel_rfl) (by kernel_rfl) (by kernel_rfl)
            case hQ => exact fun _ _ _ h => h
            case hB => exact hBeld
            case hC => exact .inr hHeld
            case hy => (refine Or.inl ⟨by rfl, ?_⟩; intro w hSw; (try go_split_ands); go_simp; (try with_reducible rfl))
            (try simp only [List.getElem_toArray, List.getElem_cons_succ, List.getElem_cons_zero, Act.put, List.setIfInBounds_toArray, List.set_cons_zero, List.set_cons_succ])
            apply AnyG_pure (i := 5) rfl (by kernel_rfl) (by kernel_rfl) (by kernel_rfl) (by kernel_rfl)
            case hQ => exact fun _ _ _ h => h
            case hB => exact hBeld
            case hC => exact .inr hHeld
            case hy => (refine Or.inl ⟨by rfl, ?_⟩; intro w hSw; (try go_split_ands); go_simp; (try with_reducible rfl))
            (try simp only [List.getElem_toArray, List.getElem_cons_succ, List.getElem_cons_zero, Act.put, List.setIfInBounds_toArray, List.set_cons_zero, List.set_cons_succ])
            apply AnyG_pure (i := 6) rfl (by kernel_rfl) (by kernel_rfl) (by kernel_rfl) (by kernel_rfl)
            case hQ => exact fun _ _ _ h => h
            case hB => exact hBeld
            case hC => exact .inr hHeld
            case hy => (refine Or.inl ⟨by rfl, ?_⟩; intro w hSw; (try go_split_ands); go_simp; (try with_reducible rfl))
            (try simp only [List.getElem_toArray, List.getElem_cons_succ, List.getElem_cons_zero, Act.put, List.setIfInBounds_toArray, List.set_cons_zero, List.set_cons_succ])
            apply AnyG_take (i := 7) rfl (by kernel_rfl) (by kernel_rfl) (by kernel_rfl) (by kernel_rfl)
            case hQ => exact fun _ _ _ h => h
            case hB => exact hBeld
            case hC => exact hHeld
            case hy => (refine Or.inl ⟨by rfl, ?_⟩; intro w hSw; go_split_ands; go_simp; (try with_reducible rfl))
            (try simp only [List.getElem_toArray, List.getElem_cons_succ, List.getElem_cons_zero, Act.put, List.setIfInBounds_toArray, List.set_cons_zero, List.set_cons_succ])
            apply AnyG_pure (i := 8) rfl (by kernel_rfl) (by kernel_rfl) (by kernel_rfl) (by kernel_rfl)
            case hQ => exact fun _ _ _ h => h
            case hB => exact hBeld
            case hC => exact .inr hHeld
            case hy => (refine Or.inl ⟨by rfl, ?_⟩; intro w hSw; (try go_split_ands); go_simp; (try with_reducible rfl))
            (try simp only [List.getElem_toArray, List.getElem_cons_succ, List.getElem_cons_zero, Act.put, List.setIfInBounds_toArray, List.set_cons_zero, List.set_cons_succ])
            apply AnyG_pure (i := 9) rfl (by kernel_rfl) (by kernel_rfl) (by kernel_rfl) (by kernel_rfl)
            case hQ => exact fun _ _ _ h => h
            case hB => exact hBeld
            case hC => exact .inr hHeld
            case hy => exact Or.inr ⟨by rfl, rfl⟩
            (try simp only [List.getElem_toArray, List.getElem_cons_succ, List.getElem_cons_zero, Act.put, List.setIfInBounds_toArray, List.set_cons_zero, List.set_cons_succ])
            apply AnyG_pure (i := 10) rfl (by kernel_rfl) (by kernel_rfl) (by kernel_rfl) (by kernel_rfl)
            case hQ => exact fun _ _ _ h => h
            case hB => exact hBeld
            case hC => exact .inr hHeld
            case hy => exact Or.inr ⟨by rfl, rfl⟩
            (try simp only [List.getElem_toArray, List.getElem_cons_succ, List.getElem_cons_zero, Act.put, List.setIfInBounds_toArray, List.set_cons_zero, List.set_cons_succ])
            apply AnyG_pure (i := 11) rfl (by kernel_rfl) (by kernel_rfl) (by kernel_rfl) (by kernel_rfl)
            case hQ => exact fun _ _ _ h => h
            case hB => exact hBeld
            case hC => exact .inr hHeld
            case hy => exact Or.inr ⟨by rfl, rfl⟩
            (try simp only [List.getElem_toArray, List.getElem_cons_succ, List.getElem_cons_zero, Act.put, List.setIfInBounds_toArray, List.set_cons_zero, List.set_cons_succ])
            apply AnyG_pure (i := 12) rfl (by kernel_rfl) (by kernel_rfl) (by kernel_rfl) (by kernel_rfl)
            case hQ => exact fun _ _ _ h => h
            case hB => exact hBeld
            case hC => exact .inr hHeld
            case hy => exact Or.inr ⟨by rfl, rfl⟩
            (try simp only [List.getElem_toArray, List.getElem_cons_succ, List.getElem_cons_zero, Act.put, List.setIfInBounds_toArray, List.set_cons_zero, List.set_cons_succ])
            apply AnyG_pure (i := 13) rfl (by kernel_rfl) (by kernel_rfl) (by kernel_rfl) (by kernel_rfl)
            case hQ => exact fun _ _ _ h => h
            case hB => exact hBeld
            case hC => exact .inr hHeld
            case hy => exact Or.inr ⟨by rfl, rfl⟩
            (try simp only [List.getElem_toArray, List.getElem_cons_succ, List.getElem_cons_zero, Act.put, List.setIfInBounds_toArray, List.set_cons_zero, List.set_cons_succ])
            apply AnyG_pure (i := 14) rfl (by kernel_rfl) (by kernel_rfl) (by kernel_rfl) (by kernel_rfl)
            case hQ => exact fun _ _ _ h => h
            case hB => exact hBeld
            case hC => exact .inr hHeld
            case hy => exact Or.inr ⟨by rfl, rfl⟩
            (try simp only [List.getElem_toArray, List.getElem_cons_succ, List.getElem_cons_zero, Act.put, List.setIfInBounds_toArray, List.set_cons_zero, List.set_cons_succ])
            apply AnyG_pure (i := 15) rfl (by kernel_rfl) (by kernel_rfl) (by kernel_rfl) (by kernel_rfl)
            case hQ => exact fun _ _ _ h => h
            case hB => exact hBeld
            case hC => exact .inr hHeld
            case hy => (refine Or.inl ⟨by rfl, ?_⟩; intro w hSw; (try go_split_ands); go_simp; (try with_reducible rfl))
            (try simp only [List.getElem_toArray, List.getElem_cons_succ, List.getElem_cons_zero, Act.put, List.setIfInBounds_toArray, List.set_cons_zero, List.set_cons_succ])
            apply AnyG_pure (i := 16) rfl (by kernel_rfl) (by kernel_rfl) (by kernel_rfl) (by kernel_rfl)
            case hQ => exact fun _ _ _ h => h
            case hB => exact hBeld
            case hC => exact .inr hHeld
            case hy => (refine Or.inl ⟨by rfl, ?_⟩; intro w hSw; (try go_split_ands); go_simp; (try with_reducible rfl))
            (try simp only [List.getElem_toArray, List.getElem_cons_succ, List.getElem_cons_zero, Act.put, List.setIfInBounds_toArray, List.set_cons_zero, List.set_cons_succ])
            apply AnyG_pure (i := 17) rfl (by kernel_rfl) (by kernel_rfl) (by kernel_rfl) (by kernel_rfl)
            case hQ => exact fun _ _ _ h => h
            case hB => exact hBeld
            case hC => exact .inr hHeld
            case hy => (refine Or.inl ⟨by rfl, ?_⟩; intro w hSw; (try go_split_ands); go_simp; (try with_reducible rfl))
            (try simp only [List.getElem_toArray, List.getElem_cons_succ, List.getElem_cons_zero, Act.put, List.setIfInBounds_toArray, List.set_cons_zero, List.set_cons_succ])
            apply AnyG_pure (i := 18) rfl (by kernel_rfl) (by kernel_rfl) (by kernel_rfl) (by kernel_rfl)
            case hQ => exact fun _ _ _ h => h
            case hB => exact hBeld
            case hC => exact .inr hHeld
            case hy => (refine Or.inl ⟨by rfl, ?_⟩; intro w hSw; (try go_split_ands); go_simp; (try with_reducible rfl))
            (try simp only [List.getElem_toArray, List.getElem_cons_succ, List.getElem_cons_zero, Act.put, List.setIfInBounds_toArray, List.set_cons_zero, List.set_cons_succ])
            refine AnyG_one (i := 19) (by kernel_rfl) rfl (fun K hK => ?_)
            (try simp only [List.getElem_toArray, List.getElem_cons_succ, List.getElem_cons_zero])
            go_simp
            clear hHeld
            refine hK.out _ _ (.inl (by kernel_rfl)) (trivial) ?_
            clear hK K
            (try simp only [List.getElem_toArray, List.getElem_cons_succ, List.getElem_cons_zero, Act.put, List.setIfInBounds_toArray, List.set_cons_zero, List.set_cons_succ])
            refine AnyG_done (by kernel_rfl) ?_ _
            clear hBeld
            go_wp2_with fail
            go_roundw
            case rel => exact ⟨k + 1, by go_num, by omega, HF.out.1, HF.out.2.1, HF.out.2.2⟩
            case measure => simp [intOf]; omega
          · have HF := Lib.hid (HW.out Y (by simp))
            clear HW
            refine wp_region_G (fun W : World => W.cell? ⟨g1, 3 + k, none⟩ = some (.bool true) ∧ W.cell? ⟨g2, 3 + k, none⟩ = some (.bool Y)) (fun _ => True) [19] (by kernel_rfl) ?_
            have hHeld : (fun W : World => W.cell? ⟨g1, 3 + k, none⟩ = some (.bool true) ∧ W.cell? ⟨g2, 3 + k, none⟩ = some (.bool Y)) (wr.drew) := ⟨cm, cn⟩
            have hBeld : (fun _ : World => True) (wr.drew) := trivial
            apply AnyG_pure (i := 0) rfl (by kernel_rfl) (by kernel_rfl) (by kernel_rfl) (by kernel_rfl)
            case hQ => exact fun _ _ _ h => h
            case hB => exact hBeld
            case hC => exact .inr hHeld
            case hy => (refine Or.inl ⟨by rfl, ?_⟩; intro w hSw; (try go_split_ands); go_simp; (try with_reducible rfl))
            (try simp only [List.getElem_toArray, List.getElem_cons_zero, Act.put, List.setIfInBounds_toArray, List.set_cons_zero, List.set_cons_succ])
            apply AnyG_pure (i := 1) rfl (by kernel_rfl) (by kernel_rfl) (by kernel_rfl) (by kernel_rfl)
            case hQ => exact fun _ _ _ h => h
            case hB => exact hBeld
            case hC => exact .inr hHeld
            case hy => (refine Or.inl ⟨by rfl, ?_⟩; intro w hSw; (try go_split_ands); go_simp; (try with_reducible rfl))
            (try simp only [List.getElem_toArray, List.getElem_cons_succ, List.getElem_cons_zero, Act.put, List.setIfInBounds_toArray, List.set_cons_zero, List.set_cons_succ])
            apply AnyG_pure (i := 2) rfl (by kernel_rfl) (by kernel_rfl) (by kernel_rfl) (by kernel_rfl)
            case hQ => exact fun _ _ _ h => h
            case hB => exact hBeld
            case hC => exact .inr hHeld
            case hy => (refine Or.inl ⟨by rfl, ?_⟩; intro w hSw; (try go_split_ands); go_simp; (try with_reducible rfl))
            (try simp only [List.getElem_toArray, List.getElem_cons_succ, List.getElem_cons_zero, Act.put, List.setIfInBounds_toArray, List.set_cons_zero, List.set_cons_succ])
            apply AnyG_pure (i := 3) rfl (by kernel_rfl) (by kernel_rfl) (by kernel_rfl) (by kernel_rfl)
            case hQ => exact fun _ _ _ h => h
            case hB => exact hBeld
            case hC => exact .inr hHeld
            case hy => (refine Or.inl ⟨by rfl, ?_⟩; intro w hSw; (try go_split_ands); go_simp; (try with_reducible rfl))
            (try simp only [List.getElem_toArray, List.getElem_cons_succ, List.getElem_cons_zero, Act.put, List.setIfInBounds_toArray, List.set_cons_zero, List.set_cons_succ])
            apply AnyG_pure (i := 4) rfl (by kernel_rfl) (by kernel_rfl) (by kernel_rfl) (by kernel_rfl)
            case hQ => exact fun _ _ _ h => h
            case hB => exact hBeld
            case hC => exact .inr hHeld
            case hy => (refine Or.inl ⟨by rfl, ?_⟩; intro w hSw; (try go_split_ands); go_simp; (try with_reducible rfl))
            (try simp only [List.getElem_toArray, List.getElem_cons_succ, List.getElem_cons_zero, Act.put, List.setIfInBounds_toArray, List.set_cons_zero, List.set_cons_succ])
            apply AnyG_pure (i := 5) rfl (by kernel_rfl) (by kernel_rfl) (by kernel_rfl) (by kernel_rfl)
            case hQ => exact fun _ _ _ h => h
            case hB => exact hBeld
            case hC => exact .inr hHeld
            case hy => (refine Or.inl ⟨by rfl, ?_⟩; intro w hSw; (try go_split_ands); go_simp; (try with_reducible rfl))
            (try simp only [List.getElem_toArray, List.getElem_cons_succ, List.getElem_cons_zero, Act.put, List.setIfInBounds_toArray, List.set_cons_zero, List.set_cons_succ])
            apply AnyG_pure (i := 6) rfl (by kernel_rfl) (by kernel_rfl) (by kernel_rfl) (by kernel_rfl)
            case hQ => exact fun _ _ _ h => h
            case hB => exact hBeld
            case hC => exact .inr hHeld
            case hy => (refine Or.inl ⟨by rfl, ?_⟩; intro w hSw; (try go_split_ands); go_simp; (try with_reducible rfl))
            (try simp only [List.getElem_toArray, List.getElem_cons_succ, List.getElem_cons_zero, Act.put, List.setIfInBounds_toArray, List.set_cons_zero, List.set_cons_succ])
            apply AnyG_take (i := 7) rfl (by kernel_rfl) (by kernel_rfl) (by kernel_rfl) (by kernel_rfl)
            case hQ => exact fun _ _ _ h => h
            case hB => exact hBeld
            case hC => exact hHeld
            case hy => (refine Or.inl ⟨by rfl, ?_⟩; intro w hSw; go_split_ands; go_simp; (try with_reducible rfl))
            (try simp only [List.getElem_toArray, List.getElem_cons_succ, List.getElem_cons_zero, Act.put, List.setIfInBounds_toArray, List.set_cons_zero, List.set_cons_succ])
            apply AnyG_pure (i := 8) rfl (by kernel_rfl) (by kernel_rfl) (by kernel_rfl) (by kernel_rfl)
            case hQ => exact fun _ _ _ h => h
            case hB => exact hBeld
            case hC => exact .inr hHeld
            case hy => (refine Or.inl ⟨by rfl, ?_⟩; intro w hSw; (try go_split_ands); go_simp; (try with_reducible rfl))
            (try simp only [List.getElem_toArray, List.getElem_cons_succ, List.getElem_cons_zero, Act.put, List.setIfInBounds_toArray, List.set_cons_zero, List.set_cons_succ])
            apply AnyG_pure (i := 9) rfl (by kernel_rfl) (by kernel_rfl) (by kernel_rfl) (by kernel_rfl)
            case hQ => exact fun _ _ _ h => h
            case hB => exact hBeld
            case hC => exact .inr hHeld
            case hy => (refine Or.inl ⟨by rfl, ?_⟩; intro w hSw; (try go_split_ands); go_simp; (try with_reducible rfl))
            (try simp only [List.getElem_toArray, List.getElem_cons_succ, List.getElem_cons_zero, Act.put, List.setIfInBounds_toArray, List.set_cons_zero, List.set_cons_succ])
            apply AnyG_pure (i := 10) rfl (by kernel_rfl) (by kernel_rfl) (by kernel_rfl) (by kernel_rfl)
            case hQ => exact fun _ _ _ h => h
            case hB => exact hBeld
            case hC => exact .inr hHeld
            case hy => (refine Or.inl ⟨by rfl, ?_⟩; intro w hSw; (try go_split_ands); go_simp; (try with_reducible rfl))
            (try simp only [List.getElem_toArray, List.getElem_cons_succ, List.getElem_cons_zero, Act.put, List.setIfInBounds_toArray, List.set_cons_zero, List.set_cons_succ])
            apply AnyG_pure (i := 11) rfl (by kernel_rfl) (by kernel_rfl) (by kernel_rfl) (by kernel_rfl)
            case hQ => exact fun _ _ _ h => h
            case hB => exact hBeld
            case hC => exact .inr hHeld
            case hy => (refine Or.inl ⟨by rfl, ?_⟩; intro w hSw; (try go_split_ands); go_simp; (try with_reducible rfl))
            (try simp only [List.getElem_toArray, List.getElem_cons_succ, List.getElem_cons_zero, Act.put, List.setIfInBounds_toArray, List.set_cons_zero, List.set_cons_succ])
            apply AnyG_pure (i := 12) rfl (by kernel_rfl) (by kernel_rfl) (by kernel_rfl) (by kernel_rfl)
            case hQ => exact fun _ _ _ h => h
            case hB => exact hBeld
            case hC => exact .inr hHeld
            case hy => (refine Or.inl ⟨by rfl, ?_⟩; intro w hSw; (try go_split_ands); go_simp; (try with_reducible rfl))
            (try simp only [List.getElem_toArray, List.getElem_cons_succ, List.getElem_cons_zero, Act.put, List.setIfInBounds_toArray, List.set_cons_zero, List.set_cons_succ])
            apply AnyG_pure (i := 13) rfl (by kernel_rfl) (by kernel_rfl) (by kernel_rfl) (by kernel_rfl)
            case hQ => exact fun _ _ _ h => h
            case hB => exact hBeld
            case hC => exact .inr hHeld
            case hy => (refine Or.inl ⟨by rfl, ?_⟩; intro w hSw; (try go_split_ands); go_simp; (try with_reducible rfl))
            (try simp only [List.getElem_toArray, List.getElem_cons_succ, List.getElem_cons_zero, Act.put, List.setIfInBounds_toArray, List.set_cons_zero, List.set_cons_succ])
            apply AnyG_take (i := 14) rfl (by kernel_rfl) (by kernel_rfl) (by kernel_rfl) (by kernel_rfl)
            case hQ => exact fun _ _ _ h => h
            case hB => exact hBeld
            case hC => exact hHeld
            case hy => (refine Or.inl ⟨by rfl, ?_⟩; intro w hSw; go_split_ands; go_simp; (try with_reducible rfl))
            (try simp only [List.getElem_toArray, List.getElem_cons_succ, List.getElem_cons_zero, Act.put, List.setIfInBounds_toArray, List.set_cons_zero, List.set_cons_succ])
            apply AnyG_pure (i := 15) rfl (by kernel_rfl) (by kernel_rfl) (by kernel_rfl) (by kernel_rfl)
            case hQ => exact fun _ _ _ h => h
            case hB => exact hBeld
            case hC => exact .inr hHeld
            case hy => (refine Or.inl ⟨by rfl, ?_⟩; intro w hSw; (try go_split_ands); go_simp; (try with_reducible rfl))
            (try simp only [List.getElem_toArray, List.getElem_cons_succ, List.getElem_cons_zero, Act.put, List.setIfInBounds_toArray, List.set_cons_zero, List.set_cons_succ])
            apply AnyG_pure (i := 16) rfl (by kernel_rfl) (by kernel_rfl) (by kernel_rfl) (by kernel_rfl)
            case hQ => exact fun _ _ _ h => h
            case hB => exact hBeld
            case hC => exact .inr hHeld
            case hy => (refine Or.inl ⟨by rfl, ?_⟩; intro w hSw; (try go_split_ands); go_simp; (try with_reducible rfl))
            (try simp only [List.getElem_toArray, List.getElem_cons_succ, List.getElem_cons_zero, Act.put, List.setIfInBounds_toArray, List.set_cons_zero, List.set_cons_succ])
            apply AnyG_pure (i := 17) rfl (by kernel_rfl) (by kernel_rfl) (by kernel_rfl) (by kernel_rfl)
            case hQ => exact fun _ _ _ h => h
            case hB => exact hBeld
            case hC => exact .inr hHeld
            case hy => (refine Or.inl ⟨by rfl, ?_⟩; intro w hSw; (try go_split_ands); go_simp; (try with_reducible rfl))
            (try simp only [List.getElem_toArray, List.getElem_cons_succ, List.getElem_cons_zero, Act.put, List.setIfInBounds_toArray, List.set_cons_zero, List.set_cons_succ])
            apply AnyG_pure (i := 18) rfl (by kernel_rfl) (by kernel_rfl) (by kernel_rfl) (by kernel_rfl)
            case hQ => exact fun _ _ _ h => h
            case hB => exact hBeld
            case hC => exact .inr hHeld
            case hy => (refine Or.inl ⟨by rfl, ?_⟩; intro w hSw; (try go_split_ands); go_simp; (try with_reducible rfl))
            (try simp only [List.getElem_toArray, List.getElem_cons_succ, List.getElem_cons_zero, Act.put, List.setIfInBounds_toArray, List.set_cons_zero, List.set_cons_succ])
            refine AnyG_one (i := 19) (by kernel_rfl) rfl (fun K hK => ?_)
            (try simp only [List.getElem_toArray, List.getElem_cons_succ, List.getElem_cons_zero])
            go_simp
            clear hHeld
            refine hK.out _ _ (.inl (by kernel_rfl)) (trivial) ?_
            clear hK K
            (try simp only [List.getElem_toArray, List.getElem_cons_succ, List.getElem_cons_zero, Act.put, List.setIfInBounds_toArray, List.set_cons_zero, List.set_cons_succ])
            refine AnyG_done (by kernel_rfl) ?_ _
            clear hBeld
            go_wp2_with fail
            go_roundw
            case rel => exact ⟨k + 1, by go_num, by omega, HF.out.1, HF.out.2.1, HF.out.2.2⟩
            case measure => simp [intOf]; omega
        · obtain rfl : k = 1440 := by omega
          have HT2 : Hid (TRow wr g1 F L D (fun j => MA j && MB j)) := Lib.hid (ht.congr fun j hj => by rw [if_pos hj])
          have x0 := TRow.c0 HT2.out
          have x1 := TRow.c1 HT2.out
          obtain ⟨a0, a1, a2, a3, a4, a5, a6, a7⟩ := ARow.cells hm.c
          clear ht hu hm HT a0 a3 a4 a5 a6 a7
          go_wp2_with fail
          go_cut [148] (fun v wx => v = .bool (decide (Z = 0 ∨ Ln = 0 ∨ L < F)) ∧ ∃ N, wx = wr.drewN N)
          case first =>
            by_cases h1 : Z = 0
            · have HJ : Hid (Value.bool true = Value.bool (decide (Z = 0 ∨ Ln = 0 ∨ L < F))) := Lib.hid (by rw [decide_eq_true (p := _ ∨ _) (.inl h1)])
              have t1 : ((Z : Int) == 0) = true := beq_iff_eq.2 (by omega)
              clear h1
              go_big_quiet (fail)
              go_wp2
              go_meet
              exact ⟨HJ.out, _, rfl⟩
            have t1 : ((Z : Int) == 0) = false := beq_eq_false_iff_ne.2 (by omega)
            by_cases h2 : Ln = 0
            · have HJ : Hid (Value.bool true = Value.bool (decide (Z = 0 ∨ Ln = 0 ∨ L < F))) := Lib.hid (by rw [decide_eq_true (p := _ ∨ _) (.inr (.inl h2))])
              have t2 : ((Ln : Int) == 0) = true := beq_iff_eq.2 (by omega)
              clear h1 h2
              go_big_quiet (fail)
              go_wp2
              go_meet
              exact ⟨HJ.out, _, rfl⟩
            have t2 : ((Ln : Int) == 0) = false := beq_eq_false_iff_ne.2 (by omega)
            by_cases h3 : L < F
            · have HJ : Hid (Value.bool true = Value.bool (decide (Z = 0 ∨ Ln = 0 ∨ L < F))) := Lib.hid (by rw [decide_eq_true (p := _ ∨ _) (.inr (.inr h3))])
              have t3 : decide (L < F) = true := decide_eq_true h3
              clear h1 h2 h3
              go_big_quiet (fail)
              go_wp2
              go_meet
              exact ⟨HJ.out, _, rfl⟩
            · have HJ : Hid (Value.bool false = Value.bool (decide (Z = 0 ∨ Ln = 0 ∨ L < F))) := Lib.hid (by rw [decide_eq_false (p := _ ∨ _) (fun h => h.elim h1 fun h => h.elim h2 h3)])
              have t3 : decide (L < F) = false := decide_eq_false h3
              clear h1 h2 h3
              go_big_quiet (fail)
              go_wp2
              go_meet
              exact ⟨HJ.out, _, rfl⟩
          case rest =>
            obtain ⟨rfl, N, rfl⟩ := hcut
            have HM2 : Hid (Mc w (wr.drewN N) (arow false za la da loA hiA (.slice A1 n1 c1) ha) (arow false zb lb db loB hiB (.slice A2 n2 c2) hb) w2.heap.size Z Ln H) := Lib.hid (HM.out.below (below_drewN (Below.refl g1 wr) N) HGW.out)
            have HT3 : Hid (TRow (wr.drewN N) g1 F L D (fun j => MA j && MB j)) := Lib.hid HT2.out
            clear x0 x1 a1 a2 HM HU HT2
            by_cases hz : Z = 0 ∨ Ln = 0 ∨ L < F
            · rw [decide_eq_true hz]
              have HZ := Lib.hid hz
              clear hz
              go_wp2_with (with_reducible refine wpList_store_aut rfl _ _ rfl (g := w.heap.size + 2) rfl rfl HM2.out.m.z (by with_unfolding_all rfl) (by with_unfolding_all rfl) (by with_unfolding_all rfl) ?_)
              refine bodyPost_ret (results_aut (g := w.heap.size + 2) Try.results24 _ rfl rfl (Whole.setRow HM2.out.m.z _)) rfl ?_
              exact ⟨⟨_, rfl, .inl ⟨HZ.out, by rw [← HSN.out]⟩⟩, below_setRow HM2.out.m.low (by omega) _⟩
            · rw [decide_eq_false hz]
              have hz3 : ¬ Z = 0 ∧ ¬ Ln = 0 ∧ F ≤ L := ⟨fun h => hz (.inl h), fun h => hz (.inr (.inl h)), by omega⟩
              have hclo := rclosed Z Ln 0 0 0 (.slice none 0 0) H g1 F L D (fun j => MA j && MB j) (by have := HFL.out.2; omega) hz3.2.2 (wr.drewN N) HT3.out
              have HZ := Lib.hid hz3
              obtain ⟨a0, a1, a2, a3, a4, a5, a6, a7⟩ := ARow.cells HM2.out.c
              clear hz hz3
              go_wp2_with fail
              refine hclo.mono ?_
              rintro e w9 ⟨⟨y, rfl, hy⟩, hb9⟩
              have hlt := HM2.out.m.z.lt
              have HZ9 : Hid (ARow w9 (w.heap.size + 2) false 0 0 0 0 0 (.slice none 0 0) []) := Lib.hid (Whole.below HM2.out.m.z hb9 hlt)
              have HB9 : Hid (Below w.heap.size w w9) := Lib.hid (HM2.out.m.low.trans (hb9.mono HM2.out.m.low.size))
              clear hb9 hclo a0 a1 a2 a3 a4 a5 a6 a7
              rcases hy with ⟨hno, rfl⟩ | ⟨a, A, c, hca, rfl, hsp⟩
              · have HNO := Lib.hid hno
                clear hno
                go_wp2_with (with_reducible refine wpList_store_aut rfl _ _ rfl (g := w.heap.size + 2) rfl rfl HZ9.out (by with_unfolding_all rfl) (by with_unfolding_all rfl) (by with_unfolding_all rfl) ?_)
                refine bodyPost_ret (results_aut (g := w.heap.size + 2) Try.results24 _ rfl rfl (Whole.setRow HZ9.out _)) rfl ?_
                exact ⟨⟨_, rfl, .inr ⟨HZ.out.1, HZ.out.2.1, HZ.out.2.2, .inl ⟨HNO.out, rfl⟩⟩⟩, below_setRow HB9.out (by omega) _⟩
              · have HCA := Lib.hid hca
                have HSP : Hid (∀ r, Spn (w9.setRow (w.heap.size + 2) r) (fun b => w.heap.size ≤ b) A c a.daily) := Lib.hid fun r => (hsp.keep (by simp) (fun b _ hb => setRow_other w9 (w.heap.size + 2) b _ (by omega))).mono fun b _ hb => by omega
                clear hca hsp
                go_wp2_with (with_reducible refine wpList_store_aut rfl _ _ rfl (g := w.heap.size + 2) rfl rfl HZ9.out (by with_unfolding_all rfl) (by with_unfolding_all rfl) (by with_unfolding_all rfl) ?_)
                refine bodyPost_ret (results_aut (g := w.heap.size + 2) Try.results24 _ rfl rfl (Whole.setRow HZ9.out _)) rfl ?_
                exact ⟨⟨_, rfl, .inr ⟨HZ.out.1, HZ.out.2.1, HZ.out.2.2, .inr ⟨a, A, c, HCA.out, rfl, HSP.out _⟩⟩⟩, below_setRow HB9.out (by omega) _⟩
end Go.Proofs.Ytedjbjplnjnnlaa
namespace Go.Proofs.Ytedjbjplnjnnlaa
open Go Go.RowKit Sh Leaf
namespace Sh

theorem both_no {a b : Aut} {RA RB ea eb eq : Bool} (hA : RA = decide (aok a)) (hB : RB = decide (aok b)) (hea : ea = decide (a.holder = [])) (heb : eb = decide (b.holder = [])) (heq : eq = decide (a.holder = b.holder))
    (h : mbad RA RB a.none b.none ea eb eq = true) (c : Ctx) : ¬ both a b c := by
  rintro ⟨h1, h2, h3, h4⟩
  rw [decide_eq_true h1] at hA
  rw [decide_eq_true h2] at hB
  subst hA hB
  rw [h3.1, h4.1] at h
  have k1 := h3.2.2.2.2
  have k2 := h4.2.2.2.2
  have : ea = true ∨ eb = true ∨ eq = true := by
    rw [hea, heb, heq, decide_eq_true_iff, decide_eq_true_iff, decide_eq_true_iff]
    rcases k1 with k1 | k1
    · exact .inl k1
    · rcases k2 with k2 | k2
      · exact .inr (.inl k2)
      · exact .inr (.inr (k1.trans k2.symm))
  rcases this with rfl | rfl | rfl
  · cases h
  · cases ea <;> cases h
  · cases ea <;> cases eb <;> cases h
/-- The fields of both. -/
theorem both_iff {a b : Aut} (ha : aok a) (hb : aok b) (hna : a.none = false) (hnb : b.none = false) {eq : Bool} (heq : eq = decide (a.holder = b.holder)) (hc : a.holder = [] ∨ b.holder = [] ∨ a.holder = b.holder) (c : Ctx) :
    both a b c ↔ hbit (a.zones &&& b.zones) c.zone ∧ hbit (a.lines &&& b.lines) c.line ∧ inT (max a.lo.toNat b.lo.toNat) (min a.hi.toNat b.hi.toNat) (a.days &&& b.days) (fun k => spm a.daily (k : Int) ∧ spm b.daily (k : Int)) c.minute.toNat ∧ ((if eq then a.holder else a.holder ++ b.holder) = [] ∨ (if eq then a.holder else a.holder ++ b.holder) = c.holder) := by
  have ra := aok_rng ha hna
  have rb := aok_rng hb hnb
  have hh : ((if eq then a.holder else a.holder ++ b.holder) = [] ∨ (if eq then a.holder else a.holder ++ b.holder) = c.holder) ↔ (a.holder = [] ∨ a.holder = c.holder) ∧ (b.holder = [] ∨ b.holder = c.holder) := by
    subst heq
    by_cases e : a.holder = b.holder
    · rw [decide_eq_true e]; simp only [if_true]; rw [← e]; exact ⟨fun h => ⟨h, h⟩, fun h => h.1⟩
    · rw [decide_eq_false e]
      simp only [Bool.false_eq_true, if_false]
      rcases hc with h | h | h
      · rw [h, List.nil_append]; simp
      · rw [h, List.append_nil]; simp
      · exact absurd h e
  rw [hh, hbit_and, hbit_and]
  unfold both ina
  rw [hna, hnb, rng_mins ra, rng_mins rb]
  unfold inT
  have hd : ∀ w : Nat, (a.days &&& b.days) / 2 ^ w % 2 = 1 ↔ a.days / 2 ^ w % 2 = 1 ∧ b.days / 2 ^ w % 2 = 1 := fun w => by
    have := hbit_and a.days b.days (w : Int)
    unfold hbit at this
    simpa using this
  rw [hd]
  constructor
  · rintro ⟨_, _, ⟨_, a1, a2, ⟨a3, a4, a5, a6⟩, a7⟩, ⟨_, b1, b2, ⟨b3, b4, b5, b6⟩, b7⟩⟩
    exact ⟨⟨a1, b1⟩, ⟨a2, b2⟩, ⟨by omega, by omega, ⟨a5, b5⟩, ⟨a6, b6⟩⟩, a7, b7⟩
  · rintro ⟨⟨a1, b1⟩, ⟨a2, b2⟩, ⟨h1, h2, ⟨a5, b5⟩, ⟨a6, b6⟩⟩, a7, b7⟩
    exact ⟨ha, hb, ⟨rfl, a1, a2, ⟨by omega, by omega, a5, a6⟩, a7⟩, ⟨rfl, b1, b2, ⟨by omega, by omega, b5, b6⟩, b7⟩⟩
end Sh
theorem rmeet {w : World} {Q1 Q2 : Nat → Prop} {x y : Value} {a b : Aut} (hx : Av w Q1 x a) (hy : Av w Q2 y b) :
    Calls Try.prog 24 #[x, y] w fun e w' => (∃ z m, e = .returned z ∧ Av w' (fun g => w.heap.size ≤ g) z m ∧ IsSet (both a b) m) ∧ Below w.heap.size w w' := by
  have hx0 := hx.any
  have hy0 := hy.any
  obtain ⟨A1, c1, rfl, hS1, hab⟩ := hx
  obtain ⟨A2, c2, rfl, hS2, hbb⟩ := hy
  obtain ⟨w1, hw1⟩ : ∃ w1, w1 = ((w.alloc (.cells (avl a A1 c1) 25)).alloc (.cells (avl b A2 c2) 25)).alloc (.cells #[.bool false, .int .u64 0, .int .u64 0, .int .u64 0, .int .i64 0, .int .i64 0, .slice none 0 0, .string { data := #[] }] 25) := ⟨_, rfl⟩
  have hB : Below w.heap.size w w1 := by rw [hw1]; exact (mt_new w (avl a A1 c1) (avl b A2 c2)).low
  have hav : ∀ W, Below w1.heap.size w1 W → Av W (fun g => g < w.heap.size) (.agg (avl a A1 c1)) a := fun W hb => (hx0.below hB (Nat.le_refl _)).low (hb.mono hB.size)
  have hbv : ∀ W, Below w1.heap.size w1 W → Av W (fun g => g < w.heap.size) (.agg (avl b A2 c2)) b := fun W hb => (hy0.below hB (Nat.le_refl _)).low (hb.mono hB.size)
  have kA : ∀ W, Below w1.heap.size w1 W → Calls Try.prog 14 #[.agg (avl a A1 c1)] W fun e w' => e = .returned (.bool (decide (aok a))) ∧ Below w1.heap.size w1 w' := fun W hb => (raok (hav W hb)).mono fun e w' h => ⟨h.1, hb.trans (h.2.mono hb.size)⟩
  have kB : ∀ W, Below w1.heap.size w1 W → Calls Try.prog 14 #[.agg (avl b A2 c2)] W fun e w' => e = .returned (.bool (decide (aok b))) ∧ Below w1.heap.size w1 w' := fun W hb => (raok (hbv W hb)).mono fun e w' h => ⟨h.1, hb.trans (h.2.mono hb.size)⟩
  have hie : ∀ l : List B8, (sof l).toList.isEmpty = decide (l = []) := fun l => by
    rw [sof_toList]
    cases l <;> simp
  rcases (by cases mbad (decide (aok a)) (decide (aok b)) a.none b.none (decide (a.holder = [])) (decide (b.holder = [])) (decide (a.holder = b.holder)) <;> simp : mbad (decide (aok a)) (decide (aok b)) a.none b.none (decide (a.holder = [])) (decide (b.holder = [])) (decide (a.holder = b.holder)) = true ∨ mbad (decide (aok a)) (decide (aok b)) a.none b.none (decide (a.holder = [])) (decide (b.holder = [])) (decide (a.holder = b.holder)) = false) with hbad | hbad
  · refine (rmeet_bad a.none b.none a.zones a.lines a.days a.lo a.hi b.zones b.lines b.days b.lo b.hi A1 A2 _ c1 _ c2 a.holder b.holder _ _ _ _ _ w w1 hw1 hbad (hie _) (hie _) (sof_beq _ _) kA kB).mono fun e w' h => ?_
    exact ⟨⟨_, .never, h.1, av_never _ _, IsSet.never fun c _ => both_no rfl rfl rfl rfl rfl hbad c⟩, h.2⟩
  · have hok : aok a ∧ aok b ∧ a.none = false ∧ b.none = false ∧ (a.holder = [] ∨ b.holder = [] ∨ a.holder = b.holder) := by
      by_cases h1 : aok a
      · by_cases h2 : aok b
        · rw [decide_eq_true h1, decide_eq_true h2] at hbad
          rcases (by cases a.none <;> simp : a.none = true ∨ a.none = false) with h3 | h3
          · rw [h3] at hbad; cases hbad
          · rcases (by cases b.none <;> simp : b.none = true ∨ b.none = false) with h4 | h4
            · rw [h3, h4] at hbad; cases hbad
            · refine ⟨h1, h2, h3, h4, ?_⟩
              rw [h3, h4] at hbad
              by_cases h5 : a.holder = []
              · exact .inl h5
              · by_cases h6 : b.holder = []
                · exact .inr (.inl h6)
                · by_cases h7 : a.holder = b.holder
                  · exact .inr (.inr h7)
                  · rw [decide_eq_false h5, decide_eq_false h6, decide_eq_false h7] at hbad; cases hbad
        · rw [decide_eq_false h2] at hbad; cases hc : decide (aok a) <;> rw [hc] at hbad <;> cases hbad
      · rw [decide_eq_false h1] at hbad; cases hbad
    obtain ⟨h1, h2, hna, hnb, hcomp⟩ := hok
    obtain ⟨r1, r2, r3, r4, r5, r6, r7, r8, r9, r10, r11⟩ := aok_rng h1 hna
    obtain ⟨q1, q2, q3, q4, q5, q6, q7, q8, q9, q10, q11⟩ := aok_rng h2 hnb
    have l1 : a.holder.length ≤ 1000 := r9.elim (fun h => by rw [h]; simp) fun h => by have := h.2.1; omega
    have l2 : b.holder.length ≤ 1000 := q9.elim (fun h => by rw [h]; simp) fun h => by have := h.2.1; omega
    have ea : avl a A1 c1 = arow false a.zones a.lines a.days (a.lo.toNat : Int) (a.hi.toNat : Int) (.slice A1 a.daily.length c1) a.holder := by
      unfold avl; rw [hna, Int.toNat_of_nonneg r6, Int.toNat_of_nonneg (by omega)]
    have eb : avl b A2 c2 = arow false b.zones b.lines b.days (b.lo.toNat : Int) (b.hi.toNat : Int) (.slice A2 b.daily.length c2) b.holder := by
      unfold avl; rw [hnb, Int.toNat_of_nonneg q6, Int.toNat_of_nonneg (by omega)]
    have tA : ∀ W, Below w.heap.size w W → Calls Try.prog 32 #[.agg (avl a A1 c1)] W fun e w' => e = .returned (.pointer (some ⟨W.heap.size + 1, 0, none⟩)) ∧ TRow w' (W.heap.size + 1) a.lo a.hi a.days (fun k => spb a.daily k) ∧ Below W.heap.size W w' := fun W hb =>
      ttimes a.none a.zones a.lines a.days a.lo a.hi A1 c1 a.daily a.holder W ((hS1.mono (Q' := fun g => g < w.heap.size) (fun g hg _ => hg)).low hb) (aok_bd h1).2
    have tB : ∀ W, Below w.heap.size w W → Calls Try.prog 32 #[.agg (avl b A2 c2)] W fun e w' => e = .returned (.pointer (some ⟨W.heap.size + 1, 0, none⟩)) ∧ TRow w' (W.heap.size + 1) b.lo b.hi b.days (fun k => spb b.daily k) ∧ Below W.heap.size W w' := fun W hb =>
      ttimes b.none b.zones b.lines b.days b.lo b.hi A2 c2 b.daily b.holder W ((hS2.mono (Q' := fun g => g < w.heap.size) (fun g hg _ => hg)).low hb) (aok_bd h2).2
    rw [decide_eq_true h1] at kA hbad
    rw [decide_eq_true h2] at kB hbad
    rw [hna, hnb] at hbad
    rw [show a.lo = ((a.lo.toNat : Nat) : Int) by omega, show a.hi = ((a.hi.toNat : Nat) : Int) by omega] at tA
    rw [show b.lo = ((b.lo.toNat : Nat) : Int) by omega, show b.hi = ((b.hi.toNat : Nat) : Int) by omega] at tB
    rw [ea] at hw1 kA tA ⊢
    rw [eb] at hw1 kB tB ⊢
    refine (rmeet_good a.zones a.lines a.days a.lo.toNat a.hi.toNat b.zones b.lines b.days b.lo.toNat b.hi.toNat A1 A2 _ c1 _ c2 a.holder b.holder _ _ _ (fun k => spb a.daily k) (fun k => spb b.daily k) _ _ _ _ _ _ rfl rfl rfl rfl rfl rfl w w1 hw1 hbad (hie _) (hie _) (sof_beq _ _) hab.1 hbb.1 (by omega) (by omega) (by omega) (by omega) l1 l2 (by omega) (by omega) (by omega) (by omega) kA kB tA tB).mono fun e w' h => ?_
    obtain ⟨⟨x, rfl, hx⟩, hb'⟩ := h
    refine ⟨?_, hb'⟩
    have em : (tm fun k => spb a.daily (k : Int) && spb b.daily (k : Int)) = fun k : Nat => spm a.daily (k : Int) ∧ spm b.daily (k : Int) := funext fun k => propext (by
      show (spb a.daily (k : Int) && spb b.daily (k : Int)) = true ↔ _
      rw [Bool.and_eq_true, spb_iff, spb_iff])
    rw [em] at hx
    have hiff := both_iff h1 h2 hna hnb rfl hcomp
    have hnk : nok (if decide (a.holder = b.holder) = true then a.holder else a.holder ++ b.holder) := by
      by_cases e : a.holder = b.holder
      · rw [decide_eq_true e, if_pos rfl]; exact r9
      · rw [decide_eq_false e]
        simp only [Bool.false_eq_true, if_false]
        rcases hcomp with h | h | h
        · rw [h, List.nil_append]; exact q9
        · rw [h, List.append_nil]; exact r9
        · exact absurd h e
    rcases hx with ⟨hz, rfl⟩ | ⟨hz1, hz2, hz3, hx⟩
    · refine ⟨_, .never, rfl, av_never _ _, IsSet.never fun c _ hc => ?_⟩
      obtain ⟨k1, k2, k3, _⟩ := (hiff c).1 hc
      rcases hz with h | h | h
      · rw [h] at k1; exact hbit_zero _ k1
      · rw [h] at k2; exact hbit_zero _ k2
      · have := k3.1; have := k3.2.1; omega
    · have z1 : a.zones &&& b.zones < 18446744073709551616 := Nat.lt_of_le_of_lt Nat.and_le_left hab.1
      have z2 : a.lines &&& b.lines < 4294967296 := Nat.lt_of_le_of_lt Nat.and_le_left r3
      have hL : min a.hi.toNat b.hi.toNat ≤ 67108864 := by omega
      rcases hx with ⟨h0, rfl⟩ | ⟨m, A, c, hm, rfl, hS⟩
      · refine ⟨_, .never, rfl, av_never _ _, IsSet.never fun c _ hc => h0 _ ((hiff c).1 hc).2.2.1⟩
      · have hset := canon_set hm hz1 z1 hz2 z2 hL hnk
        exact ⟨_, m, rfl, ⟨A, c, rfl, hS, aok_abd hset.1⟩, hset.congr fun c _ => (hiff c).symm⟩
end Go.Proofs.Ytedjbjplnjnnlaa
namespace Go.Proofs.Ytedjbjplnjnnlaa
open Go Go.RowKit Sh Leaf

section
variable {p W : World} {x y : Value} {a b : Aut} {Q1 Q2 : Nat → Prop}
theorem law_rmeet (hb : Below p.heap.size p W) (hx : Av W Q1 x a) (hy : Av W Q2 y b) :
    Calls Try.prog 24 #[x, y] W fun e w' => (∃ z m, e = .returned z ∧ Av w' (fun _ => True) z m ∧ IsSet (both a b) m) ∧ Below p.heap.size p w' ∧ Below W.heap.size W w' :=
  (rmeet hx hy).mono fun _ _ h => by
    obtain ⟨⟨z, m, he, hz, hm⟩, h2⟩ := h
    exact ⟨⟨z, m, he, hz.all, hm⟩, hb.trans (h2.mono hb.size), h2⟩
theorem law_rcon (hb : Below p.heap.size p W) (hx : Av W Q1 x a) {cz cl cm : Int} {cn : List B8} (hc : cn.length ≤ 9223372036854775807) {B : Bool} (e : decide (aok a ∧ cok ⟨cz, cl, cm, cn⟩ ∧ ina a ⟨cz, cl, cm, cn⟩) = B) :
    Calls Try.prog 22 #[x, .agg (crow cz cl cm cn)] W fun e w' => e = .returned (.bool B) ∧ Below p.heap.size p w' ∧ Below W.heap.size W w' :=
  by
  have k := rcon hx ⟨cz, cl, cm, cn⟩ hc
  rw [cv_row, e] at k
  exact k.mono fun _ _ h => ⟨h.1, hb.trans (h.2.mono hb.size), h.2⟩
theorem law_rok (hb : Below p.heap.size p W) (hx : Av W Q1 x a) {B : Bool} (e : decide (aok a) = B) :
    Calls Try.prog 14 #[x] W fun e w' => e = .returned (.bool B) ∧ Below p.heap.size p w' ∧ Below W.heap.size W w' :=
  (raok hx).mono fun _ _ h => ⟨by rw [h.1, e], hb.trans (h.2.mono hb.size), h.2⟩
theorem law_rfull (hb : Below p.heap.size p W) :
    Calls Try.prog 16 #[] W fun e w' => (∃ z, e = .returned z ∧ Av w' (fun _ => True) z fullA) ∧ Below p.heap.size p w' ∧ Below W.heap.size W w' :=
  (rfull W).mono fun _ _ h => by
    obtain ⟨⟨z, he, hz⟩, h2⟩ := h
    exact ⟨⟨z, he, hz.all⟩, hb.trans (h2.mono hb.size), h2⟩
end
end Go.Proofs.Ytedjbjplnjnnlaa
