/-
  The laws' helper spoilt: a caveat with one thing changed.
-/
import Derived.Deep.CutBlock
import Derived.Deep.DeepCutAuto
import Derived.Test.YtodmfippjcfbbaaPk23
import Derived.Test.YtodmfippjcfbbaaPk25
import Derived.Test.YtodmfippjcfbbaaPk3
namespace Go.Proofs.Ytodmfippjcfbbaa
open Go Go.RowKit Sh Leaf

/-- What spoilt leaves ahead of its return. -/
def CspP (w W : World) (Q : Nat → Prop) : Prop := ∃ (y : Cav) (A1 A2 : Option Addr) (c1 c2 : Nat), CvRow W w.heap.size y.third y.first y.party (.slice A1 y.ticket.length c1) (.slice A2 y.box.length c2) ∧ Bytes W (fun b => (b < w.heap.size ∧ Q b) ∨ w.heap.size + 2 ≤ b) (.slice A1 y.ticket.length c1) y.ticket ∧ Bytes W (fun b => (b < w.heap.size ∧ Q b) ∨ w.heap.size + 2 ≤ b) (.slice A2 y.box.length c2) y.box ∧ Cwf y ∧ Below w.heap.size w W ∧ Whole W (w.heap.size + 1) 27 #[.bool false, .int .i64 0, .int .u64 0, .int .i64 0, .int .i64 0, .string { data := #[] }, .int .i64 0, .int .i64 0, .slice none 0 0, .slice none 0 0]
theorem CspP.mk_ {w W : World} {Q : Nat → Prop} {th : Bool} {p : Prd} {pa : Int} {A1 A2 : Option Addr} {x y : List B8} {c1 c2 : Nat} (hr : CvRow W w.heap.size th p pa (.slice A1 x.length c1) (.slice A2 y.length c2)) (h1 : Bytes W (fun b => (b < w.heap.size ∧ Q b) ∨ w.heap.size + 2 ≤ b) (.slice A1 x.length c1) x) (h2 : Bytes W (fun b => (b < w.heap.size ∧ Q b) ∨ w.heap.size + 2 ≤ b) (.slice A2 y.length c2) y)
    (hw : Cwf ⟨th, p, pa, x, y⟩) (hb : Below w.heap.size w W) (hz : Whole W (w.heap.size + 1) 27 #[.bool false, .int .i64 0, .int .u64 0, .int .i64 0, .int .i64 0, .string { data := #[] }, .int .i64 0, .int .i64 0, .slice none 0 0, .slice none 0 0]) : CspP w W Q := ⟨⟨th, p, pa, x, y⟩, A1, A2, c1, c2, hr, h1, h2, hw, hb, hz⟩
set_option linter.unusedSimpArgs false in
set_option linter.unusedVariables false in
set_option maxRecDepth 100000 in
set_option maxHeartbeats 8000000 in
theorem cspoilt {w : World} {Q : Nat → Prop} {v : Value} {x : Cav} (hx : CavV w Q v x) (h : Nat) (hh : h < 256) (n : Int) (hn : -9223372036854775808 ≤ n ∧ n ≤ 9223372036854775807) :
    Calls Try.prog 7 #[v, .int .u8 (h : Int), .int .i64 n] w fun e w' => (∃ u y, e = .returned u ∧ CavV w' (fun b => Q b ∨ w.heap.size ≤ b) u y) ∧ Below w.heap.size w w' := by
  obtain ⟨A1, c1, A2, c2, rfl, hB1, hB2, hw⟩ := hx
  obtain ⟨th, p, pa, ti, bo⟩ := x
  dsimp only at hB1 hB2
  show Calls Try.prog 7 #[.agg (cvrow th p pa (.slice A1 ti.length c1) (.slice A2 bo.length c2)), .int .u8 (h : Int), .int .i64 n] w _
  obtain ⟨nt, hnt⟩ : ∃ k, k = ti.length := ⟨_, rfl⟩
  obtain ⟨nb, hnb⟩ : ∃ k, k = bo.length := ⟨_, rfl⟩
  obtain ⟨w0, hw0⟩ : ∃ q, q = (w.alloc (.cells (cvrow th p pa (.slice A1 nt c1) (.slice A2 nb c2)) 27)).alloc (.cells #[.bool false, .int .i64 0, .int .u64 0, .int .i64 0, .int .i64 0, .string { data := #[] }, .int .i64 0, .int .i64 0, .slice none 0 0, .slice none 0 0] 27) := ⟨_, rfl⟩
  have hR : CvRow w0 w.heap.size th p pa (.slice A1 nt c1) (.slice A2 nb c2) := by rw [hw0]; exact (Whole.here _ _ _).alloc _
  have hZ : Whole w0 (w.heap.size + 1) 27 #[.bool false, .int .i64 0, .int .u64 0, .int .i64 0, .int .i64 0, .string { data := #[] }, .int .i64 0, .int .i64 0, .slice none 0 0, .slice none 0 0] := by rw [hw0]; exact Whole.at_ _ _ _ _ (by simp)
  have hb : Below w.heap.size w w0 := by rw [hw0]; exact ((Below.refl _ _).alloc (Nat.le_refl _) _).alloc (by simp) _
  have HB1 := Lib.hid (((hB1.mono (Q' := fun b => b < w.heap.size ∧ Q b) fun b h1 hq => ⟨h1, hq⟩).below hb (Nat.le_refl _)).mono (Q' := fun b => (b < w.heap.size ∧ Q b) ∨ w.heap.size + 2 ≤ b) fun b _ hq => .inl hq)
  have HB2 := Lib.hid (((hB2.mono (Q' := fun b => b < w.heap.size ∧ Q b) fun b h1 hq => ⟨h1, hq⟩).below hb (Nat.le_refl _)).mono (Q' := fun b => (b < w.heap.size ∧ Q b) ∨ w.heap.size + 2 ≤ b) fun b _ hq => .inl hq)
  have HR := Lib.hid hR
  have HZ := Lib.hid hZ
  have HB := Lib.hid hb
  have HW := Lib.hid hw
  have hps : w.heap.size + 1 < w0.heap.size := hZ.lt
  obtain ⟨x0, x7, x8, x9⟩ := CvRow.cells hR
  have x6 : w0.cell? ⟨w.heap.size, 6, none⟩ = some (.int .i64 p.num) := hR.cell 6
  have z0 := Whole.frozen hR 0
  have z6 := Whole.frozen hR 6
  have z7 := Whole.frozen hR 7
  have z8 := Whole.frozen hR 8
  have z9 := Whole.frozen hR 9
  clear hR hZ hb hB1 hB2 hw
  have HNT := Lib.hid hnt
  have HNB := Lib.hid hnb
  rw [← hnt, ← hnb]
  clear hnt hnb
  have hk : (h : Int) % 5 = 0 ∨ (h : Int) % 5 = 1 ∨ (h : Int) % 5 = 2 ∨ (h : Int) % 5 = 3 ∨ (h : Int) % 5 = 4 := by omega
  go_enter Try.func7, Try.ntmps7
  go_upto_region 1 with fail
  rw [← hw0]
  clear hw0
  have hb1 : Bytes w0 (fun b => (b < w.heap.size ∧ Q b) ∨ w.heap.size + 2 ≤ b) (.slice A1 nt c1) ti := by rw [HNT.out]; exact HB1.out
  have hb2 : Bytes w0 (fun b => (b < w.heap.size ∧ Q b) ∨ w.heap.size + 2 ≤ b) (.slice A2 nb c2) bo := by rw [HNB.out]; exact HB2.out
  have HB1 := Lib.hid hb1
  have HB2 := Lib.hid hb2
  clear hb1 hb2
  rcases hk with hk | hk | hk | hk | hk
  · skip
    go_upto_region 12 with fail
    have HC : CspP w (w0.setCell ⟨w.heap.size, 0, none⟩ (.bool (!th))) Q := CspP.mk_ ((by have h9 := Whole.set HR.out 0 (.bool (!th)); rw [HNT.out, HNB.out] at h9; exact h9 : CvRow (w0.setCell ⟨w.heap.size, 0, none⟩ (.bool (!th))) w.heap.size (!th) p pa (.slice A1 ti.length c1) (.slice A2 bo.length c2))) ((by have h9 := Bytes.set HB1.out (a := ⟨w.heap.size, 0, none⟩) (fun g hg => by show g ≠ w.heap.size; omega) (.bool (!th)); rw [HNT.out] at h9; exact h9)) ((by have h9 := Bytes.set HB2.out (a := ⟨w.heap.size, 0, none⟩) (fun g hg => by show g ≠ w.heap.size; omega) (.bool (!th)); rw [HNB.out] at h9; exact h9)) (⟨HW.out.1, HW.out.2.1, HW.out.2.2.1, HW.out.2.2.2⟩) (HB.out.setCell (p := ⟨w.heap.size, 0, none⟩) (Nat.le_refl _) _) (Whole.far HZ.out (a := ⟨w.heap.size, 0, none⟩) (by show w.heap.size + 1 ≠ w.heap.size; omega) _)
    obtain ⟨W, hW⟩ : ∃ W, W = w0.setCell ⟨w.heap.size, 0, none⟩ (.bool (!th)) := ⟨_, rfl⟩
    rw [← hW] at HC ⊢
    obtain ⟨y, B1, B2, d1, d2, hr, h1, h2, hwf, hbb, hz⟩ := HC
    have HR2 := Lib.hid hr
    have HZ2 := Lib.hid hz
    have H12 := Lib.hid (And.intro h1 h2)
    have HBW := Lib.hid (And.intro hbb hwf)
    clear hW hr h1 h2 hwf hbb hz HB1 HB2 HR HZ HB HW HNT HNB
    go_wp2_with (first
      | (with_reducible refine wpList_load_cav rfl _ rfl rfl HR2.out ?_)
      | (with_reducible refine wpList_store_cav rfl _ _ rfl rfl rfl HZ2.out rfl ?_))
    refine bodyPost_ret (results_cav Try.results7 _ rfl (Whole.setRow HZ2.out _)) rfl ?_
    exact ⟨⟨_, y, rfl, B1, d1, B2, d2, rfl, (H12.out.1.setRow (fun g hg => by omega) _).mono (fun b _ hq => hq.elim (fun h => .inl h.2) (fun h => .inr (by omega))), (H12.out.2.setRow (fun g hg => by omega) _).mono (fun b _ hq => hq.elim (fun h => .inl h.2) (fun h => .inr (by omega))), HBW.out.2⟩, below_setRow HBW.out.1 (by omega) _⟩
  · skip
    go_upto_region 12 with fail
    have HC : CspP w (w0.setCell ⟨w.heap.size, 7, none⟩ (.int .i64 n)) Q := CspP.mk_ ((by have h9 := Whole.set HR.out 7 (.int .i64 n); rw [HNT.out, HNB.out] at h9; exact h9 : CvRow (w0.setCell ⟨w.heap.size, 7, none⟩ (.int .i64 n)) w.heap.size th p n (.slice A1 ti.length c1) (.slice A2 bo.length c2))) ((by have h9 := Bytes.set HB1.out (a := ⟨w.heap.size, 7, none⟩) (fun g hg => by show g ≠ w.heap.size; omega) (.int .i64 n); rw [HNT.out] at h9; exact h9)) ((by have h9 := Bytes.set HB2.out (a := ⟨w.heap.size, 7, none⟩) (fun g hg => by show g ≠ w.heap.size; omega) (.int .i64 n); rw [HNB.out] at h9; exact h9)) (⟨HW.out.1, HW.out.2.1, HW.out.2.2.1, HW.out.2.2.2⟩) (HB.out.setCell (p := ⟨w.heap.size, 7, none⟩) (Nat.le_refl _) _) (Whole.far HZ.out (a := ⟨w.heap.size, 7, none⟩) (by show w.heap.size + 1 ≠ w.heap.size; omega) _)
    obtain ⟨W, hW⟩ : ∃ W, W = w0.setCell ⟨w.heap.size, 7, none⟩ (.int .i64 n) := ⟨_, rfl⟩
    rw [← hW] at HC ⊢
    obtain ⟨y, B1, B2, d1, d2, hr, h1, h2, hwf, hbb, hz⟩ := HC
    have HR2 := Lib.hid hr
    have HZ2 := Lib.hid hz
    have H12 := Lib.hid (And.intro h1 h2)
    have HBW := Lib.hid (And.intro hbb hwf)
    clear hW hr h1 h2 hwf hbb hz HB1 HB2 HR HZ HB HW HNT HNB
    go_wp2_with (first
      | (with_reducible refine wpList_load_cav rfl _ rfl rfl HR2.out ?_)
      | (with_reducible refine wpList_store_cav rfl _ _ rfl rfl rfl HZ2.out rfl ?_))
    refine bodyPost_ret (results_cav Try.results7 _ rfl (Whole.setRow HZ2.out _)) rfl ?_
    exact ⟨⟨_, y, rfl, B1, d1, B2, d2, rfl, (H12.out.1.setRow (fun g hg => by omega) _).mono (fun b _ hq => hq.elim (fun h => .inl h.2) (fun h => .inr (by omega))), (H12.out.2.setRow (fun g hg => by omega) _).mono (fun b _ hq => hq.elim (fun h => .inl h.2) (fun h => .inr (by omega))), HBW.out.2⟩, below_setRow HBW.out.1 (by omega) _⟩
  · skip
    go_upto_region 12 with fail
    have HC : CspP w (w0.setCell ⟨w.heap.size, 6, none⟩ (.int .i64 n)) Q := CspP.mk_ ((by have h9 := Whole.set HR.out 6 (.int .i64 n); rw [HNT.out, HNB.out] at h9; exact h9 : CvRow (w0.setCell ⟨w.heap.size, 6, none⟩ (.int .i64 n)) w.heap.size th ⟨p.kind, p.mask, p.lo, p.hi, p.name, n⟩ pa (.slice A1 ti.length c1) (.slice A2 bo.length c2))) ((by have h9 := Bytes.set HB1.out (a := ⟨w.heap.size, 6, none⟩) (fun g hg => by show g ≠ w.heap.size; omega) (.int .i64 n); rw [HNT.out] at h9; exact h9)) ((by have h9 := Bytes.set HB2.out (a := ⟨w.heap.size, 6, none⟩) (fun g hg => by show g ≠ w.heap.size; omega) (.int .i64 n); rw [HNB.out] at h9; exact h9)) (⟨HW.out.1, HW.out.2.1, HW.out.2.2.1, HW.out.2.2.2⟩) (HB.out.setCell (p := ⟨w.heap.size, 6, none⟩) (Nat.le_refl _) _) (Whole.far HZ.out (a := ⟨w.heap.size, 6, none⟩) (by show w.heap.size + 1 ≠ w.heap.size; omega) _)
    obtain ⟨W, hW⟩ : ∃ W, W = w0.setCell ⟨w.heap.size, 6, none⟩ (.int .i64 n) := ⟨_, rfl⟩
    rw [← hW] at HC ⊢
    obtain ⟨y, B1, B2, d1, d2, hr, h1, h2, hwf, hbb, hz⟩ := HC
    have HR2 := Lib.hid hr
    have HZ2 := Lib.hid hz
    have H12 := Lib.hid (And.intro h1 h2)
    have HBW := Lib.hid (And.intro hbb hwf)
    clear hW hr h1 h2 hwf hbb hz HB1 HB2 HR HZ HB HW HNT HNB
    go_wp2_with (first
      | (with_reducible refine wpList_load_cav rfl _ rfl rfl HR2.out ?_)
      | (with_reducible refine wpList_store_cav rfl _ _ rfl rfl rfl HZ2.out rfl ?_))
    refine bodyPost_ret (results_cav Try.results7 _ rfl (Whole.setRow HZ2.out _)) rfl ?_
    exact ⟨⟨_, y, rfl, B1, d1, B2, d2, rfl, (H12.out.1.setRow (fun g hg => by omega) _).mono (fun b _ hq => hq.elim (fun h => .inl h.2) (fun h => .inr (by omega))), (H12.out.2.setRow (fun g hg => by omega) _).mono (fun b _ hq => hq.elim (fun h => .inl h.2) (fun h => .inr (by omega))), HBW.out.2⟩, below_setRow HBW.out.1 (by omega) _⟩
  · skip
    have hcl := within_ n 4 (by omega) (by omega) hn (w0.alloc (.cells #[.int .i64 0, .int .i64 1, .int .i64 1024, .int .i64 1025] 3))
    go_wp2_with fail
    refine hcl.mono ?_
    rintro e w1 ⟨⟨i, hi, rfl⟩, hw1⟩
    subst hw1
    clear hcl
    have hi4 : i = 0 ∨ i = 1 ∨ i = 2 ∨ i = 3 := by omega
    clear hi
    rcases hi4 with rfl | rfl | rfl | rfl
    · skip
      have hmk := fun W => make_bytes 0 0 rfl (by omega) W
      have hsu : ((w0.alloc (.cells #[.int .i64 0, .int .i64 1, .int .i64 1024, .int .i64 1025] 3))).heap.size = w0.heap.size + 1 := by simp
      have hmd := made_bytes (w0.alloc (.cells #[.int .i64 0, .int .i64 1, .int .i64 1024, .int .i64 1025] 3)) 0 (by omega)
      rw [hsu] at hmd
      clear hsu
      have hrv : CvRow ((w0.alloc (.cells #[.int .i64 0, .int .i64 1, .int .i64 1024, .int .i64 1025] 3)).alloc (.cells (brow 0 fun _ => 0#8) 5)) w.heap.size th p pa (.slice A1 nt c1) (.slice A2 nb c2) := (HR.out.alloc _).alloc _
      have y8 := Whole.frozen hrv 8
      have x8v : (((w0.alloc (.cells #[.int .i64 0, .int .i64 1, .int .i64 1024, .int .i64 1025] 3)).alloc (.cells (brow 0 fun _ => 0#8) 5))).cell? ⟨w.heap.size, 8, none⟩ = some (.slice A1 nt c1) := hrv.cell 8
      have x9v : (((w0.alloc (.cells #[.int .i64 0, .int .i64 1, .int .i64 1024, .int .i64 1025] 3)).alloc (.cells (brow 0 fun _ => 0#8) 5))).cell? ⟨w.heap.size, 9, none⟩ = some (.slice A2 nb c2) := hrv.cell 9
      have HRV := Lib.hid hrv
      have HMD := Lib.hid (hmd.mono (Q' := fun b => (b < w.heap.size ∧ Q b) ∨ w.heap.size + 2 ≤ b) fun b _ hq => .inr (by have : b = w0.heap.size + 1 := hq; omega))
      have HBV : Hid (Below w.heap.size w ((w0.alloc (.cells #[.int .i64 0, .int .i64 1, .int .i64 1024, .int .i64 1025] 3)).alloc (.cells (brow 0 fun _ => 0#8) 5))) := Lib.hid (Below.alloc (Below.alloc HB.out (by omega) _) (by simp; omega) _)
      have HZV : Hid (Whole ((w0.alloc (.cells #[.int .i64 0, .int .i64 1, .int .i64 1024, .int .i64 1025] 3)).alloc (.cells (brow 0 fun _ => 0#8) 5)) (w.heap.size + 1) 27 #[.bool false, .int .i64 0, .int .u64 0, .int .i64 0, .int .i64 0, .string { data := #[] }, .int .i64 0, .int .i64 0, .slice none 0 0, .slice none 0 0]) := Lib.hid ((HZ.out.alloc _).alloc _)
      have H1V : Hid (Bytes ((w0.alloc (.cells #[.int .i64 0, .int .i64 1, .int .i64 1024, .int .i64 1025] 3)).alloc (.cells (brow 0 fun _ => 0#8) 5)) (fun b => (b < w.heap.size ∧ Q b) ∨ w.heap.size + 2 ≤ b) (.slice A1 nt c1) ti) := Lib.hid ((HB1.out.alloc _).alloc _)
      have H2V : Hid (Bytes ((w0.alloc (.cells #[.int .i64 0, .int .i64 1, .int .i64 1024, .int .i64 1025] 3)).alloc (.cells (brow 0 fun _ => 0#8) 5)) (fun b => (b < w.heap.size ∧ Q b) ∨ w.heap.size + 2 ≤ b) (.slice A2 nb c2) bo) := Lib.hid ((HB2.out.alloc _).alloc _)
      clear hrv hmd
      go_upto_region 12 with fail
      have HC : CspP w (((w0.alloc (.cells #[.int .i64 0, .int .i64 1, .int .i64 1024, .int .i64 1025] 3)).alloc (.cells (brow 0 fun _ => 0#8) 5)).setCell ⟨w.heap.size, 8, none⟩ (.slice (some ⟨w0.heap.size + 1, 0, none⟩) 0 0)) Q := CspP.mk_ ((by have h9 := Whole.set HRV.out 8 (.slice (some ⟨w0.heap.size + 1, 0, none⟩) 0 0); rw [HNB.out] at h9; exact h9 : CvRow (((w0.alloc (.cells #[.int .i64 0, .int .i64 1, .int .i64 1024, .int .i64 1025] 3)).alloc (.cells (brow 0 fun _ => 0#8) 5)).setCell ⟨w.heap.size, 8, none⟩ (.slice (some ⟨w0.heap.size + 1, 0, none⟩) 0 0)) w.heap.size th p pa (.slice (some ⟨w0.heap.size + 1, 0, none⟩) (List.replicate 0 (0 : B8)).length 0) (.slice A2 bo.length c2))) ((by have h9 := Bytes.set HMD.out (a := ⟨w.heap.size, 8, none⟩) (fun g hg => by show g ≠ w.heap.size; omega) (.slice (some ⟨w0.heap.size + 1, 0, none⟩) 0 0); rw [show (List.replicate 0 (0 : B8)).length = 0 by simp]; exact h9)) ((by have h9 := Bytes.set H2V.out (a := ⟨w.heap.size, 8, none⟩) (fun g hg => by show g ≠ w.heap.size; omega) (.slice (some ⟨w0.heap.size + 1, 0, none⟩) 0 0); rw [HNB.out] at h9; exact h9)) (⟨HW.out.1, HW.out.2.1, by simp, HW.out.2.2.2⟩) (Below.setCell HBV.out (p := ⟨w.heap.size, 8, none⟩) (Nat.le_refl _) _) (Whole.far HZV.out (a := ⟨w.heap.size, 8, none⟩) (by show w.heap.size + 1 ≠ w.heap.size; omega) _)
      obtain ⟨W, hW⟩ : ∃ W, W = ((w0.alloc (.cells #[.int .i64 0, .int .i64 1, .int .i64 1024, .int .i64 1025] 3)).alloc (.cells (brow 0 fun _ => 0#8) 5)).setCell ⟨w.heap.size, 8, none⟩ (.slice (some ⟨w0.heap.size + 1, 0, none⟩) 0 0) := ⟨_, rfl⟩
      rw [← hW] at HC ⊢
      obtain ⟨y, B1, B2, d1, d2, hr, h1, h2, hwf, hbb, hz⟩ := HC
      have HR2 := Lib.hid hr
      have HZ2 := Lib.hid hz
      have H12 := Lib.hid (And.intro h1 h2)
      have HBW := Lib.hid (And.intro hbb hwf)
      clear hW hr h1 h2 hwf hbb hz HB1 HB2 HR HZ HB HW HNT HNB
      go_wp2_with (first
        | (with_reducible refine wpList_load_cav rfl _ rfl rfl HR2.out ?_)
        | (with_reducible refine wpList_store_cav rfl _ _ rfl rfl rfl HZ2.out rfl ?_))
      refine bodyPost_ret (results_cav Try.results7 _ rfl (Whole.setRow HZ2.out _)) rfl ?_
      exact ⟨⟨_, y, rfl, B1, d1, B2, d2, rfl, (H12.out.1.setRow (fun g hg => by omega) _).mono (fun b _ hq => hq.elim (fun h => .inl h.2) (fun h => .inr (by omega))), (H12.out.2.setRow (fun g hg => by omega) _).mono (fun b _ hq => hq.elim (fun h => .inl h.2) (fun h => .inr (by omega))), HBW.out.2⟩, below_setRow HBW.out.1 (by omega) _⟩
    · skip
      have hmk := fun W => make_bytes 1 1 rfl (by omega) W
      have hsu : ((w0.alloc (.cells #[.int .i64 0, .int .i64 1, .int .i64 1024, .int .i64 1025] 3))).heap.size = w0.heap.size + 1 := by simp
      have hmd := made_bytes (w0.alloc (.cells #[.int .i64 0, .int .i64 1, .int .i64 1024, .int .i64 1025] 3)) 1 (by omega)
      rw [hsu] at hmd
      clear hsu
      have hrv : CvRow ((w0.alloc (.cells #[.int .i64 0, .int .i64 1, .int .i64 1024, .int .i64 1025] 3)).alloc (.cells (brow 1 fun _ => 0#8) 5)) w.heap.size th p pa (.slice A1 nt c1) (.slice A2 nb c2) := (HR.out.alloc _).alloc _
      have y8 := Whole.frozen hrv 8
      have x8v : (((w0.alloc (.cells #[.int .i64 0, .int .i64 1, .int .i64 1024, .int .i64 1025] 3)).alloc (.cells (brow 1 fun _ => 0#8) 5))).cell? ⟨w.heap.size, 8, none⟩ = some (.slice A1 nt c1) := hrv.cell 8
      have x9v : (((w0.alloc (.cells #[.int .i64 0, .int .i64 1, .int .i64 1024, .int .i64 1025] 3)).alloc (.cells (brow 1 fun _ => 0#8) 5))).cell? ⟨w.heap.size, 9, none⟩ = some (.slice A2 nb c2) := hrv.cell 9
      have HRV := Lib.hid hrv
      have HMD := Lib.hid (hmd.mono (Q' := fun b => (b < w.heap.size ∧ Q b) ∨ w.heap.size + 2 ≤ b) fun b _ hq => .inr (by have : b = w0.heap.size + 1 := hq; omega))
      have HBV : Hid (Below w.heap.size w ((w0.alloc (.cells #[.int .i64 0, .int .i64 1, .int .i64 1024, .int .i64 1025] 3)).alloc (.cells (brow 1 fun _ => 0#8) 5))) := Lib.hid (Below.alloc (Below.alloc HB.out (by omega) _) (by simp; omega) _)
      have HZV : Hid (Whole ((w0.alloc (.cells #[.int .i64 0, .int .i64 1, .int .i64 1024, .int .i64 1025] 3)).alloc (.cells (brow 1 fun _ => 0#8) 5)) (w.heap.size + 1) 27 #[.bool false, .int .i64 0, .int .u64 0, .int .i64 0, .int .i64 0, .string { data := #[] }, .int .i64 0, .int .i64 0, .slice none 0 0, .slice none 0 0]) := Lib.hid ((HZ.out.alloc _).alloc _)
      have H1V : Hid (Bytes ((w0.alloc (.cells #[.int .i64 0, .int .i64 1, .int .i64 1024, .int .i64 1025] 3)).alloc (.cells (brow 1 fun _ => 0#8) 5)) (fun b => (b < w.heap.size ∧ Q b) ∨ w.heap.size + 2 ≤ b) (.slice A1 nt c1) ti) := Lib.hid ((HB1.out.alloc _).alloc _)
      have H2V : Hid (Bytes ((w0.alloc (.cells #[.int .i64 0, .int .i64 1, .int .i64 1024, .int .i64 1025] 3)).alloc (.cells (brow 1 fun _ => 0#8) 5)) (fun b => (b < w.heap.size ∧ Q b) ∨ w.heap.size + 2 ≤ b) (.slice A2 nb c2) bo) := Lib.hid ((HB2.out.alloc _).alloc _)
      clear hrv hmd
      go_upto_region 12 with fail
      have HC : CspP w (((w0.alloc (.cells #[.int .i64 0, .int .i64 1, .int .i64 1024, .int .i64 1025] 3)).alloc (.cells (brow 1 fun _ => 0#8) 5)).setCell ⟨w.heap.size, 8, none⟩ (.slice (some ⟨w0.heap.size + 1, 0, none⟩) 1 1)) Q := CspP.mk_ ((by have h9 := Whole.set HRV.out 8 (.slice (some ⟨w0.heap.size + 1, 0, none⟩) 1 1); rw [HNB.out] at h9; exact h9 : CvRow (((w0.alloc (.cells #[.int .i64 0, .int .i64 1, .int .i64 1024, .int .i64 1025] 3)).alloc (.cells (brow 1 fun _ => 0#8) 5)).setCell ⟨w.heap.size, 8, none⟩ (.slice (some ⟨w0.heap.size + 1, 0, none⟩) 1 1)) w.heap.size th p pa (.slice (some ⟨w0.heap.size + 1, 0, none⟩) (List.replicate 1 (0 : B8)).length 1) (.slice A2 bo.length c2))) ((by have h9 := Bytes.set HMD.out (a := ⟨w.heap.size, 8, none⟩) (fun g hg => by show g ≠ w.heap.size; omega) (.slice (some ⟨w0.heap.size + 1, 0, none⟩) 1 1); rw [show (List.replicate 1 (0 : B8)).length = 1 by simp]; exact h9)) ((by have h9 := Bytes.set H2V.out (a := ⟨w.heap.size, 8, none⟩) (fun g hg => by show g ≠ w.heap.size; omega) (.slice (some ⟨w0.heap.size + 1, 0, none⟩) 1 1); rw [HNB.out] at h9; exact h9)) (⟨HW.out.1, HW.out.2.1, by simp, HW.out.2.2.2⟩) (Below.setCell HBV.out (p := ⟨w.heap.size, 8, none⟩) (Nat.le_refl _) _) (Whole.far HZV.out (a := ⟨w.heap.size, 8, none⟩) (by show w.heap.size + 1 ≠ w.heap.size; omega) _)
      obtain ⟨W, hW⟩ : ∃ W, W = ((w0.alloc (.cells #[.int .i64 0, .int .i64 1, .int .i64 1024, .int .i64 1025] 3)).alloc (.cells (brow 1 fun _ => 0#8) 5)).setCell ⟨w.heap.size, 8, none⟩ (.slice (some ⟨w0.heap.size + 1, 0, none⟩) 1 1) := ⟨_, rfl⟩
      rw [← hW] at HC ⊢
      obtain ⟨y, B1, B2, d1, d2, hr, h1, h2, hwf, hbb, hz⟩ := HC
      have HR2 := Lib.hid hr
      have HZ2 := Lib.hid hz
      have H12 := Lib.hid (And.intro h1 h2)
      have HBW := Lib.hid (And.intro hbb hwf)
      clear hW hr h1 h2 hwf hbb hz HB1 HB2 HR HZ HB HW HNT HNB
      go_wp2_with (first
        | (with_reducible refine wpList_load_cav rfl _ rfl rfl HR2.out ?_)
        | (with_reducible refine wpList_store_cav rfl _ _ rfl rfl rfl HZ2.out rfl ?_))
      refine bodyPost_ret (results_cav Try.results7 _ rfl (Whole.setRow HZ2.out _)) rfl ?_
      exact ⟨⟨_, y, rfl, B1, d1, B2, d2, rfl, (H12.out.1.setRow (fun g hg => by omega) _).mono (fun b _ hq => hq.elim (fun h => .inl h.2) (fun h => .inr (by omega))), (H12.out.2.setRow (fun g hg => by omega) _).mono (fun b _ hq => hq.elim (fun h => .inl h.2) (fun h => .inr (by omega))), HBW.out.2⟩, below_setRow HBW.out.1 (by omega) _⟩
    · skip
      have hmk := fun W => make_bytes 1024 1024 rfl (by omega) W
      have hsu : ((w0.alloc (.cells #[.int .i64 0, .int .i64 1, .int .i64 1024, .int .i64 1025] 3))).heap.size = w0.heap.size + 1 := by simp
      have hmd := made_bytes (w0.alloc (.cells #[.int .i64 0, .int .i64 1, .int .i64 1024, .int .i64 1025] 3)) 1024 (by omega)
      rw [hsu] at hmd
      clear hsu
      have hrv : CvRow ((w0.alloc (.cells #[.int .i64 0, .int .i64 1, .int .i64 1024, .int .i64 1025] 3)).alloc (.cells (brow 1024 fun _ => 0#8) 5)) w.heap.size th p pa (.slice A1 nt c1) (.slice A2 nb c2) := (HR.out.alloc _).alloc _
      have y8 := Whole.frozen hrv 8
      have x8v : (((w0.alloc (.cells #[.int .i64 0, .int .i64 1, .int .i64 1024, .int .i64 1025] 3)).alloc (.cells (brow 1024 fun _ => 0#8) 5))).cell? ⟨w.heap.size, 8, none⟩ = some (.slice A1 nt c1) := hrv.cell 8
      have x9v : (((w0.alloc (.cells #[.int .i64 0, .int .i64 1, .int .i64 1024, .int .i64 1025] 3)).alloc (.cells (brow 1024 fun _ => 0#8) 5))).cell? ⟨w.heap.size, 9, none⟩ = some (.slice A2 nb c2) := hrv.cell 9
      have HRV := Lib.hid hrv
      have HMD := Lib.hid (hmd.mono (Q' := fun b => (b < w.heap.size ∧ Q b) ∨ w.heap.size + 2 ≤ b) fun b _ hq => .inr (by have : b = w0.heap.size + 1 := hq; omega))
      have HBV : Hid (Below w.heap.size w ((w0.alloc (.cells #[.int .i64 0, .int .i64 1, .int .i64 1024, .int .i64 1025] 3)).alloc (.cells (brow 1024 fun _ => 0#8) 5))) := Lib.hid (Below.alloc (Below.alloc HB.out (by omega) _) (by simp; omega) _)
      have HZV : Hid (Whole ((w0.alloc (.cells #[.int .i64 0, .int .i64 1, .int .i64 1024, .int .i64 1025] 3)).alloc (.cells (brow 1024 fun _ => 0#8) 5)) (w.heap.size + 1) 27 #[.bool false, .int .i64 0, .int .u64 0, .int .i64 0, .int .i64 0, .string { data := #[] }, .int .i64 0, .int .i64 0, .slice none 0 0, .slice none 0 0]) := Lib.hid ((HZ.out.alloc _).alloc _)
      have H1V : Hid (Bytes ((w0.alloc (.cells #[.int .i64 0, .int .i64 1, .int .i64 1024, .int .i64 1025] 3)).alloc (.cells (brow 1024 fun _ => 0#8) 5)) (fun b => (b < w.heap.size ∧ Q b) ∨ w.heap.size + 2 ≤ b) (.slice A1 nt c1) ti) := Lib.hid ((HB1.out.alloc _).alloc _)
      have H2V : Hid (Bytes ((w0.alloc (.cells #[.int .i64 0, .int .i64 1, .int .i64 1024, .int .i64 1025] 3)).alloc (.cells (brow 1024 fun _ => 0#8) 5)) (fun b => (b < w.heap.size ∧ Q b) ∨ w.heap.size + 2 ≤ b) (.slice A2 nb c2) bo) := Lib.hid ((HB2.out.alloc _).alloc _)
      clear hrv hmd
      go_upto_region 12 with fail
      have HC : CspP w (((w0.alloc (.cells #[.int .i64 0, .int .i64 1, .int .i64 1024, .int .i64 1025] 3)).alloc (.cells (brow 1024 fun _ => 0#8) 5)).setCell ⟨w.heap.size, 8, none⟩ (.slice (some ⟨w0.heap.size + 1, 0, none⟩) 1024 1024)) Q := CspP.mk_ ((by have h9 := Whole.set HRV.out 8 (.slice (some ⟨w0.heap.size + 1, 0, none⟩) 1024 1024); rw [HNB.out] at h9; exact h9 : CvRow (((w0.alloc (.cells #[.int .i64 0, .int .i64 1, .int .i64 1024, .int .i64 1025] 3)).alloc (.cells (brow 1024 fun _ => 0#8) 5)).setCell ⟨w.heap.size, 8, none⟩ (.slice (some ⟨w0.heap.size + 1, 0, none⟩) 1024 1024)) w.heap.size th p pa (.slice (some ⟨w0.heap.size + 1, 0, none⟩) (List.replicate 1024 (0 : B8)).length 1024) (.slice A2 bo.length c2))) ((by have h9 := Bytes.set HMD.out (a := ⟨w.heap.size, 8, none⟩) (fun g hg => by show g ≠ w.heap.size; omega) (.slice (some ⟨w0.heap.size + 1, 0, none⟩) 1024 1024); rw [show (List.replicate 1024 (0 : B8)).length = 1024 by simp]; exact h9)) ((by have h9 := Bytes.set H2V.out (a := ⟨w.heap.size, 8, none⟩) (fun g hg => by show g ≠ w.heap.size; omega) (.slice (some ⟨w0.heap.size + 1, 0, none⟩) 1024 1024); rw [HNB.out] at h9; exact h9)) (⟨HW.out.1, HW.out.2.1, by simp, HW.out.2.2.2⟩) (Below.setCell HBV.out (p := ⟨w.heap.size, 8, none⟩) (Nat.le_refl _) _) (Whole.far HZV.out (a := ⟨w.heap.size, 8, none⟩) (by show w.heap.size + 1 ≠ w.heap.size; omega) _)
      obtain ⟨W, hW⟩ : ∃ W, W = ((w0.alloc (.cells #[.int .i64 0, .int .i64 1, .int .i64 1024, .int .i64 1025] 3)).alloc (.cells (brow 1024 fun _ => 0#8) 5)).setCell ⟨w.heap.size, 8, none⟩ (.slice (some ⟨w0.heap.size + 1, 0, none⟩) 1024 1024) := ⟨_, rfl⟩
      rw [← hW] at HC ⊢
      obtain ⟨y, B1, B2, d1, d2, hr, h1, h2, hwf, hbb, hz⟩ := HC
      have HR2 := Lib.hid hr
      have HZ2 := Lib.hid hz
      have H12 := Lib.hid (And.intro h1 h2)
      have HBW := Lib.hid (And.intro hbb hwf)
      clear hW hr h1 h2 hwf hbb hz HB1 HB2 HR HZ HB HW HNT HNB
      go_wp2_with (first
        | (with_reducible refine wpList_load_cav rfl _ rfl rfl HR2.out ?_)
        | (with_reducible refine wpList_store_cav rfl _ _ rfl rfl rfl HZ2.out rfl ?_))
      refine bodyPost_ret (results_cav Try.results7 _ rfl (Whole.setRow HZ2.out _)) rfl ?_
      exact ⟨⟨_, y, rfl, B1, d1, B2, d2, rfl, (H12.out.1.setRow (fun g hg => by omega) _).mono (fun b _ hq => hq.elim (fun h => .inl h.2) (fun h => .inr (by omega))), (H12.out.2.setRow (fun g hg => by omega) _).mono (fun b _ hq => hq.elim (fun h => .inl h.2) (fun h => .inr (by omega))), HBW.out.2⟩, below_setRow HBW.out.1 (by omega) _⟩
    · skip
      have hmk := fun W => make_bytes 1025 1025 rfl (by omega) W
      have hsu : ((w0.alloc (.cells #[.int .i64 0, .int .i64 1, .int .i64 1024, .int .i64 1025] 3))).heap.size = w0.heap.size + 1 := by simp
      have hmd := made_bytes (w0.alloc (.cells #[.int .i64 0, .int .i64 1, .int .i64 1024, .int .i64 1025] 3)) 1025 (by omega)
      rw [hsu] at hmd
      clear hsu
      have hrv : CvRow ((w0.alloc (.cells #[.int .i64 0, .int .i64 1, .int .i64 1024, .int .i64 1025] 3)).alloc (.cells (brow 1025 fun _ => 0#8) 5)) w.heap.size th p pa (.slice A1 nt c1) (.slice A2 nb c2) := (HR.out.alloc _).alloc _
      have y8 := Whole.frozen hrv 8
      have x8v : (((w0.alloc (.cells #[.int .i64 0, .int .i64 1, .int .i64 1024, .int .i64 1025] 3)).alloc (.cells (brow 1025 fun _ => 0#8) 5))).cell? ⟨w.heap.size, 8, none⟩ = some (.slice A1 nt c1) := hrv.cell 8
      have x9v : (((w0.alloc (.cells #[.int .i64 0, .int .i64 1, .int .i64 1024, .int .i64 1025] 3)).alloc (.cells (brow 1025 fun _ => 0#8) 5))).cell? ⟨w.heap.size, 9, none⟩ = some (.slice A2 nb c2) := hrv.cell 9
      have HRV := Lib.hid hrv
      have HMD := Lib.hid (hmd.mono (Q' := fun b => (b < w.heap.size ∧ Q b) ∨ w.heap.size + 2 ≤ b) fun b _ hq => .inr (by have : b = w0.heap.size + 1 := hq; omega))
      have HBV : Hid (Below w.heap.size w ((w0.alloc (.cells #[.int .i64 0, .int .i64 1, .int .i64 1024, .int .i64 1025] 3)).alloc (.cells (brow 1025 fun _ => 0#8) 5))) := Lib.hid (Below.alloc (Below.alloc HB.out (by omega) _) (by simp; omega) _)
      have HZV : Hid (Whole ((w0.alloc (.cells #[.int .i64 0, .int .i64 1, .int .i64 1024, .int .i64 1025] 3)).alloc (.cells (brow 1025 fun _ => 0#8) 5)) (w.heap.size + 1) 27 #[.bool false, .int .i64 0, .int .u64 0, .int .i64 0, .int .i64 0, .string { data := #[] }, .int .i64 0, .int .i64 0, .slice none 0 0, .slice none 0 0]) := Lib.hid ((HZ.out.alloc _).alloc _)
      have H1V : Hid (Bytes ((w0.alloc (.cells #[.int .i64 0, .int .i64 1, .int .i64 1024, .int .i64 1025] 3)).alloc (.cells (brow 1025 fun _ => 0#8) 5)) (fun b => (b < w.heap.size ∧ Q b) ∨ w.heap.size + 2 ≤ b) (.slice A1 nt c1) ti) := Lib.hid ((HB1.out.alloc _).alloc _)
      have H2V : Hid (Bytes ((w0.alloc (.cells #[.int .i64 0, .int .i64 1, .int .i64 1024, .int .i64 1025] 3)).alloc (.cells (brow 1025 fun _ => 0#8) 5)) (fun b => (b < w.heap.size ∧ Q b) ∨ w.heap.size + 2 ≤ b) (.slice A2 nb c2) bo) := Lib.hid ((HB2.out.alloc _).alloc _)
      clear hrv hmd
      go_upto_region 12 with fail
      have HC : CspP w (((w0.alloc (.cells #[.int .i64 0, .int .i64 1, .int .i64 1024, .int .i64 1025] 3)).alloc (.cells (brow 1025 fun _ => 0#8) 5)).setCell ⟨w.heap.size, 8, none⟩ (.slice (some ⟨w0.heap.size + 1, 0, none⟩) 1025 1025)) Q := CspP.mk_ ((by have h9 := Whole.set HRV.out 8 (.slice (some ⟨w0.heap.size + 1, 0, none⟩) 1025 1025); rw [HNB.out] at h9; exact h9 : CvRow (((w0.alloc (.cells #[.int .i64 0, .int .i64 1, .int .i64 1024, .int .i64 1025] 3)).alloc (.cells (brow 1025 fun _ => 0#8) 5)).setCell ⟨w.heap.size, 8, none⟩ (.slice (some ⟨w0.heap.size + 1, 0, none⟩) 1025 1025)) w.heap.size th p pa (.slice (some ⟨w0.heap.size + 1, 0, none⟩) (List.replicate 1025 (0 : B8)).length 1025) (.slice A2 bo.length c2))) ((by have h9 := Bytes.set HMD.out (a := ⟨w.heap.size, 8, none⟩) (fun g hg => by show g ≠ w.heap.size; omega) (.slice (some ⟨w0.heap.size + 1, 0, none⟩) 1025 1025); rw [show (List.replicate 1025 (0 : B8)).length = 1025 by simp]; exact h9)) ((by have h9 := Bytes.set H2V.out (a := ⟨w.heap.size, 8, none⟩) (fun g hg => by show g ≠ w.heap.size; omega) (.slice (some ⟨w0.heap.size + 1, 0, none⟩) 1025 1025); rw [HNB.out] at h9; exact h9)) (⟨HW.out.1, HW.out.2.1, by simp, HW.out.2.2.2⟩) (Below.setCell HBV.out (p := ⟨w.heap.size, 8, none⟩) (Nat.le_refl _) _) (Whole.far HZV.out (a := ⟨w.heap.size, 8, none⟩) (by show w.heap.size + 1 ≠ w.heap.size; omega) _)
      obtain ⟨W, hW⟩ : ∃ W, W = ((w0.alloc (.cells #[.int .i64 0, .int .i64 1, .int .i64 1024, .int .i64 1025] 3)).alloc (.cells (brow 1025 fun _ => 0#8) 5)).setCell ⟨w.heap.size, 8, none⟩ (.slice (some ⟨w0.heap.size + 1, 0, none⟩) 1025 1025) := ⟨_, rfl⟩
      rw [← hW] at HC ⊢
      obtain ⟨y, B1, B2, d1, d2, hr, h1, h2, hwf, hbb, hz⟩ := HC
      have HR2 := Lib.hid hr
      have HZ2 := Lib.hid hz
      have H12 := Lib.hid (And.intro h1 h2)
      have HBW := Lib.hid (And.intro hbb hwf)
      clear hW hr h1 h2 hwf hbb hz HB1 HB2 HR HZ HB HW HNT HNB
      go_wp2_with (first
        | (with_reducible refine wpList_load_cav rfl _ rfl rfl HR2.out ?_)
        | (with_reducible refine wpList_store_cav rfl _ _ rfl rfl rfl HZ2.out rfl ?_))
      refine bodyPost_ret (results_cav Try.results7 _ rfl (Whole.setRow HZ2.out _)) rfl ?_
      exact ⟨⟨_, y, rfl, B1, d1, B2, d2, rfl, (H12.out.1.setRow (fun g hg => by omega) _).mono (fun b _ hq => hq.elim (fun h => .inl h.2) (fun h => .inr (by omega))), (H12.out.2.setRow (fun g hg => by omega) _).mono (fun b _ hq => hq.elim (fun h => .inl h.2) (fun h => .inr (by omega))), HBW.out.2⟩, below_setRow HBW.out.1 (by omega) _⟩
  · skip
    have hcl := within_ n 4 (by omega) (by omega) hn (w0.alloc (.cells #[.int .i64 0, .int .i64 1, .int .i64 1024, .int .i64 1025] 3))
    go_wp2_with fail
    refine hcl.mono ?_
    rintro e w1 ⟨⟨i, hi, rfl⟩, hw1⟩
    subst hw1
    clear hcl
    have hi4 : i = 0 ∨ i = 1 ∨ i = 2 ∨ i = 3 := by omega
    clear hi
    rcases hi4 with rfl | rfl | rfl | rfl
    · skip
      have hmk := fun W => make_bytes 0 0 rfl (by omega) W
      have hsu : ((w0.alloc (.cells #[.int .i64 0, .int .i64 1, .int .i64 1024, .int .i64 1025] 3))).heap.size = w0.heap.size + 1 := by simp
      have hmd := made_bytes (w0.alloc (.cells #[.int .i64 0, .int .i64 1, .int .i64 1024, .int .i64 1025] 3)) 0 (by omega)
      rw [hsu] at hmd
      clear hsu
      have hrv : CvRow ((w0.alloc (.cells #[.int .i64 0, .int .i64 1, .int .i64 1024, .int .i64 1025] 3)).alloc (.cells (brow 0 fun _ => 0#8) 5)) w.heap.size th p pa (.slice A1 nt c1) (.slice A2 nb c2) := (HR.out.alloc _).alloc _
      have y9 := Whole.frozen hrv 9
      have x8v : (((w0.alloc (.cells #[.int .i64 0, .int .i64 1, .int .i64 1024, .int .i64 1025] 3)).alloc (.cells (brow 0 fun _ => 0#8) 5))).cell? ⟨w.heap.size, 8, none⟩ = some (.slice A1 nt c1) := hrv.cell 8
      have x9v : (((w0.alloc (.cells #[.int .i64 0, .int .i64 1, .int .i64 1024, .int .i64 1025] 3)).alloc (.cells (brow 0 fun _ => 0#8) 5))).cell? ⟨w.heap.size, 9, none⟩ = some (.slice A2 nb c2) := hrv.cell 9
      have HRV := Lib.hid hrv
      have HMD := Lib.hid (hmd.mono (Q' := fun b => (b < w.heap.size ∧ Q b) ∨ w.heap.size + 2 ≤ b) fun b _ hq => .inr (by have : b = w0.heap.size + 1 := hq; omega))
      have HBV : Hid (Below w.heap.size w ((w0.alloc (.cells #[.int .i64 0, .int .i64 1, .int .i64 1024, .int .i64 1025] 3)).alloc (.cells (brow 0 fun _ => 0#8) 5))) := Lib.hid (Below.alloc (Below.alloc HB.out (by omega) _) (by simp; omega) _)
      have HZV : Hid (Whole ((w0.alloc (.cells #[.int .i64 0, .int .i64 1, .int .i64 1024, .int .i64 1025] 3)).alloc (.cells (brow 0 fun _ => 0#8) 5)) (w.heap.size + 1) 27 #[.bool false, .int .i64 0, .int .u64 0, .int .i64 0, .int .i64 0, .string { data := #[] }, .int .i64 0, .int .i64 0, .slice none 0 0, .slice none 0 0]) := Lib.hid ((HZ.out.alloc _).alloc _)
      have H1V : Hid (Bytes ((w0.alloc (.cells #[.int .i64 0, .int .i64 1, .int .i64 1024, .int .i64 1025] 3)).alloc (.cells (brow 0 fun _ => 0#8) 5)) (fun b => (b < w.heap.size ∧ Q b) ∨ w.heap.size + 2 ≤ b) (.slice A1 nt c1) ti) := Lib.hid ((HB1.out.alloc _).alloc _)
      have H2V : Hid (Bytes ((w0.alloc (.cells #[.int .i64 0, .int .i64 1, .int .i64 1024, .int .i64 1025] 3)).alloc (.cells (brow 0 fun _ => 0#8) 5)) (fun b => (b < w.heap.size ∧ Q b) ∨ w.heap.size + 2 ≤ b) (.slice A2 nb c2) bo) := Lib.hid ((HB2.out.alloc _).alloc _)
      clear hrv hmd
      go_upto_region 12 with fail
      have HC : CspP w (((w0.alloc (.cells #[.int .i64 0, .int .i64 1, .int .i64 1024, .int .i64 1025] 3)).alloc (.cells (brow 0 fun _ => 0#8) 5)).setCell ⟨w.heap.size, 9, none⟩ (.slice (some ⟨w0.heap.size + 1, 0, none⟩) 0 0)) Q := CspP.mk_ ((by have h9 := Whole.set HRV.out 9 (.slice (some ⟨w0.heap.size + 1, 0, none⟩) 0 0); rw [HNT.out] at h9; exact h9 : CvRow (((w0.alloc (.cells #[.int .i64 0, .int .i64 1, .int .i64 1024, .int .i64 1025] 3)).alloc (.cells (brow 0 fun _ => 0#8) 5)).setCell ⟨w.heap.size, 9, none⟩ (.slice (some ⟨w0.heap.size + 1, 0, none⟩) 0 0)) w.heap.size th p pa (.slice A1 ti.length c1) (.slice (some ⟨w0.heap.size + 1, 0, none⟩) (List.replicate 0 (0 : B8)).length 0))) ((by have h9 := Bytes.set H1V.out (a := ⟨w.heap.size, 9, none⟩) (fun g hg => by show g ≠ w.heap.size; omega) (.slice (some ⟨w0.heap.size + 1, 0, none⟩) 0 0); rw [HNT.out] at h9; exact h9)) ((by have h9 := Bytes.set HMD.out (a := ⟨w.heap.size, 9, none⟩) (fun g hg => by show g ≠ w.heap.size; omega) (.slice (some ⟨w0.heap.size + 1, 0, none⟩) 0 0); rw [show (List.replicate 0 (0 : B8)).length = 0 by simp]; exact h9)) (⟨HW.out.1, HW.out.2.1, HW.out.2.2.1, by simp⟩) (Below.setCell HBV.out (p := ⟨w.heap.size, 9, none⟩) (Nat.le_refl _) _) (Whole.far HZV.out (a := ⟨w.heap.size, 9, none⟩) (by show w.heap.size + 1 ≠ w.heap.size; omega) _)
      obtain ⟨W, hW⟩ : ∃ W, W = ((w0.alloc (.cells #[.int .i64 0, .int .i64 1, .int .i64 1024, .int .i64 1025] 3)).alloc (.cells (brow 0 fun _ => 0#8) 5)).setCell ⟨w.heap.size, 9, none⟩ (.slice (some ⟨w0.heap.size + 1, 0, none⟩) 0 0) := ⟨_, rfl⟩
      rw [← hW] at HC ⊢
      obtain ⟨y, B1, B2, d1, d2, hr, h1, h2, hwf, hbb, hz⟩ := HC
      have HR2 := Lib.hid hr
      have HZ2 := Lib.hid hz
      have H12 := Lib.hid (And.intro h1 h2)
      have HBW := Lib.hid (And.intro hbb hwf)
      clear hW hr h1 h2 hwf hbb hz HB1 HB2 HR HZ HB HW HNT HNB
      go_wp2_with (first
        | (with_reducible refine wpList_load_cav rfl _ rfl rfl HR2.out ?_)
        | (with_reducible refine wpList_store_cav rfl _ _ rfl rfl rfl HZ2.out rfl ?_))
      refine bodyPost_ret (results_cav Try.results7 _ rfl (Whole.setRow HZ2.out _)) rfl ?_
      exact ⟨⟨_, y, rfl, B1, d1, B2, d2, rfl, (H12.out.1.setRow (fun g hg => by omega) _).mono (fun b _ hq => hq.elim (fun h => .inl h.2) (fun h => .inr (by omega))), (H12.out.2.setRow (fun g hg => by omega) _).mono (fun b _ hq => hq.elim (fun h => .inl h.2) (fun h => .inr (by omega))), HBW.out.2⟩, below_setRow HBW.out.1 (by omega) _⟩
    · skip
      have hmk := fun W => make_bytes 1 1 rfl (by omega) W
      have hsu : ((w0.alloc (.cells #[.int .i64 0, .int .i64 1, .int .i64 1024, .int .i64 1025] 3))).heap.size = w0.heap.size + 1 := by simp
      have hmd := made_bytes (w0.alloc (.cells #[.int .i64 0, .int .i64 1, .int .i64 1024, .int .i64 1025] 3)) 1 (by omega)
      rw [hsu] at hmd
      clear hsu
      have hrv : CvRow ((w0.alloc (.cells #[.int .i64 0, .int .i64 1, .int .i64 1024, .int .i64 1025] 3)).alloc (.cells (brow 1 fun _ => 0#8) 5)) w.heap.size th p pa (.slice A1 nt c1) (.slice A2 nb c2) := (HR.out.alloc _).alloc _
      have y9 := Whole.frozen hrv 9
      have x8v : (((w0.alloc (.cells #[.int .i64 0, .int .i64 1, .int .i64 1024, .int .i64 1025] 3)).alloc (.cells (brow 1 fun _ => 0#8) 5))).cell? ⟨w.heap.size, 8, none⟩ = some (.slice A1 nt c1) := hrv.cell 8
      have x9v : (((w0.alloc (.cells #[.int .i64 0, .int .i64 1, .int .i64 1024, .int .i64 1025] 3)).alloc (.cells (brow 1 fun _ => 0#8) 5))).cell? ⟨w.heap.size, 9, none⟩ = some (.slice A2 nb c2) := hrv.cell 9
      have HRV := Lib.hid hrv
      have HMD := Lib.hid (hmd.mono (Q' := fun b => (b < w.heap.size ∧ Q b) ∨ w.heap.size + 2 ≤ b) fun b _ hq => .inr (by have : b = w0.heap.size + 1 := hq; omega))
      have HBV : Hid (Below w.heap.size w ((w0.alloc (.cells #[.int .i64 0, .int .i64 1, .int .i64 1024, .int .i64 1025] 3)).alloc (.cells (brow 1 fun _ => 0#8) 5))) := Lib.hid (Below.alloc (Below.alloc HB.out (by omega) _) (by simp; omega) _)
      have HZV : Hid (Whole ((w0.alloc (.cells #[.int .i64 0, .int .i64 1, .int .i64 1024, .int .i64 1025] 3)).alloc (.cells (brow 1 fun _ => 0#8) 5)) (w.heap.size + 1) 27 #[.bool false, .int .i64 0, .int .u64 0, .int .i64 0, .int .i64 0, .string { data := #[] }, .int .i64 0, .int .i64 0, .slice none 0 0, .slice none 0 0]) := Lib.hid ((HZ.out.alloc _).alloc _)
      have H1V : Hid (Bytes ((w0.alloc (.cells #[.int .i64 0, .int .i64 1, .int .i64 1024, .int .i64 1025] 3)).alloc (.cells (brow 1 fun _ => 0#8) 5)) (fun b => (b < w.heap.size ∧ Q b) ∨ w.heap.size + 2 ≤ b) (.slice A1 nt c1) ti) := Lib.hid ((HB1.out.alloc _).alloc _)
      have H2V : Hid (Bytes ((w0.alloc (.cells #[.int .i64 0, .int .i64 1, .int .i64 1024, .int .i64 1025] 3)).alloc (.cells (brow 1 fun _ => 0#8) 5)) (fun b => (b < w.heap.size ∧ Q b) ∨ w.heap.size + 2 ≤ b) (.slice A2 nb c2) bo) := Lib.hid ((HB2.out.alloc _).alloc _)
      clear hrv hmd
      go_upto_region 12 with fail
      have HC : CspP w (((w0.alloc (.cells #[.int .i64 0, .int .i64 1, .int .i64 1024, .int .i64 1025] 3)).alloc (.cells (brow 1 fun _ => 0#8) 5)).setCell ⟨w.heap.size, 9, none⟩ (.slice (some ⟨w0.heap.size + 1, 0, none⟩) 1 1)) Q := CspP.mk_ ((by have h9 := Whole.set HRV.out 9 (.slice (some ⟨w0.heap.size + 1, 0, none⟩) 1 1); rw [HNT.out] at h9; exact h9 : CvRow (((w0.alloc (.cells #[.int .i64 0, .int .i64 1, .int .i64 1024, .int .i64 1025] 3)).alloc (.cells (brow 1 fun _ => 0#8) 5)).setCell ⟨w.heap.size, 9, none⟩ (.slice (some ⟨w0.heap.size + 1, 0, none⟩) 1 1)) w.heap.size th p pa (.slice A1 ti.length c1) (.slice (some ⟨w0.heap.size + 1, 0, none⟩) (List.replicate 1 (0 : B8)).length 1))) ((by have h9 := Bytes.set H1V.out (a := ⟨w.heap.size, 9, none⟩) (fun g hg => by show g ≠ w.heap.size; omega) (.slice (some ⟨w0.heap.size + 1, 0, none⟩) 1 1); rw [HNT.out] at h9; exact h9)) ((by have h9 := Bytes.set HMD.out (a := ⟨w.heap.size, 9, none⟩) (fun g hg => by show g ≠ w.heap.size; omega) (.slice (some ⟨w0.heap.size + 1, 0, none⟩) 1 1); rw [show (List.replicate 1 (0 : B8)).length = 1 by simp]; exact h9)) (⟨HW.out.1, HW.out.2.1, HW.out.2.2.1, by simp⟩) (Below.setCell HBV.out (p := ⟨w.heap.size, 9, none⟩) (Nat.le_refl _) _) (Whole.far HZV.out (a := ⟨w.heap.size, 9, none⟩) (by show w.heap.size + 1 ≠ w.heap.size; omega) _)
      obtain ⟨W, hW⟩ : ∃ W, W = ((w0.alloc (.cells #[.int .i64 0, .int .i64 1, .int .i64 1024, .int .i64 1025] 3)).alloc (.cells (brow 1 fun _ => 0#8) 5)).setCell ⟨w.heap.size, 9, none⟩ (.slice (some ⟨w0.heap.size + 1, 0, none⟩) 1 1) := ⟨_, rfl⟩
      rw [← hW] at HC ⊢
      obtain ⟨y, B1, B2, d1, d2, hr, h1, h2, hwf, hbb, hz⟩ := HC
      have HR2 := Lib.hid hr
      have HZ2 := Lib.hid hz
      have H12 := Lib.hid (And.intro h1 h2)
      have HBW := Lib.hid (And.intro hbb hwf)
      clear hW hr h1 h2 hwf hbb hz HB1 HB2 HR HZ HB HW HNT HNB
      go_wp2_with (first
        | (with_reducible refine wpList_load_cav rfl _ rfl rfl HR2.out ?_)
        | (with_reducible refine wpList_store_cav rfl _ _ rfl rfl rfl HZ2.out rfl ?_))
      refine bodyPost_ret (results_cav Try.results7 _ rfl (Whole.setRow HZ2.out _)) rfl ?_
      exact ⟨⟨_, y, rfl, B1, d1, B2, d2, rfl, (H12.out.1.setRow (fun g hg => by omega) _).mono (fun b _ hq => hq.elim (fun h => .inl h.2) (fun h => .inr (by omega))), (H12.out.2.setRow (fun g hg => by omega) _).mono (fun b _ hq => hq.elim (fun h => .inl h.2) (fun h => .inr (by omega))), HBW.out.2⟩, below_setRow HBW.out.1 (by omega) _⟩
    · skip
      have hmk := fun W => make_bytes 1024 1024 rfl (by omega) W
      have hsu : ((w0.alloc (.cells #[.int .i64 0, .int .i64 1, .int .i64 1024, .int .i64 1025] 3))).heap.size = w0.heap.size + 1 := by simp
      have hmd := made_bytes (w0.alloc (.cells #[.int .i64 0, .int .i64 1, .int .i64 1024, .int .i64 1025] 3)) 1024 (by omega)
      rw [hsu] at hmd
      clear hsu
      have hrv : CvRow ((w0.alloc (.cells #[.int .i64 0, .int .i64 1, .int .i64 1024, .int .i64 1025] 3)).alloc (.cells (brow 1024 fun _ => 0#8) 5)) w.heap.size th p pa (.slice A1 nt c1) (.slice A2 nb c2) := (HR.out.alloc _).alloc _
      have y9 := Whole.frozen hrv 9
      have x8v : (((w0.alloc (.cells #[.int .i64 0, .int .i64 1, .int .i64 1024, .int .i64 1025] 3)).alloc (.cells (brow 1024 fun _ => 0#8) 5))).cell? ⟨w.heap.size, 8, none⟩ = some (.slice A1 nt c1) := hrv.cell 8
      have x9v : (((w0.alloc (.cells #[.int .i64 0, .int .i64 1, .int .i64 1024, .int .i64 1025] 3)).alloc (.cells (brow 1024 fun _ => 0#8) 5))).cell? ⟨w.heap.size, 9, none⟩ = some (.slice A2 nb c2) := hrv.cell 9
      have HRV := Lib.hid hrv
      have HMD := Lib.hid (hmd.mono (Q' := fun b => (b < w.heap.size ∧ Q b) ∨ w.heap.size + 2 ≤ b) fun b _ hq => .inr (by have : b = w0.heap.size + 1 := hq; omega))
      have HBV : Hid (Below w.heap.size w ((w0.alloc (.cells #[.int .i64 0, .int .i64 1, .int .i64 1024, .int .i64 1025] 3)).alloc (.cells (brow 1024 fun _ => 0#8) 5))) := Lib.hid (Below.alloc (Below.alloc HB.out (by omega) _) (by simp; omega) _)
      have HZV : Hid (Whole ((w0.alloc (.cells #[.int .i64 0, .int .i64 1, .int .i64 1024, .int .i64 1025] 3)).alloc (.cells (brow 1024 fun _ => 0#8) 5)) (w.heap.size + 1) 27 #[.bool false, .int .i64 0, .int .u64 0, .int .i64 0, .int .i64 0, .string { data := #[] }, .int .i64 0, .int .i64 0, .slice none 0 0, .slice none 0 0]) := Lib.hid ((HZ.out.alloc _).alloc _)
      have H1V : Hid (Bytes ((w0.alloc (.cells #[.int .i64 0, .int .i64 1, .int .i64 1024, .int .i64 1025] 3)).alloc (.cells (brow 1024 fun _ => 0#8) 5)) (fun b => (b < w.heap.size ∧ Q b) ∨ w.heap.size + 2 ≤ b) (.slice A1 nt c1) ti) := Lib.hid ((HB1.out.alloc _).alloc _)
      have H2V : Hid (Bytes ((w0.alloc (.cells #[.int .i64 0, .int .i64 1, .int .i64 1024, .int .i64 1025] 3)).alloc (.cells (brow 1024 fun _ => 0#8) 5)) (fun b => (b < w.heap.size ∧ Q b) ∨ w.heap.size + 2 ≤ b) (.slice A2 nb c2) bo) := Lib.hid ((HB2.out.alloc _).alloc _)
      clear hrv hmd
      go_upto_region 12 with fail
      have HC : CspP w (((w0.alloc (.cells #[.int .i64 0, .int .i64 1, .int .i64 1024, .int .i64 1025] 3)).alloc (.cells (brow 1024 fun _ => 0#8) 5)).setCell ⟨w.heap.size, 9, none⟩ (.slice (some ⟨w0.heap.size + 1, 0, none⟩) 1024 1024)) Q := CspP.mk_ ((by have h9 := Whole.set HRV.out 9 (.slice (some ⟨w0.heap.size + 1, 0, none⟩) 1024 1024); rw [HNT.out] at h9; exact h9 : CvRow (((w0.alloc (.cells #[.int .i64 0, .int .i64 1, .int .i64 1024, .int .i64 1025] 3)).alloc (.cells (brow 1024 fun _ => 0#8) 5)).setCell ⟨w.heap.size, 9, none⟩ (.slice (some ⟨w0.heap.size + 1, 0, none⟩) 1024 1024)) w.heap.size th p pa (.slice A1 ti.length c1) (.slice (some ⟨w0.heap.size + 1, 0, none⟩) (List.replicate 1024 (0 : B8)).length 1024))) ((by have h9 := Bytes.set H1V.out (a := ⟨w.heap.size, 9, none⟩) (fun g hg => by show g ≠ w.heap.size; omega) (.slice (some ⟨w0.heap.size + 1, 0, none⟩) 1024 1024); rw [HNT.out] at h9; exact h9)) ((by have h9 := Bytes.set HMD.out (a := ⟨w.heap.size, 9, none⟩) (fun g hg => by show g ≠ w.heap.size; omega) (.slice (some ⟨w0.heap.size + 1, 0, none⟩) 1024 1024); rw [show (List.replicate 1024 (0 : B8)).length = 1024 by simp]; exact h9)) (⟨HW.out.1, HW.out.2.1, HW.out.2.2.1, by simp⟩) (Below.setCell HBV.out (p := ⟨w.heap.size, 9, none⟩) (Nat.le_refl _) _) (Whole.far HZV.out (a := ⟨w.heap.size, 9, none⟩) (by show w.heap.size + 1 ≠ w.heap.size; omega) _)
      obtain ⟨W, hW⟩ : ∃ W, W = ((w0.alloc (.cells #[.int .i64 0, .int .i64 1, .int .i64 1024, .int .i64 1025] 3)).alloc (.cells (brow 1024 fun _ => 0#8) 5)).setCell ⟨w.heap.size, 9, none⟩ (.slice (some ⟨w0.heap.size + 1, 0, none⟩) 1024 1024) := ⟨_, rfl⟩
      rw [← hW] at HC ⊢
      obtain ⟨y, B1, B2, d1, d2, hr, h1, h2, hwf, hbb, hz⟩ := HC
      have HR2 := Lib.hid hr
      have HZ2 := Lib.hid hz
      have H12 := Lib.hid (And.intro h1 h2)
      have HBW := Lib.hid (And.intro hbb hwf)
      clear hW hr h1 h2 hwf hbb hz HB1 HB2 HR HZ HB HW HNT HNB
      go_wp2_with (first
        | (with_reducible refine wpList_load_cav rfl _ rfl rfl HR2.out ?_)
        | (with_reducible refine wpList_store_cav rfl _ _ rfl rfl rfl HZ2.out rfl ?_))
      refine bodyPost_ret (results_cav Try.results7 _ rfl (Whole.setRow HZ2.out _)) rfl ?_
      exact ⟨⟨_, y, rfl, B1, d1, B2, d2, rfl, (H12.out.1.setRow (fun g hg => by omega) _).mono (fun b _ hq => hq.elim (fun h => .inl h.2) (fun h => .inr (by omega))), (H12.out.2.setRow (fun g hg => by omega) _).mono (fun b _ hq => hq.elim (fun h => .inl h.2) (fun h => .inr (by omega))), HBW.out.2⟩, below_setRow HBW.out.1 (by omega) _⟩
    · skip
      have hmk := fun W => make_bytes 1025 1025 rfl (by omega) W
      have hsu : ((w0.alloc (.cells #[.int .i64 0, .int .i64 1, .int .i64 1024, .int .i64 1025] 3))).heap.size = w0.heap.size + 1 := by simp
      have hmd := made_bytes (w0.alloc (.cells #[.int .i64 0, .int .i64 1, .int .i64 1024, .int .i64 1025] 3)) 1025 (by omega)
      rw [hsu] at hmd
      clear hsu
      have hrv : CvRow ((w0.alloc (.cells #[.int .i64 0, .int .i64 1, .int .i64 1024, .int .i64 1025] 3)).alloc (.cells (brow 1025 fun _ => 0#8) 5)) w.heap.size th p pa (.slice A1 nt c1) (.slice A2 nb c2) := (HR.out.alloc _).alloc _
      have y9 := Whole.frozen hrv 9
      have x8v : (((w0.alloc (.cells #[.int .i64 0, .int .i64 1, .int .i64 1024, .int .i64 1025] 3)).alloc (.cells (brow 1025 fun _ => 0#8) 5))).cell? ⟨w.heap.size, 8, none⟩ = some (.slice A1 nt c1) := hrv.cell 8
      have x9v : (((w0.alloc (.cells #[.int .i64 0, .int .i64 1, .int .i64 1024, .int .i64 1025] 3)).alloc (.cells (brow 1025 fun _ => 0#8) 5))).cell? ⟨w.heap.size, 9, none⟩ = some (.slice A2 nb c2) := hrv.cell 9
      have HRV := Lib.hid hrv
      have HMD := Lib.hid (hmd.mono (Q' := fun b => (b < w.heap.size ∧ Q b) ∨ w.heap.size + 2 ≤ b) fun b _ hq => .inr (by have : b = w0.heap.size + 1 := hq; omega))
      have HBV : Hid (Below w.heap.size w ((w0.alloc (.cells #[.int .i64 0, .int .i64 1, .int .i64 1024, .int .i64 1025] 3)).alloc (.cells (brow 1025 fun _ => 0#8) 5))) := Lib.hid (Below.alloc (Below.alloc HB.out (by omega) _) (by simp; omega) _)
      have HZV : Hid (Whole ((w0.alloc (.cells #[.int .i64 0, .int .i64 1, .int .i64 1024, .int .i64 1025] 3)).alloc (.cells (brow 1025 fun _ => 0#8) 5)) (w.heap.size + 1) 27 #[.bool false, .int .i64 0, .int .u64 0, .int .i64 0, .int .i64 0, .string { data := #[] }, .int .i64 0, .int .i64 0, .slice none 0 0, .slice none 0 0]) := Lib.hid ((HZ.out.alloc _).alloc _)
      have H1V : Hid (Bytes ((w0.alloc (.cells #[.int .i64 0, .int .i64 1, .int .i64 1024, .int .i64 1025] 3)).alloc (.cells (brow 1025 fun _ => 0#8) 5)) (fun b => (b < w.heap.size ∧ Q b) ∨ w.heap.size + 2 ≤ b) (.slice A1 nt c1) ti) := Lib.hid ((HB1.out.alloc _).alloc _)
      have H2V : Hid (Bytes ((w0.alloc (.cells #[.int .i64 0, .int .i64 1, .int .i64 1024, .int .i64 1025] 3)).alloc (.cells (brow 1025 fun _ => 0#8) 5)) (fun b => (b < w.heap.size ∧ Q b) ∨ w.heap.size + 2 ≤ b) (.slice A2 nb c2) bo) := Lib.hid ((HB2.out.alloc _).alloc _)
      clear hrv hmd
      go_upto_region 12 with fail
      have HC : CspP w (((w0.alloc (.cells #[.int .i64 0, .int .i64 1, .int .i64 1024, .int .i64 1025] 3)).alloc (.cells (brow 1025 fun _ => 0#8) 5)).setCell ⟨w.heap.size, 9, none⟩ (.slice (some ⟨w0.heap.size + 1, 0, none⟩) 1025 1025)) Q := CspP.mk_ ((by have h9 := Whole.set HRV.out 9 (.slice (some ⟨w0.heap.size + 1, 0, none⟩) 1025 1025); rw [HNT.out] at h9; exact h9 : CvRow (((w0.alloc (.cells #[.int .i64 0, .int .i64 1, .int .i64 1024, .int .i64 1025] 3)).alloc (.cells (brow 1025 fun _ => 0#8) 5)).setCell ⟨w.heap.size, 9, none⟩ (.slice (some ⟨w0.heap.size + 1, 0, none⟩) 1025 1025)) w.heap.size th p pa (.slice A1 ti.length c1) (.slice (some ⟨w0.heap.size + 1, 0, none⟩) (List.replicate 1025 (0 : B8)).length 1025))) ((by have h9 := Bytes.set H1V.out (a := ⟨w.heap.size, 9, none⟩) (fun g hg => by show g ≠ w.heap.size; omega) (.slice (some ⟨w0.heap.size + 1, 0, none⟩) 1025 1025); rw [HNT.out] at h9; exact h9)) ((by have h9 := Bytes.set HMD.out (a := ⟨w.heap.size, 9, none⟩) (fun g hg => by show g ≠ w.heap.size; omega) (.slice (some ⟨w0.heap.size + 1, 0, none⟩) 1025 1025); rw [show (List.replicate 1025 (0 : B8)).length = 1025 by simp]; exact h9)) (⟨HW.out.1, HW.out.2.1, HW.out.2.2.1, by simp⟩) (Below.setCell HBV.out (p := ⟨w.heap.size, 9, none⟩) (Nat.le_refl _) _) (Whole.far HZV.out (a := ⟨w.heap.size, 9, none⟩) (by show w.heap.size + 1 ≠ w.heap.size; omega) _)
      obtain ⟨W, hW⟩ : ∃ W, W = ((w0.alloc (.cells #[.int .i64 0, .int .i64 1, .int .i64 1024, .int .i64 1025] 3)).alloc (.cells (brow 1025 fun _ => 0#8) 5)).setCell ⟨w.heap.size, 9, none⟩ (.slice (some ⟨w0.heap.size + 1, 0, none⟩) 1025 1025) := ⟨_, rfl⟩
      rw [← hW] at HC ⊢
      obtain ⟨y, B1, B2, d1, d2, hr, h1, h2, hwf, hbb, hz⟩ := HC
      have HR2 := Lib.hid hr
      have HZ2 := Lib.hid hz
      have H12 := Lib.hid (And.intro h1 h2)
      have HBW := Lib.hid (And.intro hbb hwf)
      clear hW hr h1 h2 hwf hbb hz HB1 HB2 HR HZ HB HW HNT HNB
      go_wp2_with (first
        | (with_reducible refine wpList_load_cav rfl _ rfl rfl HR2.out ?_)
        | (with_reducible refine wpList_store_cav rfl _ _ rfl rfl rfl HZ2.out rfl ?_))
      refine bodyPost_ret (results_cav Try.results7 _ rfl (Whole.setRow HZ2.out _)) rfl ?_
      exact ⟨⟨_, y, rfl, B1, d1, B2, d2, rfl, (H12.out.1.setRow (fun g hg => by omega) _).mono (fun b _ hq => hq.elim (fun h => .inl h.2) (fun h => .inr (by omega))), (H12.out.2.setRow (fun g hg => by omega) _).mono (fun b _ hq => hq.elim (fun h => .inl h.2) (fun h => .inr (by omega))), HBW.out.2⟩, below_setRow HBW.out.1 (by omega) _⟩
end Go.Proofs.Ytodmfippjcfbbaa
