/-
  The reference's Decode of a caveat.
  The law CaveatCode.
-/
import Derived.Deep.CutBlock
import Derived.Deep.RegionHeld3
import Derived.Deep.DeepCutAuto
import Derived.Test.YtknhnkmooaopmaaPk38
import Derived.Test.YtknhnkmooaopmaaPk20
import Derived.Test.YtknhnkmooaopmaaPk31
import Derived.Test.YtknhnkmooaopmaaPk30
import Derived.Test.YtknhnkmooaopmaaPk34
namespace Go.Proofs.Ytknhnkmooaopmaa
open Go Go.RowKit Sh Leaf

theorem Qds.new {g : Nat} {b : List B8} {u e : Nat} {w wi wj : World} (h : Qds g b u e w wi) (hb : Below w.heap.size wi wj) (hg : g < w.heap.size) : Qds g b u e w wj :=
  ⟨h.1.below hb hg, h.2.1.trans (hb.mono (Nat.le_of_lt hg)), ⟨fun x t cs hx _ hw => (hb.block x (lt_of_heap hw)).trans (h.2.2.oth x t cs hx hw), fun v hv => (hb.cell (p := ⟨g, 0, none⟩) hg).trans (h.2.2.zero v hv)⟩⟩
theorem Qds.size {g : Nat} {b : List B8} {u e : Nat} {w w' : World} (h : Qds g b u e w w') : w.heap.size ≤ w'.heap.size := h.2.1.size
theorem Qds.rel {g : Nat} {b : List B8} {u e : Nat} {w w' : World} (h : Qds g b u e w w') : Qrd g w' b u e := h.1
theorem qfl_wf {b s : List B8} {u e k e1 : Nat} (h : qfl b u e = (s, k, e1)) : s.length ≤ 1024 := by
  unfold qfl at h
  by_cases he : e = 0
  · rw [if_pos he] at h; exact rdf_wf h
  · rw [if_neg he] at h; injection h with h _; rw [← h]; simp
theorem cdn_thirdq {b : List B8} {k n2 k2 e2 k3 e3 k4 e4 : Nat} {t x : List B8} (h : rd b = (2, k, 0)) (h2 : qnum b k 0 = (n2, k2, e2)) (h3 : qfl b (k + k2) e2 = (t, k3, e3)) (h4 : qfl b (k + k2 + k3) e3 = (x, k4, e4)) :
    cdn b = if e4 = 0 then cfin ⟨true, .zero, n2, t, x⟩ (k + k2 + k3 + k4) else (.zero, 0, e4) := by
  unfold qnum at h2
  rw [if_pos rfl] at h2
  obtain ⟨⟨t', k3', e3'⟩, h3'⟩ : ∃ r, r = rdf (b.drop (k + k2)) := ⟨_, rfl⟩
  obtain ⟨⟨x', k4', e4'⟩, h4'⟩ : ∃ r, r = rdf (b.drop (k + k2 + k3')) := ⟨_, rfl⟩
  rw [cdn_third h h2 h3'.symm h4'.symm]
  unfold qfl at h3 h4
  by_cases q2 : e2 = 0
  · rw [if_pos q2, ← h3'] at h3
    injection h3 with r1 r2
    injection r2 with r2 r3
    subst r1 r2 r3
    rw [if_neg (by simp [q2])]
    by_cases q3 : e3' = 0
    · rw [if_pos q3, ← h4'] at h4
      injection h4 with r1 r2
      injection r2 with r2 r3
      subst r1 r2 r3
      rw [if_neg (by simp [q3])]
      by_cases q4 : e4' = 0
      · rw [if_neg (by simp [q4]), if_pos q4]
      · rw [if_pos q4, if_neg q4]
    · rw [if_neg q3] at h4
      injection h4 with r1 r2
      injection r2 with r2 r3
      subst r1 r2 r3
      rw [if_pos q3, if_neg q3]
  · rw [if_neg q2] at h3
    injection h3 with r1 r2
    injection r2 with r2 r3
    subst r1 r2 r3
    rw [if_neg q2] at h4
    injection h4 with r1 r2
    injection r2 with r2 r3
    subst r1 r2 r3
    rw [if_pos q2, if_neg q2]
/-- Behind the switch of the reference's Decode. -/
def RcC (g : Nat) (b : List B8) (G6 : Nat) (D : Cav × Nat × Nat) (w1 wx : World) : Prop := ∃ (cc : Cav) (A1 : Option Addr) (c1 : Nat) (A2 : Option Addr) (c2 u e : Nat), CvRow wx G6 cc.third cc.first cc.party (.slice A1 cc.ticket.length c1) (.slice A2 cc.box.length c2) ∧ Qds g b u e w1 wx ∧ Bytes wx (fun q => G6 < q) (.slice A1 cc.ticket.length c1) cc.ticket ∧ Bytes wx (fun q => G6 < q) (.slice A2 cc.box.length c2) cc.box ∧ Cwf cc ∧ D = (if e = 0 then cfin cc u else (.zero, 0, e))
/-- Behind the check at the end. -/
def RcP (g : Nat) (b : List B8) (G2 G6 : Nat) (cc : Cav) (A1 A2 : Option Addr) (c1 c2 : Nat) (D : Cav × Nat × Nat) (w w1 wx : World) : Prop := ∃ u E, (E = 0 → D = (cc, u, 0)) ∧ (E ≠ 0 → D = (.zero, 0, E)) ∧ Qrd g wx b u E ∧ Below w.heap.size w wx ∧ CvRow wx G6 cc.third cc.first cc.party (.slice A1 cc.ticket.length c1) (.slice A2 cc.box.length c2) ∧ CvRow wx G2 false .zero 0 (.slice none 0 0) (.slice none 0 0) ∧
  Bytes wx (fun q => w1.heap.size ≤ q) (.slice A1 cc.ticket.length c1) cc.ticket ∧ Bytes wx (fun q => w1.heap.size ≤ q) (.slice A2 cc.box.length c2) cc.box
set_option linter.unusedSimpArgs false in
set_option linter.unusedVariables false in
set_option maxRecDepth 100000 in
set_option maxHeartbeats 4000000 in
theorem rcdec (v : Value) (b : List B8) (Q : Nat → Prop) (w : World) (hr : Bytes w Q v b) :
    Calls Try.prog 24 #[v] w fun e w' => ∃ cv, e = .returned (.tuple #[cv, .int .i64 ((cdn b).2.1 : Int), .int .i64 ((cdn b).2.2 : Int)]) ∧ CavV w' (fun q => w.heap.size ≤ q) cv (cdn b).1 ∧ Below w.heap.size w w' := by
  obtain ⟨A, c, rfl, -⟩ := id hr
  obtain ⟨D, hD⟩ : ∃ D, D = cdn b := ⟨_, rfl⟩
  rw [← hD]
  have HD0 := Lib.hid hD
  obtain ⟨w0, hw0⟩ : ∃ q, q = w.alloc (.cells (cvrow false .zero 0 (.slice none 0 0) (.slice none 0 0)) 27) := ⟨_, rfl⟩
  have hz2 : CvRow w0 w.heap.size false .zero 0 (.slice none 0 0) (.slice none 0 0) := by rw [hw0]; exact Whole.here _ _ _
  have hb0 : Below w.heap.size w w0 := by rw [hw0]; exact (Below.refl _ _).alloc (Nat.le_refl _) _
  have hsw0 : w.heap.size < w0.heap.size := hz2.lt
  obtain ⟨w1, hw1⟩ : ∃ q, q = w0.alloc (.cells #[.slice A b.length c, .int .i64 0, .int .i64 0] 74) := ⟨_, rfl⟩
  have hb1 : Below w0.heap.size w0 w1 := by rw [hw1]; exact (Below.refl _ _).alloc (Nat.le_refl _) _
  have hrd : Qrd w0.heap.size w1 b 0 0 := ⟨A, c, ((hr.mono (Q' := fun x => x < w0.heap.size) fun q hq _ => by omega).below hb0 (Nat.le_refl _)).below hb1 (Nat.le_refl _), by rw [hw1]; exact Whole.here _ _ _, by omega⟩
  have hsw1 : w0.heap.size < w1.heap.size := hrd.lt
  have hz21 := hz2.below hb1 (by omega)
  obtain ⟨w2, hw2⟩ : ∃ q, q = w1.alloc (.cells (cvrow false .zero 0 (.slice none 0 0) (.slice none 0 0)) 27) := ⟨_, rfl⟩
  have hb2 : Below w1.heap.size w1 w2 := by rw [hw2]; exact (Below.refl _ _).alloc (Nat.le_refl _) _
  have hy2 : CvRow w2 w1.heap.size false .zero 0 (.slice none 0 0) (.slice none 0 0) := by rw [hw2]; exact Whole.here _ _ _
  have hsw2 : w1.heap.size < w2.heap.size := hy2.lt
  have hC0 : Qds w0.heap.size b 0 0 w1 w1 := ⟨hrd, Below.refl _ _, Oth.refl _ _⟩
  have hC2 := hC0.new hb2 hsw1
  have HW1 := Lib.hid hw1
  have HW2 := Lib.hid hw2
  have HZ1 : Hid (CvRow w1 w.heap.size false .zero 0 (.slice none 0 0) (.slice none 0 0)) := Lib.hid hz21
  have HB1 := Lib.hid (hb0.trans (hb1.mono (by omega)))
  have HY2 := Lib.hid hy2
  obtain ⟨⟨n, k, e⟩, hrr⟩ : ∃ r, r = rd b := ⟨_, rfl⟩
  have hrr := hrr.symm
  have HRR := Lib.hid hrr
  have hcl := qnumber w0.heap.size b 0 0 w2 hC2.rel n k e (by unfold qnum; rw [if_pos rfl]; exact hrr)
  rw [Nat.zero_add] at hcl
  have HC2 := Lib.hid hC2
  clear hz2 hb0 hb1 hz21 hw1 hr hD hrd hw2 hb2 hy2 hC0 hC2 hrr
  go_enter Try.func24, Try.ntmps24
  go_upto_region 1 with fail
  rw [← cvrow_zero, ← hw0]
  clear hw0
  go_upto_region 2 with fail
  rw [← HW1.out]
  clear HW1
  go_upto_region 3 with fail
  rw [← cvrow_zero, ← HW2.out]
  clear HW2
  go_wp2_with fail
  refine hcl.mono ?_
  rintro x w3 ⟨rfl, h3⟩
  clear hcl
  have hsw3 : w2.heap.size ≤ w3.heap.size := h3.size
  have HC := Lib.hid (HC2.out.trans h3)
  have HY : Hid (CvRow w3 w1.heap.size false .zero 0 (.slice none 0 0) (.slice none 0 0)) := Lib.hid (h3.2.2.oth _ _ _ (by omega) HY2.out)
  clear h3 HC2 HY2
  go_upto_block 0 with fail
  obtain ⟨g, hg⟩ : ∃ g, g = w0.heap.size := ⟨_, rfl⟩
  obtain ⟨G6, hG6⟩ : ∃ g, g = w1.heap.size := ⟨_, rfl⟩
  rw [← hg] at HC hsw0 hsw1
  rw [← hg, ← hG6]
  rw [← hG6] at HY hsw1
  have hgl : g < w1.heap.size := by omega
  have hG1 : w1.heap.size ≤ G6 := by omega
  have hG2 : G6 ≤ w1.heap.size := by omega
  clear hg hG6
  go_cut [] (fun wx => RcC g b G6 D w1 wx)
  case first =>
    by_cases hn1 : n = 1
    · skip
      have he : e = 0 := by
        by_cases he : e = 0
        · exact he
        · have := (rd_err HRR.out he).1; omega
      subst hn1 he
      obtain ⟨⟨p, k1, e1⟩, hd⟩ : ∃ r, r = dn (b.drop k) := ⟨_, rfl⟩
      have hd := hd.symm
      have HD : Hid (D = (if e1 = 0 then cfin ⟨false, p, 0, [], []⟩ (k + k1) else (.zero, 0, e1))) := Lib.hid (by
        rw [HD0.out, cdn_first HRR.out hd]
        by_cases h : e1 = 0
        · rw [if_neg (by simp [h]), if_pos h]
        · rw [if_pos h, if_neg h])
      have HWF := Lib.hid (dn_wf hd)
      have hcl := qpred g b k 0 w3 HC.out.rel p k1 e1 (by unfold qpr; rw [if_pos rfl]; exact hd)
      rw [pv_row] at hcl
      clear hd
      go_wp2_with fail
      refine hcl.mono ?_
      rintro x w4 ⟨rfl, h4⟩
      clear hcl
      have hsw4 : w3.heap.size ≤ w4.heap.size := h4.size
      have hy4 : CvRow w4 G6 false .zero 0 (.slice none 0 0) (.slice none 0 0) := h4.2.2.oth _ _ _ (by omega) HY.out
      have HE : Hid (RcC g b G6 D w1 ((((((w4.setCell ⟨G6, 1, none⟩ (.int .i64 p.kind)).setCell ⟨G6, 2, none⟩ (.int .u64 (p.mask : Int))).setCell ⟨G6, 3, none⟩ (.int .i64 p.lo)).setCell ⟨G6, 4, none⟩ (.int .i64 p.hi)).setCell ⟨G6, 5, none⟩ (.string (sof p.name))).setCell ⟨G6, 6, none⟩ (.int .i64 p.num))) := Lib.hid ⟨⟨false, p, 0, [], []⟩, none, 0, none, 0, k + k1, e1, CvRow.sets hy4 p, (HC.out.trans h4).new (below_sets6 (Below.refl _ _) (by omega) _ _ _ _ _ _) hgl, Bytes.nil _ _, Bytes.nil _ _, ⟨HWF.out.1, HWF.out.2, by simp, by simp⟩, HD.out⟩
      have f1 := hy4.frozen 1
      have f2 := hy4.frozen 2
      have f3 := hy4.frozen 3
      have f4 := hy4.frozen 4
      have f5 := hy4.frozen 5
      have f6 := hy4.frozen 6
      have l1 : w4.cell? ⟨G6, 1, none⟩ = some (.int .i64 0) := hy4.cell 1
      have l2 : w4.cell? ⟨G6, 2, none⟩ = some (.int .u64 0) := hy4.cell 2
      have l3 : w4.cell? ⟨G6, 3, none⟩ = some (.int .i64 0) := hy4.cell 3
      have l4 : w4.cell? ⟨G6, 4, none⟩ = some (.int .i64 0) := hy4.cell 4
      have l5 : w4.cell? ⟨G6, 5, none⟩ = some (.string (sof [])) := hy4.cell 5
      have l6 : w4.cell? ⟨G6, 6, none⟩ = some (.int .i64 0) := hy4.cell 6
      clear h4 hy4 HY HC
      go_wp2_with fail
      go_meet
      exact HE.out
    by_cases hn2 : n = 2
    · skip
      have he : e = 0 := by
        by_cases he : e = 0
        · exact he
        · have := (rd_err HRR.out he).1; omega
      subst hn2 he
      obtain ⟨⟨n2, k2, e2⟩, h2r⟩ : ∃ r, r = qnum b k 0 := ⟨_, rfl⟩
      obtain ⟨⟨tk, k3, e3⟩, h3r⟩ : ∃ r, r = qfl b (k + k2) e2 := ⟨_, rfl⟩
      obtain ⟨⟨bx, k4, e4⟩, h4r⟩ : ∃ r, r = qfl b (k + k2 + k3) e3 := ⟨_, rfl⟩
      have h2r := h2r.symm
      have h3r := h3r.symm
      have h4r := h4r.symm
      have HD : Hid (D = (if e4 = 0 then cfin ⟨true, .zero, (n2 : Int), tk, bx⟩ (k + k2 + k3 + k4) else (.zero, 0, e4))) := Lib.hid (by rw [HD0.out]; exact cdn_thirdq HRR.out h2r h3r h4r)
      have HT := Lib.hid (And.intro (qfl_wf h3r) (qfl_wf h4r))
      have HCL2 := Lib.hid fun W hW => qnumber g b k 0 W hW n2 k2 e2 h2r
      have HCL3 := Lib.hid fun W hW => qfield2 g b (k + k2) e2 W hW tk k3 e3 h3r
      have HCL4 := Lib.hid fun W hW => qfield2 g b (k + k2 + k3) e3 W hW bx k4 e4 h4r
      have hy3 : CvRow w3 G6 false .zero 0 (.slice none 0 0) (.slice none 0 0) := HY.out
      have f0 := hy3.frozen 0
      have l0 : w3.cell? ⟨G6, 0, none⟩ = some (.bool false) := hy3.cell 0
      clear h2r h3r h4r hy3
      go_upto_region 9 with fail
      obtain ⟨v1, hv1⟩ : ∃ q, q = w3.setCell ⟨G6, 0, none⟩ (.bool true) := ⟨_, rfl⟩
      rw [← hv1]
      have hb1 : Below w1.heap.size w3 v1 := by rw [hv1]; exact (Below.refl _ _).setCell (p := ⟨G6, 0, none⟩) (by show w1.heap.size ≤ G6; omega) _
      have HV3 : Hid (CvRow v1 G6 true .zero 0 (.slice none 0 0) (.slice none 0 0)) := Lib.hid (by rw [hv1]; exact CvRow.set0 HY.out true)
      have HCV := Lib.hid (HC.out.new hb1 hgl)
      have hsv1 : w3.heap.size = v1.heap.size := by rw [hv1]; simp
      clear hv1 hb1 f0 l0 HY HC
      have hcl := HCL2.out v1 HCV.out.rel
      go_wp2_with fail
      refine hcl.mono ?_
      rintro x w4 ⟨rfl, h4⟩
      clear hcl
      have hsw4 : v1.heap.size ≤ w4.heap.size := h4.size
      have HC4 := Lib.hid (HCV.out.trans h4)
      have hx3 : CvRow w4 G6 true .zero 0 (.slice none 0 0) (.slice none 0 0) := h4.2.2.oth _ _ _ (by omega) HV3.out
      have HX3 := Lib.hid hx3
      have f7 := hx3.frozen 7
      have l7 : w4.cell? ⟨G6, 7, none⟩ = some (.int .i64 0) := hx3.cell 7
      clear h4 hx3
      go_upto_region 10 with fail
      obtain ⟨v2, hv2⟩ : ∃ q, q = w4.setCell ⟨G6, 7, none⟩ (.int .i64 (n2 : Int)) := ⟨_, rfl⟩
      rw [← hv2]
      have hb2 : Below w1.heap.size w4 v2 := by rw [hv2]; exact (Below.refl _ _).setCell (p := ⟨G6, 7, none⟩) (by show w1.heap.size ≤ G6; omega) _
      have HV3 : Hid (CvRow v2 G6 true .zero (n2 : Int) (.slice none 0 0) (.slice none 0 0)) := Lib.hid (by rw [hv2]; exact CvRow.set7 HX3.out _)
      have HCV := Lib.hid (HC4.out.new hb2 hgl)
      have hsv2 : w4.heap.size = v2.heap.size := by rw [hv2]; simp
      clear hv2 hb2 f7 l7
      have hcl := HCL3.out v2 HCV.out.rel
      go_wp2_with fail
      refine hcl.mono ?_
      rintro x w5 ⟨t3, rfl, hbt, h5⟩
      clear hcl
      have hsw5 : v2.heap.size ≤ w5.heap.size := h5.size
      obtain ⟨A3, c3, rfl, -⟩ := id hbt
      have HBT : Hid (Bytes w5 (fun q => G6 < q) (.slice A3 tk.length c3) tk) := Lib.hid (hbt.mono fun q _ hq => by have hq : v2.heap.size ≤ q := hq; omega)
      have HC5 := Lib.hid (HCV.out.trans h5)
      have hx3 : CvRow w5 G6 true .zero (n2 : Int) (.slice none 0 0) (.slice none 0 0) := h5.2.2.oth _ _ _ (by omega) HV3.out
      have HX3 := Lib.hid hx3
      have f8 := hx3.frozen 8
      have l8 : w5.cell? ⟨G6, 8, none⟩ = some (.slice none 0 0) := hx3.cell 8
      clear h5 hx3 hbt
      go_upto_region 11 with fail
      obtain ⟨v3, hv3⟩ : ∃ q, q = w5.setCell ⟨G6, 8, none⟩ (.slice A3 tk.length c3) := ⟨_, rfl⟩
      rw [← hv3]
      have hb3 : Below w1.heap.size w5 v3 := by rw [hv3]; exact (Below.refl _ _).setCell (p := ⟨G6, 8, none⟩) (by show w1.heap.size ≤ G6; omega) _
      have HV3 : Hid (CvRow v3 G6 true .zero (n2 : Int) (.slice A3 tk.length c3) (.slice none 0 0)) := Lib.hid (by rw [hv3]; exact CvRow.set8 HX3.out _)
      have HBT3 : Hid (Bytes v3 (fun q => G6 < q) (.slice A3 tk.length c3) tk) := Lib.hid (by rw [hv3]; exact HBT.out.keep fun q _ hq => heap_setCell_other _ ⟨G6, 8, none⟩ q _ (by show q ≠ G6; omega))
      have HCV := Lib.hid (HC5.out.new hb3 hgl)
      have hsv3 : w5.heap.size = v3.heap.size := by rw [hv3]; simp
      clear hv3 hb3 f8 l8 HBT
      have hcl := HCL4.out v3 HCV.out.rel
      go_wp2_with fail
      refine hcl.mono ?_
      rintro x w6 ⟨t4, rfl, hbt, h6⟩
      clear hcl
      have hsw6 : v3.heap.size ≤ w6.heap.size := h6.size
      obtain ⟨A4, c4, rfl, -⟩ := id hbt
      have hbb : Bytes w6 (fun q => G6 < q) (.slice A4 bx.length c4) bx := hbt.mono fun q _ hq => by have hq : v3.heap.size ≤ q := hq; omega
      have hbt4 : Bytes w6 (fun q => G6 < q) (.slice A3 tk.length c3) tk := HBT3.out.oth h6.2.2 fun q hq => by have hq : G6 < q := hq; omega
      have hx3 : CvRow w6 G6 true .zero (n2 : Int) (.slice A3 tk.length c3) (.slice none 0 0) := h6.2.2.oth _ _ _ (by omega) HV3.out
      have HE : Hid (RcC g b G6 D w1 (w6.setCell ⟨G6, 9, none⟩ (.slice A4 bx.length c4))) := Lib.hid ⟨⟨true, .zero, (n2 : Int), tk, bx⟩, A3, c3, A4, c4, k + k2 + k3 + k4, e4, CvRow.set9 hx3 _, (HCV.out.trans h6).new ((Below.refl _ _).setCell (p := ⟨G6, 9, none⟩) (by show w1.heap.size ≤ G6; omega) _) hgl,
        hbt4.keep fun q _ hq => heap_setCell_other _ ⟨G6, 9, none⟩ q _ (by show q ≠ G6; omega), hbb.keep fun q _ hq => heap_setCell_other _ ⟨G6, 9, none⟩ q _ (by show q ≠ G6; omega), ⟨by simp, by simp, Nat.le_trans HT.out.1 (by omega), Nat.le_trans HT.out.2 (by omega)⟩, HD.out⟩
      have f9 := hx3.frozen 9
      have l9 : w6.cell? ⟨G6, 9, none⟩ = some (.slice none 0 0) := hx3.cell 9
      clear h6 hx3 hbt hbb hbt4 HBT3 HV3 HCV HCL2 HCL3 HCL4
      go_wp2_with fail
      go_meet
      exact HE.out
    have HD : Hid (D = (if fste e 6 = 0 then cfin .zero k else (.zero, 0, fste e 6))) := Lib.hid (by
      rw [HD0.out]
      unfold fste
      by_cases he : e = 0
      · subst he
        rw [if_pos rfl, if_neg (by simp), cdn_kind HRR.out hn1 hn2]
      · rw [if_neg he, if_neg he, cdn_err HRR.out he])
    have hcl := qfail g b k e 6 w3 HC.out.rel
    obtain ⟨E, hE⟩ : ∃ E, E = fste e 6 := ⟨_, rfl⟩
    rw [← hE] at hcl HD
    have i1 : ¬ (n : Int) = 1 := by omega
    have i2 : ¬ (n : Int) = 2 := by omega
    clear hE hn1 hn2
    go_wp2_with fail
    refine hcl.mono ?_
    rintro x w4 ⟨⟨v, rfl⟩, h4⟩
    clear hcl
    have HE : Hid (RcC g b G6 D w1 w4) := Lib.hid ⟨.zero, none, 0, none, 0, k, E, h4.2.2.oth _ _ _ (by omega) HY.out, HC.out.trans h4, Bytes.nil _ _, Bytes.nil _ _, ⟨by simp, by simp, by simp, by simp⟩, HD.out⟩
    clear h4
    go_wp2_with fail
    go_meet
    exact HE.out
  case rest =>
    clear HY HC HRR
    obtain ⟨cc, A1, c1, A2, c2, u, er, hE6, hC, hB1, hB2, hwf, hcdn⟩ := hcut
    have hDD : (cvok cc → (er = 0 → D = (cc, u, 0)) ∧ (er ≠ 0 → D = (.zero, 0, er))) ∧ (¬ cvok cc → (fste er 5 ≠ 0) ∧ D = (.zero, 0, fste er 5)) := by
      rw [hcdn]
      unfold fste
      by_cases he : er = 0
      · rw [if_pos he, if_pos he]
        exact ⟨fun h => ⟨fun _ => cfin_ok h u, fun h2 => absurd he h2⟩, fun h => ⟨by simp, cfin_bad h u⟩⟩
      · rw [if_neg he, if_neg he]
        exact ⟨fun h => ⟨fun h2 => absurd h2 he, fun _ => rfl⟩, fun h => ⟨he, rfl⟩⟩
    have HDD := Lib.hid hDD
    have HWF := Lib.hid hwf
    have hsc : w1.heap.size ≤ wc.heap.size := hC.size
    have hG6c : G6 < wc.heap.size := hE6.lt
    have HC3 := Lib.hid hC.rel
    have HB3 : Hid (Below w.heap.size w wc) := Lib.hid (HB1.out.trans (Below.mono hC.2.1 (by omega)))
    have HZ3 : Hid (CvRow wc w.heap.size false .zero 0 (.slice none 0 0) (.slice none 0 0)) := Lib.hid (hC.2.2.oth _ _ _ (by omega) HZ1.out)
    have HE3 := Lib.hid hE6
    have HT3 : Hid (Bytes wc (fun q => w1.heap.size ≤ q) (.slice A1 cc.ticket.length c1) cc.ticket) := Lib.hid (hB1.mono fun q _ hq => by have hq : G6 < q := hq; omega)
    have HX3 : Hid (Bytes wc (fun q => w1.heap.size ≤ q) (.slice A2 cc.box.length c2) cc.box) := Lib.hid (hB2.mono fun q _ hq => by have hq : G6 < q := hq; omega)
    clear hE6 hC hB1 hB2 hcdn hDD hwf HZ1
    have hcl := rcvalid (w := wc) (Q := fun q => w1.heap.size ≤ q) (c := cc) ⟨A1, c1, A2, c2, rfl, HT3.out, HX3.out, HWF.out⟩
    obtain ⟨R, hR⟩ : ∃ R, R = decide (cvok cc) := ⟨_, rfl⟩
    rw [← hR] at hcl
    have HRD := Lib.hid hR
    clear hR
    go_wp2_with (with_reducible refine wpList_load_cav rfl _ rfl rfl HE3.out ?_)
    refine hcl.mono ?_
    rintro e w4 ⟨rfl, hb4⟩
    clear hcl
    have hsw4 : wc.heap.size ≤ w4.heap.size := hb4.size
    have HC4 := Lib.hid (HC3.out.below hb4 (by omega))
    have HB4 := Lib.hid (HB3.out.trans (hb4.mono (by omega)))
    have HZ4 : Hid (CvRow w4 w.heap.size false .zero 0 (.slice none 0 0) (.slice none 0 0)) := Lib.hid (Whole.below HZ3.out hb4 (by omega))
    have HE4 : Hid (CvRow w4 G6 cc.third cc.first cc.party (.slice A1 cc.ticket.length c1) (.slice A2 cc.box.length c2)) := Lib.hid (Whole.below HE3.out hb4 (by omega))
    have HT4 := Lib.hid (HT3.out.below hb4 (Nat.le_refl _))
    have HX4 := Lib.hid (HX3.out.below hb4 (Nat.le_refl _))
    clear hb4 HC3 HB3 HZ3 HE3 HT3 HX3 HB1
    go_upto_if 33 with fail
    go_cut [] (fun wx => RcP g b w.heap.size G6 cc A1 A2 c1 c2 D w w1 wx)
    case first =>
      cases R
      · have hno : ¬ cvok cc := by have := HRD.out; simpa using this
        obtain ⟨hE1, hE2⟩ := HDD.out.2 hno
        have hcl := qfail g b u er 5 w4 HC4.out
        obtain ⟨E, hE⟩ : ∃ E, E = fste er 5 := ⟨_, rfl⟩
        rw [← hE] at hE1 hE2 hcl
        have HEE := Lib.hid (And.intro hE1 hE2)
        clear hE hE1 hE2 hno
        go_wp2_with fail
        refine hcl.mono ?_
        rintro e w5 ⟨⟨v5, rfl⟩, h5⟩
        clear hcl
        have hr := HC4.out.lt
        have HG5 : Hid (RcP g b w.heap.size G6 cc A1 A2 c1 c2 D w w1 w5) := Lib.hid ⟨u, E, fun h => absurd h HEE.out.1, fun _ => HEE.out.2, h5.1, HB4.out.trans (h5.2.1.mono (by omega)), h5.2.2.oth _ _ _ (by omega) HE4.out, h5.2.2.oth _ _ _ (by omega) HZ4.out, HT4.out.oth h5.2.2 (fun q hq => by have hq : w1.heap.size ≤ q := hq; omega), HX4.out.oth h5.2.2 (fun q hq => by have hq : w1.heap.size ≤ q := hq; omega)⟩
        clear h5
        go_wp2_with fail
        go_meet
        exact HG5.out
      · have hok : cvok cc := by have := HRD.out; simpa using this
        have HEE := Lib.hid (HDD.out.1 hok)
        clear hok
        go_wp2_with fail
        go_meet
        exact ⟨u, er, HEE.out.1, HEE.out.2, HC4.out, HB4.out, HE4.out, HZ4.out, HT4.out, HX4.out⟩
    case rest =>
      clear HC4 HB4 HZ4 HE4 HT4 HX4 HDD HRD
      obtain ⟨u, E, hE1, hE2, hC, hb, he6, hz, ht, hx⟩ := hcut
      have hwcs : G6 < wc.heap.size := he6.lt
      obtain ⟨A', c', hbb, hW, hu⟩ := id hC
      have l1 : wc.cell? ⟨g, 1, none⟩ = some (.int .i64 (u : Int)) := hW.cell 1
      have l2 : wc.cell? ⟨g, 2, none⟩ = some (.int .i64 (E : Int)) := hW.cell 2
      have HWR := Lib.hid hW
      have HB := Lib.hid hb
      have HE6 := Lib.hid he6
      have HZ := Lib.hid hz
      have HT := Lib.hid ht
      have HX := Lib.hid hx
      have L1 := Lib.hid l1
      have L2 := Lib.hid l2
      have HE1 := Lib.hid hE1
      have HE2 := Lib.hid hE2
      clear hb he6 hz ht hx hC hbb hW hu hE1 hE2 l1
      by_cases hE0 : E = 0
      case neg =>
        have hDz := HE2.out hE0
        subst hDz
        have hE0i : ¬ (E : Int) = 0 := by omega
        clear hE0 HD0 HE1 HE2
        go_upto_region 15 with fail
        refine wp_region_held_drew (S := fun W : World => W.cell? ⟨g, 2, none⟩ = some (.int .i64 (E : Int))) (by kernel_rfl) (L2.out) (fun hHeld => ?_)
        apply wpAnyH_take (i := 0) rfl (by kernel_rfl) (by kernel_rfl) (by kernel_rfl)
        case hQ => exact fun _ _ _ h => h
        case hS => exact hHeld
        case hy => (refine Or.inl ⟨by rfl, ?_⟩; intro w hSw; (try go_split_ands); go_simp; (try with_reducible rfl))
        (try simp only [List.getElem_toArray, List.getElem_cons_zero, Act.put, List.setIfInBounds_toArray, List.set_cons_zero, List.set_cons_succ])
        apply wpAnyH_take (i := 1) rfl (by kernel_rfl) (by kernel_rfl) (by kernel_rfl)
        case hQ => exact fun _ _ _ h => h
        case hS => exact hHeld
        case hy => (refine Or.inl ⟨by rfl, ?_⟩; intro w hSw; (try go_split_ands); go_simp; (try with_reducible rfl))
        (try simp only [List.getElem_toArray, List.getElem_cons_succ, List.getElem_cons_zero, Act.put, List.setIfInBounds_toArray, List.set_cons_zero, List.set_cons_succ])
        apply wpAnyH_take (i := 2) rfl (by kernel_rfl) (by kernel_rfl) (by kernel_rfl)
        case hQ => exact fun _ _ _ h => h
        case hS => exact hHeld
        case hy => (refine Or.inl ⟨by rfl, ?_⟩; intro w hSw; (try go_split_ands); go_simp; (try with_reducible rfl))
        (try simp only [List.getElem_toArray, List.getElem_cons_succ, List.getElem_cons_zero, Act.put, List.setIfInBounds_toArray, List.set_cons_zero, List.set_cons_succ])
        apply wpAnyH_take (i := 3) rfl (by kernel_rfl) (by kernel_rfl) (by kernel_rfl)
        case hQ => exact fun _ _ _ h => h
        case hS => exact hHeld
        case hy => (refine Or.inl ⟨by rfl, ?_⟩; intro w hSw; (try go_split_ands); go_simp; (try with_reducible rfl))
        (try simp only [List.getElem_toArray, List.getElem_cons_succ, List.getElem_cons_zero, Act.put, List.setIfInBounds_toArray, List.set_cons_zero, List.set_cons_succ])
        apply wpAnyH_take (i := 4) rfl (by kernel_rfl) (by kernel_rfl) (by kernel_rfl)
        case hQ => exact fun _ _ _ h => h
        case hS => exact hHeld
        case hy => (refine Or.inl ⟨by rfl, ?_⟩; intro w hSw; (try go_split_ands); go_simp; (try with_reducible rfl))
        (try simp only [List.getElem_toArray, List.getElem_cons_succ, List.getElem_cons_zero, Act.put, List.setIfInBounds_toArray, List.set_cons_zero, List.set_cons_succ])
        refine wpAnyH_ready (rs := [5]) (by kernel_rfl) (by simp) ?_
        refine AllReadyH.cons rfl (fun KK hKK => ?_) AllReadyH.nil
        obtain ⟨W1, hW1⟩ : ∃ x, x = wc.drew.setRow w.heap.size (cvrow false .zero 0 (.slice none 0 0) (.slice none 0 0)) := ⟨_, rfl⟩
        have hzd : CvRow wc.drew w.heap.size false .zero 0 (.slice none 0 0) (.slice none 0 0) := Whole.drew HZ.out
        have hfin : CvRow W1 w.heap.size false .zero 0 (.slice none 0 0) (.slice none 0 0) := by rw [hW1]; exact Whole.setRow hzd _
        have hbf : Below w.heap.size w W1 := by rw [hW1]; exact below_setRow (Below.drew HB.out) (Nat.le_refl _) _
        have hS1 : W1.cell? ⟨g, 2, none⟩ = some (.int .i64 (E : Int)) := by rw [hW1]; exact (Whole.setRow_far (Whole.drew HWR.out) (by omega) _).cell 2
        rw [if_pos (by kernel_rfl)]
        refine wp_store_row 27 _ _ rfl (w.heap.size) _ rfl rfl 27 _ hzd (by rw [cavSize]; rfl) (by rw [cvrow_size]; rfl) (by simp [Value.oneCell']) ?_
        rw [← cvrow_zero, ← hW1]
        clear hW1
        refine hKK.out _ _ (hS1) (fun hHeld => ?_)
        clear hKK KK
        (try simp only [List.getElem_toArray, List.getElem_cons_succ, List.getElem_cons_zero, Act.put, List.setIfInBounds_toArray, List.set_cons_zero, List.set_cons_succ])
        apply wpAnyH_take (i := 6) rfl (by kernel_rfl) (by kernel_rfl) (by kernel_rfl)
        case hQ => exact fun _ _ _ h => h
        case hS => exact hHeld
        case hy => (refine Or.inl ⟨by rfl, ?_⟩; intro w hSw; (try go_split_ands); go_simp; (try with_reducible rfl))
        (try simp only [List.getElem_toArray, List.getElem_cons_succ, List.getElem_cons_zero, Act.put, List.setIfInBounds_toArray, List.set_cons_zero, List.set_cons_succ])
        apply wpAnyH_take (i := 7) rfl (by kernel_rfl) (by kernel_rfl) (by kernel_rfl)
        case hQ => exact fun _ _ _ h => h
        case hS => exact hHeld
        case hy => (refine Or.inl ⟨by rfl, ?_⟩; intro w hSw; (try go_split_ands); go_simp; (try with_reducible rfl))
        (try simp only [List.getElem_toArray, List.getElem_cons_succ, List.getElem_cons_zero, Act.put, List.setIfInBounds_toArray, List.set_cons_zero, List.set_cons_succ])
        refine wpAnyH_done (by kernel_rfl) ?_ _
        clear hHeld
        go_wp2_with fail
        refine bodyPost_ret (results_cav2 Try.results24 _ rfl _ _ rfl rfl hfin) rfl ?_
        exact ⟨_, rfl, CavV.zero _ _, hbf⟩
      case pos =>
        subst hE0
        have hDz := HE1.out rfl
        subst hDz
        clear HD0 HE1 HE2
        go_upto_region 16 with fail
        have her : wc.drew.rangeAt G6 0 [.bool cc.third, .int .i64 cc.first.kind, .int .u64 (cc.first.mask : Int), .int .i64 cc.first.lo, .int .i64 cc.first.hi, .string (sof cc.first.name), .int .i64 cc.first.num, .int .i64 cc.party, .slice A1 cc.ticket.length c1, .slice A2 cc.box.length c2] := cav_range (Whole.drew HE6.out)
        refine wp_region_held_drew (S := fun W : World => W.rangeAt G6 0 [.bool cc.third, .int .i64 cc.first.kind, .int .u64 (cc.first.mask : Int), .int .i64 cc.first.lo, .int .i64 cc.first.hi, .string (sof cc.first.name), .int .i64 cc.first.num, .int .i64 cc.party, .slice A1 cc.ticket.length c1, .slice A2 cc.box.length c2] ∧ W.cell? ⟨g, 1, none⟩ = some (.int .i64 (u : Int))) (by kernel_rfl) (⟨her, L1.out⟩) (fun hHeld => ?_)
        apply wpAnyH_take (i := 0) rfl (by kernel_rfl) (by kernel_rfl) (by kernel_rfl)
        case hQ => exact fun _ _ _ h => h
        case hS => exact hHeld
        case hy => exact yieldsIf_load_mid (by rfl) 27 _ rfl G6 (0) rfl ([.bool cc.third, .int .i64 cc.first.kind, .int .u64 (cc.first.mask : Int), .int .i64 cc.first.lo, .int .i64 cc.first.hi, .string (sof cc.first.name), .int .i64 cc.first.num, .int .i64 cc.party, .slice A1 cc.ticket.length c1, .slice A2 cc.box.length c2]) _ (fun w hS => hS.1) Try.underlying27 rfl (by rw [cavSize]; rfl)
        (try simp only [List.getElem_toArray, List.getElem_cons_zero, Act.put, List.setIfInBounds_toArray, List.set_cons_zero, List.set_cons_succ])
        apply wpAnyH_take (i := 1) rfl (by kernel_rfl) (by kernel_rfl) (by kernel_rfl)
        case hQ => exact fun _ _ _ h => h
        case hS => exact hHeld
        case hy => (refine Or.inl ⟨by rfl, ?_⟩; intro w hSw; (try go_split_ands); go_simp; (try with_reducible rfl))
        (try simp only [List.getElem_toArray, List.getElem_cons_succ, List.getElem_cons_zero, Act.put, List.setIfInBounds_toArray, List.set_cons_zero, List.set_cons_succ])
        apply wpAnyH_take (i := 2) rfl (by kernel_rfl) (by kernel_rfl) (by kernel_rfl)
        case hQ => exact fun _ _ _ h => h
        case hS => exact hHeld
        case hy => (refine Or.inl ⟨by rfl, ?_⟩; intro w hSw; (try go_split_ands); go_simp; (try with_reducible rfl))
        (try simp only [List.getElem_toArray, List.getElem_cons_succ, List.getElem_cons_zero, Act.put, List.setIfInBounds_toArray, List.set_cons_zero, List.set_cons_succ])
        apply wpAnyH_take (i := 3) rfl (by kernel_rfl) (by kernel_rfl) (by kernel_rfl)
        case hQ => exact fun _ _ _ h => h
        case hS => exact hHeld
        case hy => (refine Or.inl ⟨by rfl, ?_⟩; intro w hSw; (try go_split_ands); go_simp; (try with_reducible rfl))
        (try simp only [List.getElem_toArray, List.getElem_cons_succ, List.getElem_cons_zero, Act.put, List.setIfInBounds_toArray, List.set_cons_zero, List.set_cons_succ])
        apply wpAnyH_take (i := 4) rfl (by kernel_rfl) (by kernel_rfl) (by kernel_rfl)
        case hQ => exact fun _ _ _ h => h
        case hS => exact hHeld
        case hy => (refine Or.inl ⟨by rfl, ?_⟩; intro w hSw; (try go_split_ands); go_simp; (try with_reducible rfl))
        (try simp only [List.getElem_toArray, List.getElem_cons_succ, List.getElem_cons_zero, Act.put, List.setIfInBounds_toArray, List.set_cons_zero, List.set_cons_succ])
        refine wpAnyH_ready (rs := [5]) (by kernel_rfl) (by simp) ?_
        refine AllReadyH.cons rfl (fun KK hKK => ?_) AllReadyH.nil
        obtain ⟨W1, hW1⟩ : ∃ x, x = wc.drew.setRow w.heap.size (cvrow cc.third cc.first cc.party (.slice A1 cc.ticket.length c1) (.slice A2 cc.box.length c2)) := ⟨_, rfl⟩
        have hzd : CvRow wc.drew w.heap.size false .zero 0 (.slice none 0 0) (.slice none 0 0) := Whole.drew HZ.out
        have hfin : CvRow W1 w.heap.size cc.third cc.first cc.party (.slice A1 cc.ticket.length c1) (.slice A2 cc.box.length c2) := by rw [hW1]; exact Whole.setRow hzd _
        have hbf : Below w.heap.size w W1 := by rw [hW1]; exact below_setRow (Below.drew HB.out) (Nat.le_refl _) _
        have hft : Bytes W1 (fun q => w.heap.size ≤ q) (.slice A1 cc.ticket.length c1) cc.ticket := by rw [hW1]; exact (HT.out.drew.keep fun q _ hq => setRow_other _ _ q _ (by have hq : w1.heap.size ≤ q := hq; omega)).mono fun q _ hq => by have hq : w1.heap.size ≤ q := hq; omega
        have hfx : Bytes W1 (fun q => w.heap.size ≤ q) (.slice A2 cc.box.length c2) cc.box := by rw [hW1]; exact (HX.out.drew.keep fun q _ hq => setRow_other _ _ q _ (by have hq : w1.heap.size ≤ q := hq; omega)).mono fun q _ hq => by have hq : w1.heap.size ≤ q := hq; omega
        have hS1 : W1.rangeAt G6 0 [.bool cc.third, .int .i64 cc.first.kind, .int .u64 (cc.first.mask : Int), .int .i64 cc.first.lo, .int .i64 cc.first.hi, .string (sof cc.first.name), .int .i64 cc.first.num, .int .i64 cc.party, .slice A1 cc.ticket.length c1, .slice A2 cc.box.length c2] ∧ W1.cell? ⟨g, 1, none⟩ = some (.int .i64 (u : Int)) := by rw [hW1]; exact ⟨cav_range (Whole.setRow_far (Whole.drew HE6.out) (by omega) _), (Whole.setRow_far (Whole.drew HWR.out) (by omega) _).cell 1⟩
        rw [if_pos (by kernel_rfl)]
        refine wp_store_row 27 _ _ rfl (w.heap.size) (cvrow cc.third cc.first cc.party (.slice A1 cc.ticket.length c1) (.slice A2 cc.box.length c2)) rfl rfl 27 _ hzd (by rw [cavSize]; rfl) (by rw [cvrow_size]; rfl) (cavCells _ _ _ _ _ _ _ _ _) ?_
        rw [← hW1]
        clear hW1
        refine hKK.out _ _ (hS1) (fun hHeld => ?_)
        clear hKK KK
        (try simp only [List.getElem_toArray, List.getElem_cons_succ, List.getElem_cons_zero, Act.put, List.setIfInBounds_toArray, List.set_cons_zero, List.set_cons_succ])
        apply wpAnyH_take (i := 6) rfl (by kernel_rfl) (by kernel_rfl) (by kernel_rfl)
        case hQ => exact fun _ _ _ h => h
        case hS => exact hHeld
        case hy => (refine Or.inl ⟨by rfl, ?_⟩; intro w hSw; (try go_split_ands); go_simp; (try with_reducible rfl))
        (try simp only [List.getElem_toArray, List.getElem_cons_succ, List.getElem_cons_zero, Act.put, List.setIfInBounds_toArray, List.set_cons_zero, List.set_cons_succ])
        apply wpAnyH_take (i := 7) rfl (by kernel_rfl) (by kernel_rfl) (by kernel_rfl)
        case hQ => exact fun _ _ _ h => h
        case hS => exact hHeld
        case hy => (refine Or.inl ⟨by rfl, ?_⟩; intro w hSw; (try go_split_ands); go_simp; (try with_reducible rfl))
        (try simp only [List.getElem_toArray, List.getElem_cons_succ, List.getElem_cons_zero, Act.put, List.setIfInBounds_toArray, List.set_cons_zero, List.set_cons_succ])
        refine wpAnyH_done (by kernel_rfl) ?_ _
        clear hHeld
        go_wp2_with fail
        refine bodyPost_ret (results_cav2 Try.results24 _ rfl _ _ rfl rfl hfin) rfl ?_
        exact ⟨_, rfl, ⟨A1, c1, A2, c2, rfl, hft, hfx, HWF.out⟩, hbf⟩
end Go.Proofs.Ytknhnkmooaopmaa
namespace Go.Proofs.Ytknhnkmooaopmaa
open Go Go.RowKit Sh Leaf

set_option linter.unusedSimpArgs false in
set_option linter.unusedVariables false in
set_option maxRecDepth 100000 in
set_option maxHeartbeats 8000000 in
theorem ccode_law {Q1 Q2 Q3 : Nat → Prop} (th : Bool) (p : Prd) (pa : Int) (A1 : Option Addr) (x : List B8) (c1 : Nat) (A2 : Option Addr) (y : List B8) (c2 : Nat) (A0 : Option Addr) (r : List B8) (c0 : Nat) (A3 : Option Addr) (l3 : List Int) (c3 : Nat) (za : Int) (hza : -9223372036854775808 ≤ za ∧ za ≤ 9223372036854775807) (y0 : B8) (zc : Int) (hzc : -9223372036854775808 ≤ zc ∧ zc ≤ 9223372036854775807) (w : World)
    (hB1 : Bytes w Q1 (.slice A1 x.length c1) x) (hB2 : Bytes w Q2 (.slice A2 y.length c2) y) (hm : p.mask < 18446744073709551616) (hn : p.name.length ≤ 9223372036854775807) (hB : Bytes w Q3 (.slice A0 r.length c0) r) (hI : Ints w (fun b => b < w.heap.size) A3 c3 l3) :
    Calls Try.prog 4 #[.agg (cvrow th p pa (.slice A1 x.length c1) (.slice A2 y.length c2)), .slice A0 r.length c0, .slice A3 l3.length c3, .int .i64 za, byt y0, .int .i64 zc] w fun e w' => e = .returned (.bool true) ∧ Below w.heap.size w w' := by
  have HC := (hB.mono (Q' := fun b => b < w.heap.size) fun b hb _ => hb).cut 200
  have E : min (r.length : Int) 200 = ((r.take 200).length : Int) := by rw [List.length_take]; omega
  have hqX : (r.take 200).length ≤ 200 := by simp; omega
  obtain ⟨A9, c9, e9, h1X, h2X, -, -⟩ := id HC
  cases e9
  generalize r.take 200 = R0 at *
  have h1Xi : (R0.length : Int) ≤ (c0 : Int) := by omega
  obtain ⟨nr, hnr⟩ : ∃ n, n = r.length := ⟨_, rfl⟩
  rw [← hnr] at E ⊢
  clear hnr hB
  obtain ⟨p0, hp0⟩ : ∃ q, q = w.alloc (.cells (cvrow th p pa (.slice A1 x.length c1) (.slice A2 y.length c2)) 27) := ⟨_, rfl⟩
  have hr : CvRow p0 w.heap.size th p pa (.slice A1 x.length c1) (.slice A2 y.length c2) := by rw [hp0]; exact Whole.here _ _ _
  have hb : Below w.heap.size w p0 := by rw [hp0]; exact (Below.refl _ _).alloc (Nat.le_refl _) _
  have hps : w.heap.size < p0.heap.size := hr.lt
  have b1 := (hB1.mono (Q' := fun q => q < w.heap.size) fun q hq _ => hq).below hb (Nat.le_refl _)
  have b2 := (hB2.mono (Q' := fun q => q < w.heap.size) fun q hq _ => hq).below hb (Nat.le_refl _)
  have hcl := fun W (hW : Below p0.heap.size p0 W) => cfew th p pa A1 x c1 A2 y c2 (b1.below hW (by omega)) (b2.below hW (by omega))
  have t1 := b1.cut 1100
  have t2 := b2.cut 1100
  have hx1 : (x.take 1100).length ≤ 5000 := by rw [List.length_take]; omega
  have hx2 : (y.take 1100).length ≤ 5000 := by rw [List.length_take]; omega
  obtain ⟨nx, hnx⟩ : ∃ n, n = x.length := ⟨_, rfl⟩
  obtain ⟨ny, hny⟩ : ∃ n, n = y.length := ⟨_, rfl⟩
  obtain ⟨X, hX⟩ : ∃ n, n = x.take 1100 := ⟨_, rfl⟩
  obtain ⟨Y, hY⟩ : ∃ n, n = y.take 1100 := ⟨_, rfl⟩
  rw [← hX, ← hY] at hcl
  rw [← hX] at t1 hx1
  rw [← hY] at t2 hx2
  rw [← hnx, ← hny] at hcl hr hp0
  rw [← hnx, ← hny]
  have hF := (HC.below hb (Nat.le_refl _)).mono (Q' := fun q => q < w.heap.size) fun q _ hq => hq
  have HT := Lib.hid (And.intro t1 t2)
  have HXL := Lib.hid (And.intro hx1 hx2)
  have HMN := Lib.hid (And.intro hm hn)
  have HR := Lib.hid (Whole.drew hr)
  have HB := Lib.hid hb
  have HX := Lib.hid hF
  have HI := Lib.hid hI
  have HZA := Lib.hid (And.intro hza hzc)
  have hr0 : p0.drew.rangeAt w.heap.size 0 [.bool th, .int .i64 p.kind, .int .u64 (p.mask : Int), .int .i64 p.lo, .int .i64 p.hi, .string (sof p.name), .int .i64 p.num, .int .i64 pa, .slice A1 nx c1, .slice A2 ny c2] := cav_range (cc := ⟨th, p, pa, X, Y⟩) HR.out
  clear hnx hny hX hY hr hb b1 b2 t1 t2 hx1 hx2 hF HC hI hB1 hB2 hm hn hza hzc
  go_enter Try.func4, Try.ntmps4
  go_upto_region 1 with fail
  rw [← hp0]
  clear hp0
  have hb0 : Below p0.heap.size p0 p0.drew := (Below.refl _ _).drew
  refine wp_region_G (fun W : World => W.rangeAt w.heap.size 0 [.bool th, .int .i64 p.kind, .int .u64 (p.mask : Int), .int .i64 p.lo, .int .i64 p.hi, .string (sof p.name), .int .i64 p.num, .int .i64 pa, .slice A1 nx c1, .slice A2 ny c2]) (fun _ => True) [7] (by kernel_rfl) ?_
  generalize p0.drew = W0 at hb0 hr0 HR ⊢
  have hHeld : (fun W : World => W.rangeAt w.heap.size 0 [.bool th, .int .i64 p.kind, .int .u64 (p.mask : Int), .int .i64 p.lo, .int .i64 p.hi, .string (sof p.name), .int .i64 p.num, .int .i64 pa, .slice A1 nx c1, .slice A2 ny c2]) W0 := hr0
  apply AnyG_take (i := 0) rfl (by kernel_rfl) (by kernel_rfl) (by kernel_rfl) (by kernel_rfl)
  case hQ => exact fun _ _ _ h => h
  case hB => exact trivial
  case hC => exact hHeld
  case hy => exact yieldsIf_load_mid (by rfl) 27 _ rfl w.heap.size (0) rfl ([.bool th, .int .i64 p.kind, .int .u64 (p.mask : Int), .int .i64 p.lo, .int .i64 p.hi, .string (sof p.name), .int .i64 p.num, .int .i64 pa, .slice A1 nx c1, .slice A2 ny c2]) _ (fun w hS => hS) Try.underlying27 rfl (by rw [cavSize]; rfl)
  (try simp only [List.getElem_toArray, List.getElem_cons_zero, Act.put, List.setIfInBounds_toArray, List.set_cons_zero, List.set_cons_succ])
  apply AnyG_pure (i := 2) rfl (by kernel_rfl) (by kernel_rfl) (by kernel_rfl) (by kernel_rfl)
  case hQ => exact fun _ _ _ h => h
  case hB => exact trivial
  case hC => exact .inr hHeld
  case hy => (refine Or.inl ⟨by rfl, ?_⟩; intro w hSw; (try go_split_ands); go_simp; (try with_reducible rfl))
  (try simp only [List.getElem_toArray, List.getElem_cons_succ, List.getElem_cons_zero, Act.put, List.setIfInBounds_toArray, List.set_cons_zero, List.set_cons_succ])
  apply AnyG_pure (i := 3) rfl (by kernel_rfl) (by kernel_rfl) (by kernel_rfl) (by kernel_rfl)
  case hQ => exact fun _ _ _ h => h
  case hB => exact trivial
  case hC => exact .inr hHeld
  case hy => (refine Or.inl ⟨by rfl, ?_⟩; intro w hSw; (try go_split_ands); go_simp; (try with_reducible rfl))
  (try simp only [List.getElem_toArray, List.getElem_cons_succ, List.getElem_cons_zero, Act.put, List.setIfInBounds_toArray, List.set_cons_zero, List.set_cons_succ])
  apply AnyG_pure (i := 4) rfl (by kernel_rfl) (by kernel_rfl) (by kernel_rfl) (by kernel_rfl)
  case hQ => exact fun _ _ _ h => h
  case hB => exact trivial
  case hC => exact .inr hHeld
  case hy => (refine Or.inl ⟨by rfl, ?_⟩; intro w hSw; (try go_split_ands); go_simp; (try with_reducible rfl))
  (try simp only [List.getElem_toArray, List.getElem_cons_succ, List.getElem_cons_zero, Act.put, List.setIfInBounds_toArray, List.set_cons_zero, List.set_cons_succ])
  apply AnyG_pure (i := 5) rfl (by kernel_rfl) (by kernel_rfl) (by kernel_rfl) (by kernel_rfl)
  case hQ => exact fun _ _ _ h => h
  case hB => exact trivial
  case hC => exact .inr hHeld
  case hy => (refine Or.inl ⟨by rfl, ?_⟩; intro w hSw; (try go_split_ands); go_simp; (try with_reducible rfl))
  (try simp only [List.getElem_toArray, List.getElem_cons_succ, List.getElem_cons_zero, Act.put, List.setIfInBounds_toArray, List.set_cons_zero, List.set_cons_succ])
  apply AnyG_pure (i := 6) rfl (by kernel_rfl) (by kernel_rfl) (by kernel_rfl) (by kernel_rfl)
  case hQ => exact fun _ _ _ h => h
  case hB => exact trivial
  case hC => exact .inr hHeld
  case hy => (refine Or.inl ⟨by rfl, ?_⟩; intro w hSw; (try go_split_ands); go_simp; (try with_reducible rfl))
  (try simp only [List.getElem_toArray, List.getElem_cons_succ, List.getElem_cons_zero, Act.put, List.setIfInBounds_toArray, List.set_cons_zero, List.set_cons_succ])
  refine AnyG_one (i := 1) (by kernel_rfl) rfl (fun KK hKK => ?_)
  (try simp only [List.getElem_toArray, List.getElem_cons_succ, List.getElem_cons_zero])
  go_simp
  go_at_call 7
  refine (hcl W0 hb0).mono ?_
  rintro e V1 ⟨rfl, hv1⟩
  have hb1 := hb0.trans (hv1.mono hb0.size)
  have HR1 := Lib.hid (Whole.below HR.out hv1 HR.out.lt)
  have hr1 : V1.rangeAt w.heap.size 0 [.bool th, .int .i64 p.kind, .int .u64 (p.mask : Int), .int .i64 p.lo, .int .i64 p.hi, .string (sof p.name), .int .i64 p.num, .int .i64 pa, .slice A1 nx c1, .slice A2 ny c2] := cav_range (cc := ⟨th, p, pa, X, Y⟩) HR1.out
  clear hv1
  clear hHeld
  have hHeld : (fun W : World => W.rangeAt w.heap.size 0 [.bool th, .int .i64 p.kind, .int .u64 (p.mask : Int), .int .i64 p.lo, .int .i64 p.hi, .string (sof p.name), .int .i64 p.num, .int .i64 pa, .slice A1 nx c1, .slice A2 ny c2]) V1 := hr1
  refine hKK.out _ _ (.inr hHeld) trivial ?_
  clear hKK KK
  (try simp only [List.getElem_toArray, List.getElem_cons_succ, List.getElem_cons_zero, Act.put, List.setIfInBounds_toArray, List.set_cons_zero, List.set_cons_succ])
  refine AnyG_one (i := 7) (by kernel_rfl) rfl (fun KK hKK => ?_)
  obtain ⟨V2, hV2⟩ : ∃ q, q = V1.setRow w.heap.size (cvrow th p pa (.slice A1 X.length c1) (.slice A2 Y.length c2)) := ⟨_, rfl⟩
  have HR2 : Hid (CvRow V2 w.heap.size th p pa (.slice A1 X.length c1) (.slice A2 Y.length c2)) := Lib.hid (by rw [hV2]; exact Whole.setRow HR1.out _)
  have HB2 : Hid (Below w.heap.size w V2) := Lib.hid (by rw [hV2]; exact below_setRow (HB.out.trans (hb1.mono (Nat.le_of_lt hps))) (Nat.le_refl _) _)
  have HT2 : Hid (Bytes V2 (fun q => q < w.heap.size) (.slice A1 X.length c1) X ∧ Bytes V2 (fun q => q < w.heap.size) (.slice A2 Y.length c2) Y ∧ Bytes V2 (fun q => q < w.heap.size) (.slice A0 R0.length c0) R0) := Lib.hid (by rw [hV2]; exact ⟨(HT.out.1.below hb1 (Nat.le_refl _)).keep fun q _ hq => setRow_other _ _ q _ (Nat.ne_of_lt hq), (HT.out.2.below hb1 (Nat.le_refl _)).keep fun q _ hq => setRow_other _ _ q _ (Nat.ne_of_lt hq), (HX.out.below hb1 (Nat.le_refl _)).keep fun q _ hq => setRow_other _ _ q _ (Nat.ne_of_lt hq)⟩)
  rw [if_pos (by kernel_rfl)]
  refine wp_store_row 27 _ _ rfl (w.heap.size) (cvrow th p pa (.slice A1 X.length c1) (.slice A2 Y.length c2)) rfl rfl 27 _ HR1.out (by rw [cavSize]; rfl) (by rw [cvrow_size]; rfl) (cavCells _ _ _ _ _ _ _ _ _) ?_
  have hs2x : p0.heap.size ≤ V2.heap.size := by have := hb1.size; rw [hV2]; simpa using this
  rw [← hV2]
  clear hV2
  refine hKK.out _ _ (.inl (by kernel_rfl)) trivial ?_
  clear hKK KK
  (try simp only [List.getElem_toArray, List.getElem_cons_succ, List.getElem_cons_zero, Act.put, List.setIfInBounds_toArray, List.set_cons_zero, List.set_cons_succ])
  apply AnyG_pure (i := 8) rfl (by kernel_rfl) (by kernel_rfl) (by kernel_rfl) (by kernel_rfl)
  case hQ => exact fun _ _ _ h => h
  case hB => exact trivial
  case hC => exact .inl (by kernel_rfl)
  case hy => (refine Or.inl ⟨by rfl, ?_⟩; intro w hSw; (try go_split_ands); go_simp; (try with_reducible rfl))
  (try simp only [List.getElem_toArray, List.getElem_cons_succ, List.getElem_cons_zero, Act.put, List.setIfInBounds_toArray, List.set_cons_zero, List.set_cons_succ])
  refine AnyG_done (by kernel_rfl) ?_ _
  (try clear hHeld)
  (try clear hr1)
  (try clear hcl)
  clear hb1 hb0 HR1 HT HX HR HB E h1Xi h1X h2X
  have hs2 : p0.heap.size ≤ V2.heap.size := hs2x
  obtain ⟨⟨L1, fe⟩, hE⟩ : ∃ q, q = ce ⟨th, p, pa, X, Y⟩ := ⟨_, rfl⟩
  have hL1 : L1.length ≤ 2100 := by
    have := hE
    unfold ce at this
    by_cases hk : cvok ⟨th, p, pa, X, Y⟩
    · rw [if_pos hk] at this
      injection this with this _
      rw [this]
      exact cen_len hk
    · rw [if_neg hk] at this
      injection this with this _
      rw [this]
      simp
  have hcl := cencode (w := V2) (Q := fun q => q < w.heap.size) (c := ⟨th, p, pa, X, Y⟩) ⟨A1, c1, A2, c2, rfl, HT2.out.1, HT2.out.2.1, HMN.out.1, HMN.out.2, HXL.out.1, HXL.out.2⟩
  rw [← hE] at hcl
  have hcl2 := fun W (hW : Below V2.heap.size V2 W) => rcenc (w := W) (Q := fun q => q < w.heap.size) (c := ⟨th, p, pa, X, Y⟩) ⟨A1, c1, A2, c2, rfl, HT2.out.1.below hW (Nat.le_refl _), HT2.out.2.1.below hW (Nat.le_refl _), HMN.out.1, HMN.out.2, HXL.out.1, HXL.out.2⟩
  rw [← hE] at hcl2
  have HCL2 := Lib.hid hcl2
  clear hE hcl2
  go_wp2_with (with_reducible refine wpList_load_cav rfl _ rfl rfl HR2.out ?_)
  refine hcl.mono ?_
  rintro e w5 ⟨v5, rfl, h5, hb5⟩
  clear hcl
  obtain ⟨F1, f1, rfl, -⟩ := id h5
  have hsw5 : V2.heap.size ≤ w5.heap.size := hb5.size
  have HR5 : Hid (CvRow w5 w.heap.size th p pa (.slice A1 X.length c1) (.slice A2 Y.length c2)) := Lib.hid (Whole.below HR2.out hb5 HR2.out.lt)
  have HB5 := Lib.hid (HB2.out.trans (hb5.mono (by omega)))
  have HX5 := Lib.hid (HT2.out.2.2.below hb5 (Nat.le_refl _))
  have H5 := Lib.hid (h5.mono (Q' := fun _ => True) fun _ _ _ => trivial)
  have hcl := HCL2.out w5 hb5
  clear h5 hb5 HR2 HT2 HB2 HCL2
  go_wp2_with (with_reducible refine wpList_load_cav rfl _ rfl rfl HR5.out ?_)
  refine hcl.mono ?_
  rintro e w6 ⟨v6, rfl, h6, hb6⟩
  clear hcl
  obtain ⟨F2, f2, rfl, -⟩ := id h6
  have hsw6 : w5.heap.size ≤ w6.heap.size := hb6.size
  have hcl := same_ _ _ L1 L1 _ _ w6 (H5.out.below hb6 (Nat.le_refl _)) (h6.mono (Q' := fun _ => True) fun _ _ _ => trivial) (by omega) (by omega)
  rw [decide_eq_true rfl] at hcl
  have HB6 := Lib.hid (HB5.out.trans (hb6.mono (by omega)))
  have HX6 := Lib.hid (HX5.out.below hb6 (Nat.le_refl _))
  clear h6 hb6 H5 HR5 HB5 HX5
  go_wp2_with fail
  refine hcl.mono ?_
  rintro e w7 ⟨rfl, hb7⟩
  clear hcl
  have hsw7 : w6.heap.size ≤ w7.heap.size := hb7.size
  have HB7 := Lib.hid (HB6.out.trans (hb7.mono (by omega)))
  have HX7 := Lib.hid (HX6.out.below hb7 (Nat.le_refl _))
  clear hb7 HB6 HX6
  have HI7 := Lib.hid ((HI.out.below HB7.out).mono (Below.size HB7.out))
  have hdn := dnew A3 _ c3 l3 w7 rfl HI7.out
  clear hL1
  go_wp2_with fail
  refine hdn.mono ?_
  rintro e w8 ⟨rfl, hdk, hbu⟩
  clear hdn HI7 HI
  have hsw8 : w7.heap.size < w8.heap.size := hdk.lt
  have HX8 := Lib.hid (HX7.out.below hbu (Nat.le_refl _))
  have HB8 := Lib.hid (HB7.out.trans (hbu.mono (by omega)))
  have hcl := dcav w7.heap.size w8 hdk
  clear hbu hdk HX7 HB7
  go_wp2_with fail
  refine hcl.mono ?_
  rintro e w9 ⟨⟨v, d, rfl, hokd, hV⟩, ht⟩
  clear hcl
  have hsw9 : w8.heap.size ≤ w9.heap.size := ht.2.1.size
  have HX9 : Hid (Bytes w9 (fun q => q < w.heap.size) (.slice A0 R0.length c0) R0) := Lib.hid (HX8.out.oth ht.2.2 fun q hq => by have hq : q < w.heap.size := hq; omega)
  have HB9 := Lib.hid (HB8.out.trans (ht.2.1.mono (by omega)))
  have hced : ce d = (cen d, 0) := by unfold ce; exact if_pos hokd
  have hcl := rcenc (hV.mono (Q' := fun _ => True) fun _ _ _ => trivial)
  have hld := cen_len hokd
  have hpd := cen_pos d
  rw [hced] at hcl
  obtain ⟨L2, hL2⟩ : ∃ L, L = cen d := ⟨_, rfl⟩
  rw [← hL2] at hcl hld hpd
  clear hced hL2 ht hV hokd HX8 HB8
  go_wp2_with fail
  refine hcl.mono ?_
  rintro e w10 ⟨v10, rfl, h10, hb10⟩
  clear hcl
  obtain ⟨F3, f3, rfl, hf3, -, -⟩ := id h10
  have hsw10 : w9.heap.size ≤ w10.heap.size := hb10.size
  have HX10 := Lib.hid (HX9.out.below hb10 (Nat.le_refl _))
  have HB10 := Lib.hid (HB9.out.trans (hb10.mono (by omega)))
  have HL10 := Lib.hid (h10.mono (Q' := fun q => q < w10.heap.size) fun q hq _ => hq)
  clear h10 hb10 HX9 HB9
  go_upto_region 8 with (at_builtin; go_must (refine wpList_append_bytes rfl _ _ rfl w10.heap.size (.slice (some ⟨w10.heap.size, 0, none⟩) 0 0) [] rfl (own_lit w10 w10.heap.size [] (Nat.le_refl _) (by simp)) _ _ L2 rfl (HL10.out.alloc _) (by simp; omega) (by simp) ?_; intro v11 w11 hown hb11; rw [List.nil_append] at hown))
  have HB11 : Hid (Below w10.heap.size w10 w11) := Lib.hid (((Below.refl _ _).alloc (Nat.le_refl _) _).trans hb11)
  clear hb11
  obtain ⟨A7, c7, rfl, -⟩ := id (Bytes.of_own hown)
  have HO := Lib.hid hown
  clear hown
  have hcl := within_ za (L2.length : Int) (by omega) (by omega) HZA.out.1 w11
  go_wp2_with fail
  refine hcl.mono ?_
  rintro e W9 ⟨⟨i, hi, rfl⟩, hw⟩
  subst hw
  clear hcl
  obtain ⟨gC, cap, hve, hge, hcell, hfr, hset⟩ := own_cell HO.out i (by omega)
  injection hve with hv1 hv2 hv3
  subst hv1 hv3
  clear hv2
  have hfin := hset y0
  obtain ⟨Y1, hY1⟩ : ∃ C, C = L2.set i y0 := ⟨_, rfl⟩
  have hY1l : Y1.length = L2.length := by rw [hY1, List.length_set]
  rw [← hY1] at hfin
  have hbf : Below w10.heap.size w10 (W9.setCell ⟨gC, i, none⟩ (byt y0)) := HB11.out.setCell (p := ⟨gC, i, none⟩) hge _
  have HF := Lib.hid (And.intro hfin hbf)
  have j0 : (0 : Int) ≤ (i : Int) := by omega
  have HYL := Lib.hid hY1l
  clear hset hfin hbf hY1 hY1l
  go_upto_region 9 with fail
  obtain ⟨w12, hw12⟩ : ∃ q, q = W9.setCell ⟨gC, i, none⟩ (byt y0) := ⟨_, rfl⟩
  rw [← hw12] at HF
  change Code.wp _ _ _ _ (W9.setCell ⟨gC, i, none⟩ (byt y0))
  rw [← hw12]
  have hsw12 : w10.heap.size ≤ w12.heap.size := HF.out.2.size
  have hC := Bytes.of_own HF.out.1
  have HY := Lib.hid (hC.mono (Q' := fun q => q < w12.heap.size) fun q hq _ => hq)
  have HX12 := Lib.hid (HX10.out.below HF.out.2 (Nat.le_refl _))
  have HL12 := Lib.hid (HL10.out.below HF.out.2 (Nat.le_refl _))
  have HB12 := Lib.hid (HB10.out.trans (HF.out.2.mono (by omega)))
  have hcl := within_ zc (L2.length : Int) (by omega) (by omega) HZA.out.2 w12
  clear hw12 hcell hfr hC HO HF HB11 HX10 HL10 HB10 j0 hi
  go_wp2_with fail
  refine hcl.mono ?_
  rintro e W ⟨⟨k, hk, rfl⟩, hw⟩
  subst hw
  clear hcl
  have hkn : k ≤ L2.length := by omega
  have hkc : k ≤ f3 := by omega
  have hk0 : (0 : Int) ≤ (k : Int) := by omega
  have hkf : (k : Int) ≤ (f3 : Int) := by omega
  have HTK := Lib.hid (HL12.out.take k hkn)
  have hct := fun W => run_cut_to F3 L2.length f3 k hkc W
  clear hk
  go_upto_region 10 with fail
  obtain ⟨w13, hw13⟩ : ∃ q, q = W.alloc (.cells #[.slice A0 R0.length c0, .slice F3 L2.length f3, .slice (some ⟨gC, 0, none⟩) L2.length c7, .slice F3 k f3] 25) := ⟨_, rfl⟩
  have hw4 : Whole w13 W.heap.size 25 #[.slice A0 R0.length c0, .slice F3 L2.length f3, .slice (some ⟨gC, 0, none⟩) L2.length c7, .slice F3 k f3] := by rw [hw13]; exact Whole.here _ _ _
  have hb13 : Below W.heap.size W w13 := by rw [hw13]; exact (Below.refl _ _).alloc (Nat.le_refl _) _
  rw [← hw13]
  have hs13 : W.heap.size < w13.heap.size := hw4.lt
  have b1 := (HX12.out.below hb13 (Nat.le_refl _)).mono (Q' := fun _ => True) fun _ _ _ => trivial
  have b2 := (HL12.out.below hb13 (Nat.le_refl _)).mono (Q' := fun _ => True) fun _ _ _ => trivial
  have b3 := (HY.out.below hb13 (Nat.le_refl _)).mono (Q' := fun _ => True) fun _ _ _ => trivial
  have b4 := (HTK.out.below hb13 (Nat.le_refl _)).mono (Q' := fun _ => True) fun _ _ _ => trivial
  have HLS : Hid (∀ i, i < 4 → ∃ A l c, w13.cell? ⟨W.heap.size, i, none⟩ = some (.slice A l.length c) ∧ Bytes w13 (fun _ => True) (.slice A l.length c) l) := Lib.hid fun i hi => by
    have hyl := HYL.out
    have hkl : (L2.take k).length = k := by rw [List.length_take]; omega
    match i, hi with
    | 0, _ => exact ⟨A0, R0, c0, hw4.cell 0, b1⟩
    | 1, _ => exact ⟨F3, L2, f3, hw4.cell 1, b2⟩
    | 2, _ => exact ⟨some ⟨gC, 0, none⟩, Y1, c7, by rw [hyl]; exact hw4.cell 2, by rw [hyl]; exact b3⟩
    | 3, _ => exact ⟨F3, L2.take k, f3, by rw [hkl]; exact hw4.cell 3, by rw [hkl]; exact b4⟩
  have HB13 := Lib.hid (HB12.out.trans (hb13.mono (by omega)))
  clear hw13 hw4 hb13 b1 b2 b3 b4 HX12 HL12 HY HTK HB12 HYL hct hkn hkc hk0 hkf
  obtain ⟨G4, hG4⟩ : ∃ g, g = W.heap.size := ⟨_, rfl⟩
  rw [← hG4] at HLS hs13 ⊢
  have hG4l : w.heap.size ≤ G4 := by omega
  clear hG4
  go_wp2_with fail
  go_loopw [21] (fun v wr => ∃ j : Nat, v = .int .i64 j ∧ j ≤ 4 ∧ Below w13.heap.size w13 wr) (fun v _ => 4 - (intOf v).toNat)
  case atStart => exact ⟨0, rfl, by omega, Below.refl _ _⟩
  case round =>
    obtain ⟨j, rfl, hj, hbw⟩ := hrel
    have hswr : w13.heap.size ≤ wr.heap.size := hbw.size
    have HBW := Lib.hid hbw
    by_cases hlt : j < 4
    case neg =>
      obtain rfl : j = 4 := by omega
      have hcl := cawake wr
      clear hlt hj
      go_wp2_with fail
      refine hcl.mono ?_
      rintro e w14 ⟨rfl, hb14⟩
      have HG := Lib.hid ((HB13.out.trans (HBW.out.mono (by omega))).trans (hb14.mono (by omega)))
      clear hcl hb14
      go_wp2_with fail
      go_ret
      exact ⟨rfl, HG.out⟩
    have jn : (j : Int) < 4 := by omega
    have j0 : (0 : Int) ≤ (j : Int) := by omega
    obtain ⟨Ar, r, cr, hc0, hbr0⟩ := HLS.out j hlt
    have hc1 : wr.cell? ⟨G4, j, none⟩ = some (.slice Ar r.length cr) := (hbw.cell (p := ⟨G4, j, none⟩) hs13).trans hc0
    have hbr := hbr0.below hbw (Nat.le_refl _)
    have HR := Lib.hid hbr
    have HC1 := Lib.hid hc1
    obtain ⟨⟨pc, n, er⟩, hD⟩ : ∃ q, q = cdn r := ⟨_, rfl⟩
    have hcl := cdecode _ r _ wr hbr
    have hcl2 := fun W (hW : Below wr.heap.size wr W) => rcdec _ r _ W (hbr.below hW (Nat.le_refl _))
    rw [← hD] at hcl hcl2
    dsimp only at hcl hcl2
    have HCL2 := Lib.hid hcl2
    clear hD hbw hc0 hbr0 hbr hcl2
    go_wp2_with fail
    refine hcl.mono ?_
    rintro e u1 ⟨cv, rfl, hV, hb1⟩
    clear hcl hc1
    obtain ⟨E1, e1, E2, e2, rfl, hx1, hx2, hwf⟩ := hV
    have hsu1 : wr.heap.size ≤ u1.heap.size := hb1.size
    obtain ⟨u2, hu2⟩ : ∃ q, q = (u1.alloc (.cells (cvrow false .zero 0 (.slice none 0 0) (.slice none 0 0)) 27)).setRow u1.heap.size (cvrow pc.third pc.first pc.party (.slice E1 pc.ticket.length e1) (.slice E2 pc.box.length e2)) := ⟨_, rfl⟩
    have hb12 : Below u1.heap.size u1 u2 := by rw [hu2]; exact below_setRow ((Below.refl _ _).alloc (Nat.le_refl _) _) (Nat.le_refl _) _
    have hr2 : CvRow u2 u1.heap.size pc.third pc.first pc.party (.slice E1 pc.ticket.length e1) (.slice E2 pc.box.length e2) := by rw [hu2]; exact Whole.setRow (Whole.here _ _ _) _
    have hsu2 : u1.heap.size < u2.heap.size := hr2.lt
    have hkz : Whole (u1.alloc (.cells #[.bool false, .int .i64 0, .int .u64 0, .int .i64 0, .int .i64 0, .string { data := #[] }, .int .i64 0, .int .i64 0, .slice none 0 0, .slice none 0 0] 27)) u1.heap.size 27 (cvrow false .zero 0 (.slice none 0 0) (.slice none 0 0)) := by rw [← cvrow_zero]; exact Whole.here _ _ _
    have HKZ := Lib.hid hkz
    have HU2 := Lib.hid hu2
    have HR2 := Lib.hid hr2
    have HWF := Lib.hid hwf
    have HX1 := Lib.hid ((hx1.below hb12 (Nat.le_refl _)).mono (Q' := fun _ => True) fun _ _ _ => trivial)
    have HX2 := Lib.hid ((hx2.below hb12 (Nat.le_refl _)).mono (Q' := fun _ => True) fun _ _ _ => trivial)
    have HBU := Lib.hid ((hb1.trans (hb12.mono hsu1)))
    have hG4w : G4 < wr.heap.size := by omega
    clear hx1 hx2 hwf hb1 hb12 hr2 hu2 hkz
    go_upto_region 14 with (with_reducible refine wpList_store_cav rfl _ _ rfl (g := u1.heap.size) rfl rfl HKZ.out (cvrow_size _ _ _ _ _) ?_)
    rw [← cvrow_zero, ← HU2.out]
    clear HU2 HKZ
    have hc2 : u2.cell? ⟨G4, j, none⟩ = some (.slice Ar r.length cr) := (HBU.out.cell (p := ⟨G4, j, none⟩) hG4w).trans HC1.out
    have hcl := HCL2.out u2 HBU.out
    go_wp2_with fail
    refine hcl.mono ?_
    rintro e u3 ⟨cv, rfl, hV, hb3⟩
    clear hcl hc2 HCL2
    obtain ⟨S1, s1, S2, s2, rfl, hy1, hy2, -⟩ := hV
    have hsu3 : u2.heap.size ≤ u3.heap.size := hb3.size
    obtain ⟨u4, hu4⟩ : ∃ q, q = (u3.alloc (.cells (cvrow false .zero 0 (.slice none 0 0) (.slice none 0 0)) 27)).setRow u3.heap.size (cvrow pc.third pc.first pc.party (.slice S1 pc.ticket.length s1) (.slice S2 pc.box.length s2)) := ⟨_, rfl⟩
    have hb34 : Below u3.heap.size u3 u4 := by rw [hu4]; exact below_setRow ((Below.refl _ _).alloc (Nat.le_refl _) _) (Nat.le_refl _) _
    have hr4 : CvRow u4 u3.heap.size pc.third pc.first pc.party (.slice S1 pc.ticket.length s1) (.slice S2 pc.box.length s2) := by rw [hu4]; exact Whole.setRow (Whole.here _ _ _) _
    have hsu4 : u3.heap.size < u4.heap.size := hr4.lt
    have hkz : Whole (u3.alloc (.cells #[.bool false, .int .i64 0, .int .u64 0, .int .i64 0, .int .i64 0, .string { data := #[] }, .int .i64 0, .int .i64 0, .slice none 0 0, .slice none 0 0] 27)) u3.heap.size 27 (cvrow false .zero 0 (.slice none 0 0) (.slice none 0 0)) := by rw [← cvrow_zero]; exact Whole.here _ _ _
    have hb24 := hb3.trans (hb34.mono hsu3)
    have HKZ := Lib.hid hkz
    have HU4 := Lib.hid hu4
    have HR4 := Lib.hid hr4
    have HP4 : Hid (CvRow u4 u1.heap.size pc.third pc.first pc.party (.slice E1 pc.ticket.length e1) (.slice E2 pc.box.length e2)) := Lib.hid (Whole.below HR2.out hb24 hsu2)
    have HX14 := Lib.hid (HX1.out.below hb24 (Nat.le_refl _))
    have HX24 := Lib.hid (HX2.out.below hb24 (Nat.le_refl _))
    have HY14 := Lib.hid ((hy1.below hb34 (Nat.le_refl _)).mono (Q' := fun _ => True) fun _ _ _ => trivial)
    have HY24 := Lib.hid ((hy2.below hb34 (Nat.le_refl _)).mono (Q' := fun _ => True) fun _ _ _ => trivial)
    have HB4 := Lib.hid (HBW.out.trans ((HBU.out.trans (hb24.mono (by omega))).mono hswr))
    clear hy1 hy2 hb3 hb34 hr4 hu4 hkz hb24 HR2 HX1 HX2 HBU
    go_upto_region 15 with (with_reducible refine wpList_store_cav rfl _ _ rfl (g := u3.heap.size) rfl rfl HKZ.out (cvrow_size _ _ _ _ _) ?_)
    rw [← cvrow_zero, ← HU4.out]
    clear HU4 HKZ
    obtain ⟨u5, hu5⟩ : ∃ q, q = u4.alloc (.cells (cvrow pc.third pc.first pc.party (.slice E1 pc.ticket.length e1) (.slice E2 pc.box.length e2)) 27) := ⟨_, rfl⟩
    have hp5 : CvRow u5 u4.heap.size pc.third pc.first pc.party (.slice E1 pc.ticket.length e1) (.slice E2 pc.box.length e2) := by rw [hu5]; exact Whole.here _ _ _
    have HR5 : Hid (CvRow u5 u3.heap.size pc.third pc.first pc.party (.slice S1 pc.ticket.length s1) (.slice S2 pc.box.length s2)) := Lib.hid (by rw [hu5]; exact HR4.out.alloc _)
    obtain ⟨u6, hu6⟩ : ∃ q, q = u5.alloc (.cells (cvrow pc.third pc.first pc.party (.slice S1 pc.ticket.length s1) (.slice S2 pc.box.length s2)) 27) := ⟨_, rfl⟩
    have hp6 : CvRow u6 u4.heap.size pc.third pc.first pc.party (.slice E1 pc.ticket.length e1) (.slice E2 pc.box.length e2) := by rw [hu6]; exact hp5.alloc _
    have hq6 : CvRow u6 u5.heap.size pc.third pc.first pc.party (.slice S1 pc.ticket.length s1) (.slice S2 pc.box.length s2) := by rw [hu6]; exact Whole.here _ _ _
    have h45 : Below u4.heap.size u4 u5 := by rw [hu5]; exact (Below.refl _ _).alloc (Nat.le_refl _) _
    have hs45 : u4.heap.size ≤ u5.heap.size := h45.size
    have h46 : Below u4.heap.size u4 u6 := by rw [hu6]; exact h45.alloc hs45 _
    have hrs := rcsame (ca := 1) (cb := 1) (la := [pc]) (lb := [pc]) (Cvs.one hp6 (HX14.out.below h46 (Nat.le_refl _)) (HX24.out.below h46 (Nat.le_refl _)) HWF.out) (Cvs.one hq6 (HY14.out.below h46 (Nat.le_refl _)) (HY24.out.below h46 (Nat.le_refl _)) HWF.out) (by simp) (by simp)
    rw [decide_eq_true rfl] at hrs
    have HB6 := Lib.hid (HB4.out.trans (h46.mono (by omega)))
    have hs6 : u4.heap.size ≤ u6.heap.size := h46.size
    have HU5 := Lib.hid hu5
    have HU6 := Lib.hid hu6
    clear hp5 hp6 hq6 h45 h46 hu5 hu6 HX14 HX24 HY14 HY24 HB4
    go_wp2_with (first | (with_reducible refine wpList_load_cav rfl _ rfl rfl HP4.out ?_) | (rw [← HU5.out]; with_reducible refine wpList_load_cav rfl _ rfl rfl HR5.out ?_))
    try rw [← HU6.out]
  
    refine hrs.mono ?_
    rintro e u7 ⟨rfl, hb7⟩
    have HB7 := Lib.hid (HB6.out.trans (hb7.mono (by omega)))
    clear hrs hb7
    go_wp2_with fail
    go_roundw
    case rel => exact ⟨j + 1, by go_num, by omega, HB7.out⟩
    case measure => simp [intOf]; omega
end Go.Proofs.Ytknhnkmooaopmaa
