/-
  ChnCMs
  ChnAtt
  ChnAwk
-/
import Derived.Deep.CutBlock
import Derived.Test.YtiikhjifjdpgdaaDoorPk22
import Derived.Test.YtiikhjifjdpgdaaDoorPk41
import Derived.Test.YtiikhjifjdpgdaaDoorPk4
import Derived.Deep.DeepCutAuto
import Derived.Deep.RegionHeld3
import Derived.Test.YtiikhjifjdpgdaaDoorKSq
import Derived.Test.YtiikhjifjdpgdaaDoorPk26
import Derived.Test.YtiikhjifjdpgdaaDoorPk43
namespace Go.Proofs.YtiikhjifjdpgdaaDoor
open Go Go.RowKit Sh Leaf

set_option linter.unusedSimpArgs false in
set_option linter.unusedVariables false in
set_option maxRecDepth 100000 in
set_option maxHeartbeats 4000000 in
theorem ccavm {w : World} {Q : Nat → Prop} {v : Value} {c : Cav} (h : CavV w Q v c) :
    Calls Tryd.prog 56 #[v] w fun e w' => ((cvok c ∧ ∃ B d, e = .returned (.tuple #[.slice B (cavm c).length d, .int .i64 0]) ∧ Bytes w' (fun b => w.heap.size ≤ b) (.slice B (cavm c).length d) (cavm c)) ∨ (¬ cvok c ∧ e = .returned (.tuple #[.slice none 0 0, .int .i64 5]))) ∧ Below w.heap.size w w' := by
  obtain ⟨A1, c1, A2, c2, rfl, hB1, hB2, hw⟩ := id h
  obtain ⟨p, hp⟩ : ∃ p, p = w.alloc (.cells (cvrow c.third c.first c.party (.slice A1 c.ticket.length c1) (.slice A2 c.box.length c2)) 59) := ⟨_, rfl⟩
  have hr : CvRow p w.heap.size c.third c.first c.party (.slice A1 c.ticket.length c1) (.slice A2 c.box.length c2) := by rw [hp]; exact Whole.here _ _ _
  have hb : Below w.heap.size w p := by rw [hp]; exact (Below.refl _ _).alloc (Nat.le_refl _) _
  have hcl := cencode (h.below hb (Nat.le_refl _))
  have HR := Lib.hid hr
  have HB := Lib.hid hb
  have hps : w.heap.size < p.heap.size := hr.lt
  clear hr hb hB1 hB2 hw h
  by_cases hk : cvok c
  case neg =>
    have hce : ce c = ([], 5) := by unfold ce; rw [if_neg hk]
    rw [hce] at hcl
    have HK := Lib.hid hk
    clear hce hk
    go_enter Tryd.func56, Tryd.ntmps56
    go_upto_region 1 with fail
    rw [← hp]
    clear hp
    go_wp2_with (with_reducible refine wpList_load_cav rfl _ rfl rfl HR.out ?_)
    refine hcl.mono ?_
    rintro e w1 ⟨v1, rfl, h1, hb1⟩
    have HB1 := Lib.hid (HB.out.trans (hb1.mono (by omega)))
    clear hcl h1 hb1
    go_wp2_with fail
    go_ret2
    exact ⟨.inr ⟨HK.out, rfl⟩, HB1.out⟩
  have hce : ce c = (cen c, 0) := by unfold ce; rw [if_pos hk]
  rw [hce] at hcl
  have hl := cen_len hk
  have HK := Lib.hid hk
  obtain ⟨L, hL⟩ : ∃ L, L = cen c := ⟨_, rfl⟩
  obtain ⟨M, hM⟩ : ∃ M, M = cavm c := ⟨_, rfl⟩
  have hML : cavw ++ L = M := by rw [hM, hL]; rfl
  rw [← hL] at hcl hl
  rw [← hM]
  clear hce hk hL hM
  go_enter Tryd.func56, Tryd.ntmps56
  go_upto_region 1 with fail
  rw [← hp]
  clear hp
  go_wp2_with (with_reducible refine wpList_load_cav rfl _ rfl rfl HR.out ?_)
  refine hcl.mono ?_
  rintro e w1 ⟨v1, rfl, h1, hb1⟩
  clear hcl
  obtain ⟨F, f, rfl, -⟩ := id h1
  have hs1 : p.heap.size ≤ w1.heap.size := hb1.size
  have HB1 := Lib.hid (HB.out.trans (hb1.mono (by omega)))
  have hcv := conv_const #[.int .u8 99, .int .u8 97, .int .u8 118, .int .u8 101, .int .u8 97, .int .u8 116] 6 6 w1
  obtain ⟨q1, hq1⟩ : ∃ q, q = w1.alloc (.cells #[.int .u8 99, .int .u8 97, .int .u8 118, .int .u8 101, .int .u8 97, .int .u8 116] 5 (6, 7)) := ⟨_, rfl⟩
  have hby : Bytes q1 (fun b => w1.heap.size ≤ b) (.slice (some ⟨w1.heap.size, 0, none⟩) 6 6) cavw := by rw [hq1]; exact con_bytes w1 cavw _ 6 cavw_cells rfl (by omega) 6 rfl
  have hbq : Below w1.heap.size w1 q1 := by rw [hq1]; exact con_below _ _ _ _
  have hsq : q1.heap.size = w1.heap.size + 1 := by rw [hq1]; simp
  obtain ⟨q2, hq2⟩ : ∃ q, q = q1.alloc (.cells #[.slice (some ⟨w1.heap.size, 0, none⟩) 6 6, .slice F L.length f] 23) := ⟨_, rfl⟩
  have hl2 : Whole q2 q1.heap.size 23 #[.slice (some ⟨w1.heap.size, 0, none⟩) 6 6, .slice F L.length f] := by rw [hq2]; exact Whole.here _ _ _
  have hb2 : Below q1.heap.size q1 q2 := by rw [hq2]; exact (Below.refl _ _).alloc (Nat.le_refl _) _
  have hs2 : q1.heap.size < q2.heap.size := hl2.lt
  have hcl := concat q1.heap.size (.slice (some ⟨w1.heap.size, 0, none⟩) 6 6) (.slice F L.length f) cavw L _ _ q2 (hl2.cell 0) (hl2.cell 1) (hby.below hb2 (Nat.le_refl _)) ((h1.below hbq (Nat.le_refl _)).below hb2 (Nat.le_refl _)) (by decide) (by have : cavw.length = 6 := rfl; omega)
  rw [hML, hsq] at hcl
  have HB2 := Lib.hid (HB1.out.trans ((hbq.trans (hb2.mono (by omega))).mono (by omega)))
  have hwq : w.heap.size ≤ q2.heap.size := by omega
  have HQ1 := Lib.hid hq1
  have HQ2 := Lib.hid hq2
  clear hML hsq hby hbq hl2 hb2 hq1 hq2 h1 hb1
  go_wp2_with fail
  rw [← HQ1.out, ← HQ2.out]
  refine hcl.mono ?_
  rintro e w3 ⟨v3, rfl, h3, hb3⟩
  clear hcl hcv HQ1 HQ2
  obtain ⟨B, d, rfl, -⟩ := id h3
  have H3 := Lib.hid (h3.mono (Q' := fun b => w.heap.size ≤ b) fun b _ hb => Nat.le_trans hwq hb)
  have HB3 := Lib.hid (HB2.out.trans (hb3.mono hwq))
  clear h3 hb3
  go_wp2_with fail
  go_ret2
  exact ⟨.inl ⟨HK.out, B, d, rfl, H3.out⟩, HB3.out⟩
end Go.Proofs.YtiikhjifjdpgdaaDoor
namespace Go.Proofs.YtiikhjifjdpgdaaDoor
open Go Go.RowKit Sh Leaf

theorem heap_setCells_other (b k : Nat) (hk : k ≠ b) : ∀ (vs : List Value) (o : Nat) (w : World), (w.setCells b o vs).heap[k]? = w.heap[k]?
  | [], _, _ => rfl
  | v :: t, o, w => by
    show ((w.setCell ⟨b, o, none⟩ v).setCells b (o + 1) t).heap[k]? = _
    rw [heap_setCells_other b k hk t, heap_setCell_other _ _ _ _ hk]
theorem size_setCells (b : Nat) : ∀ (vs : List Value) (o : Nat) (w : World), (w.setCells b o vs).heap.size = w.heap.size
  | [], _, _ => rfl
  | v :: t, o, w => by
    show ((w.setCell ⟨b, o, none⟩ v).setCells b (o + 1) t).heap.size = _
    rw [size_setCells b t]; simp
theorem below_setCells {B : Nat} {w0 : World} (b : Nat) (hb : B ≤ b) : ∀ (vs : List Value) (o : Nat) (w : World), Below B w0 w → Below B w0 (w.setCells b o vs)
  | [], _, _, h => h
  | v :: t, o, _, h => below_setCells b hb t (o + 1) _ (h.setCell (p := ⟨b, o, none⟩) hb v)
theorem psl_there {w : World} {g : Nat} {z s : Int} {vc : Value} {T : List B8} (h : Whole w g 51 (psl z s vc T).toArray) : w.there g 3 32 := fun j hj => by
  refine ⟨?_, Whole.frozen h _⟩
  rw [Whole.cell h, List.getElem?_toArray, List.getElem?_eq_getElem (by rw [psl_len]; omega)]
  rfl
theorem psl_slice {w : World} {g : Nat} {z s : Int} {vc : Value} {T : List B8} (h : Whole w g 51 (psl z s vc T).toArray) (v : Value) : Whole (w.setCell ⟨g, 2, none⟩ v) g 51 (psl z s v T).toArray := by
  have h1 := Whole.set h 2 v
  rw [List.setIfInBounds_toArray] at h1
  exact h1
theorem psl_retag {w : World} {g : Nat} {z s : Int} {vc : Value} {T T' : List B8} (hT' : T'.length = 32) (h : Whole w g 51 (psl z s vc T).toArray) : (w.setCells g 3 (T'.map byt)).rangeAt g 0 (psl z s vc T') := fun i v hv => by
  by_cases hi : i < 3
  · have h1 := World.rangeAt_setCells_apart (w := w) (b' := g) (o' := 0) (cs := [.int .i64 z, .int .i64 s, vc]) (fun j u hu => by
      rw [Nat.zero_add, Whole.cell h, List.getElem?_toArray]
      match j, hu with
      | 0, hu => exact hu
      | 1, hu => exact hu
      | 2, hu => exact hu
      | n + 3, hu => simp at hu) g 3 (T'.map byt) (.inr (.inl (by simp)))
    refine h1 i v ?_
    match i, hv with
    | 0, hv => exact hv
    | 1, hv => exact hv
    | 2, hv => exact hv
    | n + 3, _ => omega
  · have h1 := World.rangeAt_setCells_same w g 3 (T'.map byt) (by rw [List.length_map, hT']; exact psl_there h)
    have h2 := h1 (i - 3) v (by
      unfold psl at hv
      rw [p32_eq hT'] at hv
      obtain ⟨k, rfl⟩ : ∃ k, i = k + 1 + 1 + 1 := ⟨i - 3, by omega⟩
      rw [List.getElem?_cons_succ, List.getElem?_cons_succ, List.getElem?_cons_succ] at hv
      rw [show k + 1 + 1 + 1 - 3 = k by omega]
      exact hv)
    rw [show 0 + i = 3 + (i - 3) by omega]
    exact h2
set_option linter.unusedSimpArgs false in
set_option linter.unusedVariables false in
set_option maxRecDepth 100000 in
set_option maxHeartbeats 8000000 in
theorem catt {w : World} {Q Q2 : Nat → Prop} {x u v : Value} {a : Alg} {P : Pss} {c : Cav} (hx : AlV w Q x a) (hlen : a.macs.length < 800) (hu : PssV w Q u P) (hln : P.cavs.length ≤ 1000) (hv : CavV w Q2 v c) (hT : Tables w) :
    Calls Tryd.prog 20 #[x, u, v] w fun e w' => PssR w' (fun g => Q g ∨ w.heap.size ≤ g) e (pAtt a P c) ∧ Below w.heap.size w w' := by
  obtain ⟨Ama, cma, Aba, cba, rfl, hM, hBx, hA⟩ := id hx
  obtain ⟨Ac, cc, rfl, hcs, hlK⟩ := hu
  obtain ⟨C1, k1, C2, k2, rfl, hcb1, hcb2, hcw⟩ := id hv
  obtain ⟨p, hp⟩ : ∃ p, p = ((((w.alloc (.cells (alc a.free a.seed a.fresh (.slice Ama a.macs.length cma) (.slice Aba a.boxes.length cba)) 32)).alloc (.cells (psl P.epoch P.serial (.slice Ac P.cavs.length cc) P.tag).toArray 51)).alloc (.cells (cvrow c.third c.first c.party (.slice C1 c.ticket.length k1) (.slice C2 c.box.length k2)) 59)).alloc (.cells zar 32)).alloc (.cells zps 51) := ⟨_, rfl⟩
  have hr : ALRow p w.heap.size a.free a.seed a.fresh (.slice Ama a.macs.length cma) (.slice Aba a.boxes.length cba) := by rw [hp]; exact ((((Whole.here _ _ _).alloc _).alloc _).alloc _).alloc _
  have hrp : Whole p (w.heap.size + 1) 51 (psl P.epoch P.serial (.slice Ac P.cavs.length cc) P.tag).toArray := by rw [hp]; exact (((Whole.at_ _ _ _ _ (by simp)).alloc _).alloc _).alloc _
  have hrc : Whole p (w.heap.size + 1 + 1) 59 (cvrow c.third c.first c.party (.slice C1 c.ticket.length k1) (.slice C2 c.box.length k2)) := by rw [hp]; exact ((Whole.at_ _ _ _ _ (by simp)).alloc _).alloc _
  have h6 : Whole p (w.heap.size + 1 + 1 + 1) 32 zar := by rw [hp]; exact (Whole.at_ _ _ _ _ (by simp)).alloc _
  have h7 : Whole p (w.heap.size + 1 + 1 + 1 + 1) 51 zps := by rw [hp]; exact Whole.at_ _ _ _ _ (by simp)
  have hb : Below w.heap.size w p := by rw [hp]; exact (((((Below.refl _ _).alloc (Nat.le_refl _) _).alloc (by simp) _).alloc (by simp; omega) _).alloc (by simp; omega) _).alloc (by simp; omega) _
  have hps : (w.heap.size + 1 + 1 + 1 + 1) < p.heap.size := h7.lt
  have HXP := Lib.hid ((hx.mono (Q' := fun g => Q g ∧ g < w.heap.size) fun g hg hq => ⟨hq, hg⟩).below hb (Nat.le_refl _))
  have HCS := Lib.hid ((hcs.mono (Q' := fun g => Q g ∧ g < w.heap.size) fun g hg hq => ⟨hq, hg⟩).below hb (Nat.le_refl _))
  have HCV := Lib.hid (hv.below hb (Nat.le_refl _))
  have HTP := Lib.hid (hT.below (Nat.le_refl _) hb)
  have hl32 : (aNode a P.tag (cavm c)).2.1.length = 32 := by
    unfold aNode
    split
    · simp
    split
    · simp
    · exact AlV.mac_len hx _ _
  obtain ⟨R0, hR0⟩ : ∃ R, R = pAtt a P c := ⟨_, rfl⟩
  rw [← hR0]
  unfold pAtt at hR0
  have HR0 := Lib.hid hR0
  obtain ⟨np, hnp⟩ : ∃ n, n = P.cavs.length := ⟨_, rfl⟩
  have HLN := Lib.hid (And.intro hln hnp)
  have hcl := ccavm HCV.out
  have H1 : Hid (Below w.heap.size w p) := Lib.hid (hb)
  have H2 : Hid (ALRow p w.heap.size a.free a.seed a.fresh (.slice Ama a.macs.length cma) (.slice Aba a.boxes.length cba)) := Lib.hid (hr)
  have H3 : Hid (Whole p (w.heap.size + 1) 51 (psl P.epoch P.serial (.slice Ac P.cavs.length cc) P.tag).toArray) := Lib.hid (hrp)
  have H4 : Hid (Whole p (w.heap.size + 1 + 1) 59 (cvrow c.third c.first c.party (.slice C1 c.ticket.length k1) (.slice C2 c.box.length k2))) := Lib.hid (hrc)
  have H5 : Hid (Whole p (w.heap.size + 1 + 1 + 1) 32 zar) := Lib.hid (h6)
  have H6 : Hid (Whole p (w.heap.size + 1 + 1 + 1 + 1) 51 zps) := Lib.hid (h7)
  have H7 : Hid (Below p.heap.size p p) := Lib.hid (Below.refl _ _)
  clear hR0 hb hr hrp hrc h6 h7 hx hcs hv hT hM hBx hA hcb1 hcb2 hln hnp
  go_enter Tryd.func20, Tryd.ntmps20
  go_upto_region 1 with fail
  rw [zar_lit, zps_lit, ← hp]
  clear hp
  go_wp2_with (with_reducible refine wpList_load_cav rfl _ rfl rfl H4.out ?_)
  refine hcl.mono ?_
  rintro e w1 ⟨hx, hbu⟩
  clear hcl
  have hsw1 : p.heap.size ≤ w1.heap.size := hbu.size
  have H8 : Hid (Below w.heap.size w w1) := Lib.hid ((Below.trans H1.out (Below.mono hbu (Below.size H1.out))))
  have H9 : Hid (ALRow w1 w.heap.size a.free a.seed a.fresh (.slice Ama a.macs.length cma) (.slice Aba a.boxes.length cba)) := Lib.hid ((Whole.below H2.out hbu (Whole.lt H2.out)))
  have H10 : Hid (Whole w1 (w.heap.size + 1) 51 (psl P.epoch P.serial (.slice Ac P.cavs.length cc) P.tag).toArray) := Lib.hid ((Whole.below H3.out hbu (Whole.lt H3.out)))
  have H11 : Hid (Whole w1 (w.heap.size + 1 + 1) 59 (cvrow c.third c.first c.party (.slice C1 c.ticket.length k1) (.slice C2 c.box.length k2))) := Lib.hid ((Whole.below H4.out hbu (Whole.lt H4.out)))
  have H12 : Hid (Whole w1 (w.heap.size + 1 + 1 + 1) 32 zar) := Lib.hid ((Whole.below H5.out hbu (Whole.lt H5.out)))
  have H13 : Hid (Whole w1 (w.heap.size + 1 + 1 + 1 + 1) 51 zps) := Lib.hid ((Whole.below H6.out hbu (Whole.lt H6.out)))
  have H14 : Hid (Below p.heap.size p w1) := Lib.hid ((Below.trans H7.out (Below.mono hbu (Below.size H7.out))))
  clear H1 H2 H3 H4 H5 H6 H7
  rcases hx with ⟨hok, B, d, rfl, hby⟩ | ⟨hno, rfl⟩
  case inr =>
    have HRR : Hid (R0 = (zalg, zpss, 5)) := Lib.hid (by rw [HR0.out, if_neg hno])
    clear hno hbu
    go_wp2_with (first
      | (with_reducible refine wpList_store_alg rfl _ _ rfl (g := (w.heap.size + 1 + 1 + 1)) rfl rfl H12.out zar_size rfl (by with_unfolding_all rfl) ?_)
      | (with_reducible refine wpList_store_pass rfl _ _ rfl (g := (w.heap.size + 1 + 1 + 1 + 1)) rfl rfl (Whole.setRow_far H13.out (by omega) _) zps_size rfl (by with_unfolding_all rfl) ?_))
    rw [zar_lit, zps_lit]
    have e1 := Whole.setRow_far (Whole.setRow H12.out zar) (g' := (w.heap.size + 1 + 1 + 1 + 1)) (by omega) zps
    have e2 := Whole.setRow (Whole.setRow_far H13.out (g' := (w.heap.size + 1 + 1 + 1)) (by omega) zar) zps
    refine bodyPost_ret (results_pass3 Tryd.results20 _ rfl rfl _ rfl zar_size zps_size e1 e2) rfl ?_
    rw [HRR.out]
    exact ⟨⟨_, _, rfl, alv_zero _ _, pss_zero _ _⟩, below_setRow (below_setRow H8.out (by omega) _) (by omega) _⟩
  have HOK := Lib.hid hok
  have HR1 : Hid (R0 = if roomc P.cavs c then (if (aNode a P.tag (cavm c)).2.2 ≠ 0 then (zalg, zpss, (aNode a P.tag (cavm c)).2.2) else ((aNode a P.tag (cavm c)).1, ⟨P.epoch, P.serial, P.cavs ++ [c], (aNode a P.tag (cavm c)).2.1⟩, 0)) else (zalg, zpss, 2)) := Lib.hid (by rw [HR0.out, if_pos hok])
  have hml : (cavm c).length ≤ 100000 := by have := cavm_len hok; omega
  obtain ⟨m, hm⟩ : ∃ m, m = cavm c := ⟨_, rfl⟩
  rw [← hm] at HR1 hby hml hl32 ⊢
  have HBY := Lib.hid hby
  clear hbu hok HR0 hby hm
  have hloc := H14.out
  have hcl := croom (ca := cc) (HCS.out.cvs.below hloc) (by have := HLN.out.1; omega) (HCV.out.below hloc (Nat.le_refl _))
  obtain ⟨D, hD⟩ : ∃ D, D = decide (roomc P.cavs c) := ⟨_, rfl⟩
  rw [← hD] at hcl
  have HD := Lib.hid hD
  obtain ⟨p0, p1, p2⟩ := psl_cells H10.out
  clear hloc hD
  go_wp2_with (with_reducible refine wpList_load_cav rfl _ rfl rfl H11.out ?_)
  refine hcl.mono ?_
  rintro e w2 ⟨rfl, hbu⟩
  clear hcl p0 p1 p2
  have hsw2 : w1.heap.size ≤ w2.heap.size := hbu.size
  have H15 : Hid (Below w.heap.size w w2) := Lib.hid ((Below.trans H8.out (Below.mono hbu (Below.size H8.out))))
  have H16 : Hid (ALRow w2 w.heap.size a.free a.seed a.fresh (.slice Ama a.macs.length cma) (.slice Aba a.boxes.length cba)) := Lib.hid ((Whole.below H9.out hbu (Whole.lt H9.out)))
  have H17 : Hid (Whole w2 (w.heap.size + 1) 51 (psl P.epoch P.serial (.slice Ac P.cavs.length cc) P.tag).toArray) := Lib.hid ((Whole.below H10.out hbu (Whole.lt H10.out)))
  have H18 : Hid (Whole w2 (w.heap.size + 1 + 1) 59 (cvrow c.third c.first c.party (.slice C1 c.ticket.length k1) (.slice C2 c.box.length k2))) := Lib.hid ((Whole.below H11.out hbu (Whole.lt H11.out)))
  have H19 : Hid (Whole w2 (w.heap.size + 1 + 1 + 1) 32 zar) := Lib.hid ((Whole.below H12.out hbu (Whole.lt H12.out)))
  have H20 : Hid (Whole w2 (w.heap.size + 1 + 1 + 1 + 1) 51 zps) := Lib.hid ((Whole.below H13.out hbu (Whole.lt H13.out)))
  have H21 : Hid (Below p.heap.size p w2) := Lib.hid ((Below.trans H14.out (Below.mono hbu (Below.size H14.out))))
  clear H8 H9 H10 H11 H12 H13 H14
  have HBY2 := Lib.hid (HBY.out.below hbu (Nat.le_refl _))
  clear hbu HBY
  cases D
  case false =>
    have hno := of_decide_eq_false HD.out.symm
    have HRR : Hid (R0 = (zalg, zpss, 2)) := Lib.hid (by rw [HR1.out, if_neg hno])
    clear hno
    go_wp2_with (first
      | (with_reducible refine wpList_store_alg rfl _ _ rfl (g := (w.heap.size + 1 + 1 + 1)) rfl rfl H19.out zar_size rfl (by with_unfolding_all rfl) ?_)
      | (with_reducible refine wpList_store_pass rfl _ _ rfl (g := (w.heap.size + 1 + 1 + 1 + 1)) rfl rfl (Whole.setRow_far H20.out (by omega) _) zps_size rfl (by with_unfolding_all rfl) ?_))
    rw [zar_lit, zps_lit]
    have e1 := Whole.setRow_far (Whole.setRow H19.out zar) (g' := (w.heap.size + 1 + 1 + 1 + 1)) (by omega) zps
    have e2 := Whole.setRow (Whole.setRow_far H20.out (g' := (w.heap.size + 1 + 1 + 1)) (by omega) zar) zps
    refine bodyPost_ret (results_pass3 Tryd.results20 _ rfl rfl _ rfl zar_size zps_size e1 e2) rfl ?_
    rw [HRR.out]
    exact ⟨⟨_, _, rfl, alv_zero _ _, pss_zero _ _⟩, below_setRow (below_setRow H15.out (by omega) _) (by omega) _⟩
  have hroom := of_decide_eq_true HD.out.symm
  have hloc := H21.out
  have hcl := cnode (HXP.out.below hloc (Nat.le_refl _)) (by omega) hlK HBY2.out hml (HTP.out.below (Nat.le_refl _) hloc)
  obtain ⟨R, hR⟩ : ∃ R, R = aNode a P.tag m := ⟨_, rfl⟩
  have HR2 : Hid (R0 = if R.2.2 ≠ 0 then (zalg, zpss, R.2.2) else (R.1, ⟨P.epoch, P.serial, P.cavs ++ [c], R.2.1⟩, 0)) := Lib.hid (by rw [HR1.out, if_pos hroom, ← hR])
  rw [← hR] at hcl hl32
  clear hR HR1 hloc hroom
  obtain ⟨b, T, eb⟩ := R
  dsimp only [AlgR] at hcl hl32
  have hlT := hl32
  have HPT := Lib.hid (psl_tag hlK H17.out)
  go_wp2_with (first
    | (with_reducible refine wpList_load_ptag (by with_unfolding_all rfl) _ rfl rfl hlK HPT.out ?_)
    | (with_reducible refine wpList_load_alg rfl _ rfl rfl H16.out (alc_size _ _ _ _ _) ?_))
  refine hcl.mono ?_
  rintro e u1 ⟨⟨v, rfl, hx1⟩, hbu⟩
  clear hcl HPT HBY2
  obtain ⟨Amb, cmb, Abb, cbb, rfl, hM, hBx, hA⟩ := hx1
  have hsu1 : w2.heap.size ≤ u1.heap.size := hbu.size
  have H22 : Hid (Below w.heap.size w u1) := Lib.hid ((Below.trans H15.out (Below.mono hbu (Below.size H15.out))))
  have H23 : Hid (ALRow u1 w.heap.size a.free a.seed a.fresh (.slice Ama a.macs.length cma) (.slice Aba a.boxes.length cba)) := Lib.hid ((Whole.below H16.out hbu (Whole.lt H16.out)))
  have H24 : Hid (Whole u1 (w.heap.size + 1) 51 (psl P.epoch P.serial (.slice Ac P.cavs.length cc) P.tag).toArray) := Lib.hid ((Whole.below H17.out hbu (Whole.lt H17.out)))
  have H25 : Hid (Whole u1 (w.heap.size + 1 + 1) 59 (cvrow c.third c.first c.party (.slice C1 c.ticket.length k1) (.slice C2 c.box.length k2))) := Lib.hid ((Whole.below H18.out hbu (Whole.lt H18.out)))
  have H26 : Hid (Whole u1 (w.heap.size + 1 + 1 + 1) 32 zar) := Lib.hid ((Whole.below H19.out hbu (Whole.lt H19.out)))
  have H27 : Hid (Whole u1 (w.heap.size + 1 + 1 + 1 + 1) 51 zps) := Lib.hid ((Whole.below H20.out hbu (Whole.lt H20.out)))
  have H28 : Hid (Below p.heap.size p u1) := Lib.hid ((Below.trans H21.out (Below.mono hbu (Below.size H21.out))))
  clear H15 H16 H17 H18 H19 H20 H21
  have H29 : Hid (AlV u1 (fun g => ((Q g ∧ g < w.heap.size) ∨ p.heap.size ≤ g) ∧ g < u1.heap.size) (.agg (alc b.free b.seed b.fresh (.slice Amb b.macs.length cmb) (.slice Abb b.boxes.length cbb))) b) := Lib.hid (AlV.mono ⟨Amb, cmb, Abb, cbb, rfl, hM, hBx, hA⟩ fun g hg hq => ⟨by rcases hq with hq | hq; exact .inl hq; exact .inr (by omega), hg⟩)
  clear hM hBx hA hbu
  have ks0 : ∀ z0 z1 : Array Value, Whole ((u1.alloc (.cells z0 32)).alloc (.cells z1 28)) u1.heap.size 32 z0 := fun _ _ => (Whole.alloc (Whole.here _ _ _) _)
  have ks1 : ∀ z0 z1 : Array Value, Whole (((u1.alloc (.cells z0 32)).alloc (.cells z1 28)).setRow u1.heap.size (alc b.free b.seed b.fresh (.slice Amb b.macs.length cmb) (.slice Abb b.boxes.length cbb))) (u1.heap.size + 1) 28 z1 := fun _ _ => (Whole.setRow_far (Whole.at_ _ _ _ _ (by simp)) (by omega) _)
  go_upto_region 7 with (first
    | (with_reducible refine wpList_store_alg rfl _ _ rfl (g := u1.heap.size) rfl rfl (ks0 _ _) rfl (alc_size _ _ _ _ _) (alc_one _ _ _ _ _ _ _ _ _) ?_)
    | (with_reducible refine wpList_store_tag rfl _ _ rfl (g := (u1.heap.size + 1)) rfl rfl (ks1 _ _) rfl (tag_size hlT) (tag_one _) ?_))
  clear ks0 ks1
  rw [ztr_lit]
  rw [zar_lit]
  obtain ⟨q1, hq⟩ : ∃ q, q = ((((u1.alloc (.cells zar 32)).alloc (.cells ztr 28)).setRow u1.heap.size (alc b.free b.seed b.fresh (.slice Amb b.macs.length cmb) (.slice Abb b.boxes.length cbb))).setRow (u1.heap.size + 1) (T.map byt).toArray) := ⟨_, rfl⟩
  rw [← hq]
  have hsq1 : u1.heap.size + 2 ≤ q1.heap.size := by rw [hq]; simp
  have H30 : Hid (Below w.heap.size w q1) := Lib.hid (by rw [hq]; exact (below_setRow (below_setRow (Below.trans H22.out (Below.mono (Below.alloc (Below.alloc (Below.refl _ _) (Nat.le_refl _) _) (by simp) _) (Below.size H22.out))) (by omega) _) (by omega) _))
  have H31 : Hid (ALRow q1 w.heap.size a.free a.seed a.fresh (.slice Ama a.macs.length cma) (.slice Aba a.boxes.length cba)) := Lib.hid (by rw [hq]; exact (Whole.setRow_far (Whole.setRow_far (Whole.below H23.out (Below.alloc (Below.alloc (Below.refl _ _) (Nat.le_refl _) _) (by simp) _) (Whole.lt H23.out)) (by omega) _) (by omega) _))
  have H32 : Hid (Whole q1 (w.heap.size + 1) 51 (psl P.epoch P.serial (.slice Ac P.cavs.length cc) P.tag).toArray) := Lib.hid (by rw [hq]; exact (Whole.setRow_far (Whole.setRow_far (Whole.below H24.out (Below.alloc (Below.alloc (Below.refl _ _) (Nat.le_refl _) _) (by simp) _) (Whole.lt H24.out)) (by omega) _) (by omega) _))
  have H33 : Hid (Whole q1 (w.heap.size + 1 + 1) 59 (cvrow c.third c.first c.party (.slice C1 c.ticket.length k1) (.slice C2 c.box.length k2))) := Lib.hid (by rw [hq]; exact (Whole.setRow_far (Whole.setRow_far (Whole.below H25.out (Below.alloc (Below.alloc (Below.refl _ _) (Nat.le_refl _) _) (by simp) _) (Whole.lt H25.out)) (by omega) _) (by omega) _))
  have H34 : Hid (Whole q1 (w.heap.size + 1 + 1 + 1) 32 zar) := Lib.hid (by rw [hq]; exact (Whole.setRow_far (Whole.setRow_far (Whole.below H26.out (Below.alloc (Below.alloc (Below.refl _ _) (Nat.le_refl _) _) (by simp) _) (Whole.lt H26.out)) (by omega) _) (by omega) _))
  have H35 : Hid (Whole q1 (w.heap.size + 1 + 1 + 1 + 1) 51 zps) := Lib.hid (by rw [hq]; exact (Whole.setRow_far (Whole.setRow_far (Whole.below H27.out (Below.alloc (Below.alloc (Below.refl _ _) (Nat.le_refl _) _) (by simp) _) (Whole.lt H27.out)) (by omega) _) (by omega) _))
  have H36 : Hid (Below p.heap.size p q1) := Lib.hid (by rw [hq]; exact (below_setRow (below_setRow (Below.trans H28.out (Below.mono (Below.alloc (Below.alloc (Below.refl _ _) (Nat.le_refl _) _) (by simp) _) (Below.size H28.out))) (by omega) _) (by omega) _))
  have H37 : Hid (AlV q1 (fun g => ((Q g ∧ g < w.heap.size) ∨ p.heap.size ≤ g) ∧ g < u1.heap.size) (.agg (alc b.free b.seed b.fresh (.slice Amb b.macs.length cmb) (.slice Abb b.boxes.length cbb))) b) := Lib.hid (by rw [hq]; exact (AlV.keep (AlV.keep (AlV.below H29.out (Below.alloc (Below.alloc (Below.refl _ _) (Nat.le_refl _) _) (by simp) _) (Nat.le_refl _)) (by simp) fun g _ hq => setRow_other _ _ _ _ (by omega)) (by simp) fun g _ hq => setRow_other _ _ _ _ (by omega)))
  clear H22 H23 H24 H25 H26 H27 H28 H29
  have H38 : Hid (ALRow q1 u1.heap.size b.free b.seed b.fresh (.slice Amb b.macs.length cmb) (.slice Abb b.boxes.length cbb)) := Lib.hid (by rw [hq]; exact (Whole.setRow_far (Whole.setRow (Whole.alloc (Whole.here _ _ _) _) _) (by omega) _))
  have H39 : Hid (TGRow q1 (u1.heap.size + 1) T) := Lib.hid (by rw [hq]; exact (Whole.setRow (Whole.setRow_far (Whole.at_ _ _ _ _ (by simp)) (by omega) _) _))
  clear hq
  by_cases he : eb = 0
  case neg =>
    have HRR : Hid (R0 = (zalg, zpss, eb)) := Lib.hid (by rw [HR2.out, if_pos he])
    have hne : (eb != 0) = true := by simpa using he
    clear he
    go_wp2_with (first
      | (with_reducible refine wpList_store_alg rfl _ _ rfl (g := (w.heap.size + 1 + 1 + 1)) rfl rfl H34.out zar_size rfl (by with_unfolding_all rfl) ?_)
      | (with_reducible refine wpList_store_pass rfl _ _ rfl (g := (w.heap.size + 1 + 1 + 1 + 1)) rfl rfl (Whole.setRow_far H35.out (by omega) _) zps_size rfl (by with_unfolding_all rfl) ?_))
    rw [zar_lit, zps_lit]
    have e1 := Whole.setRow_far (Whole.setRow H34.out zar) (g' := (w.heap.size + 1 + 1 + 1 + 1)) (by omega) zps
    have e2 := Whole.setRow (Whole.setRow_far H35.out (g' := (w.heap.size + 1 + 1 + 1)) (by omega) zar) zps
    refine bodyPost_ret (results_pass3 Tryd.results20 _ rfl rfl _ rfl zar_size zps_size e1 e2) rfl ?_
    rw [HRR.out]
    exact ⟨⟨_, _, rfl, alv_zero _ _, pss_zero _ _⟩, below_setRow (below_setRow H30.out (by omega) _) (by omega) _⟩
  subst he
  have HRR : Hid (R0 = (b, ⟨P.epoch, P.serial, P.cavs ++ [c], T⟩, 0)) := Lib.hid (by rw [HR2.out, if_neg (by simp)])
  have hloc := H36.out
  have hcl := cext (ca := cc) (HCS.out.below hloc (Nat.le_refl _)) HLN.out.1 (HCV.out.below hloc (Nat.le_refl _))
  obtain ⟨p0, p1, p2⟩ := psl_cells H32.out
  clear hloc HR2
  go_wp2_with (with_reducible refine wpList_load_cav rfl _ rfl rfl H33.out ?_)
  refine hcl.mono ?_
  rintro e u2 ⟨⟨A2, c2, rfl, hcs2⟩, hbu⟩
  clear hcl p0 p1 p2
  have hsu2 : q1.heap.size ≤ u2.heap.size := hbu.size
  have H40 : Hid (Below w.heap.size w u2) := Lib.hid ((Below.trans H30.out (Below.mono hbu (Below.size H30.out))))
  have H41 : Hid (ALRow u2 w.heap.size a.free a.seed a.fresh (.slice Ama a.macs.length cma) (.slice Aba a.boxes.length cba)) := Lib.hid ((Whole.below H31.out hbu (Whole.lt H31.out)))
  have H42 : Hid (Whole u2 (w.heap.size + 1) 51 (psl P.epoch P.serial (.slice Ac P.cavs.length cc) P.tag).toArray) := Lib.hid ((Whole.below H32.out hbu (Whole.lt H32.out)))
  have H43 : Hid (Whole u2 (w.heap.size + 1 + 1) 59 (cvrow c.third c.first c.party (.slice C1 c.ticket.length k1) (.slice C2 c.box.length k2))) := Lib.hid ((Whole.below H33.out hbu (Whole.lt H33.out)))
  have H44 : Hid (Whole u2 (w.heap.size + 1 + 1 + 1) 32 zar) := Lib.hid ((Whole.below H34.out hbu (Whole.lt H34.out)))
  have H45 : Hid (Whole u2 (w.heap.size + 1 + 1 + 1 + 1) 51 zps) := Lib.hid ((Whole.below H35.out hbu (Whole.lt H35.out)))
  have H46 : Hid (Below p.heap.size p u2) := Lib.hid ((Below.trans H36.out (Below.mono hbu (Below.size H36.out))))
  have H47 : Hid (AlV u2 (fun g => ((Q g ∧ g < w.heap.size) ∨ p.heap.size ≤ g) ∧ g < u1.heap.size) (.agg (alc b.free b.seed b.fresh (.slice Amb b.macs.length cmb) (.slice Abb b.boxes.length cbb))) b) := Lib.hid ((AlV.below H37.out hbu (Nat.le_refl _)))
  have H48 : Hid (ALRow u2 u1.heap.size b.free b.seed b.fresh (.slice Amb b.macs.length cmb) (.slice Abb b.boxes.length cbb)) := Lib.hid ((Whole.below H38.out hbu (Whole.lt H38.out)))
  have H49 : Hid (TGRow u2 (u1.heap.size + 1) T) := Lib.hid ((Whole.below H39.out hbu (Whole.lt H39.out)))
  clear H30 H31 H32 H33 H34 H35 H36 H37 H38 H39
  obtain ⟨nn, hnn⟩ : ∃ n, n = (P.cavs ++ [c]).length := ⟨_, rfl⟩
  have HCS2 := Lib.hid hcs2
  have HNN := Lib.hid hnn
  rw [← hnn]
  clear hcs2 hnn hbu
  obtain ⟨p0, p1, p2⟩ := psl_cells H42.out
  have pf := Whole.frozen H42.out 2
  obtain ⟨X1, hX1⟩ : ∃ X, X = u2.setCell ⟨(w.heap.size + 1), 2, none⟩ (.slice A2 nn c2) := ⟨_, rfl⟩
  have hP1 : Whole X1 (w.heap.size + 1) 51 (psl P.epoch P.serial (.slice A2 nn c2) P.tag).toArray := by rw [hX1]; exact psl_slice H42.out _
  have hT1 : Whole X1 (u1.heap.size + 1) 28 (T.map byt).toArray := by rw [hX1]; exact Whole.far H49.out (a := ⟨(w.heap.size + 1), 2, none⟩) (by show u1.heap.size + 1 ≠ (w.heap.size + 1); omega) _
  have HX1 := Lib.hid hX1
  have HP1 := Lib.hid hP1
  have HT1 := Lib.hid hT1
  clear hX1 hP1 hT1
  go_upto_region 10 with fail
  rw [← HX1.out]
  clear p0 p1 p2 pf
  have HTH : Hid (X1.there (w.heap.size + 1) 3 ((T.map byt).toArray).size) := Lib.hid (by rw [tag_size hlT]; exact psl_there HP1.out)
  have HTS : Hid ((Tryd.prog.info? 28).map (·.size) = some ((T.map byt).toArray).size) := Lib.hid (by rw [tag_size hlT]; exact tagSize)
  obtain ⟨X2, hX2⟩ : ∃ X, X = X1.setCells (w.heap.size + 1) 3 (T.map byt) := ⟨_, rfl⟩
  have HK2 : Hid (∀ g, g ≠ (w.heap.size + 1) → X2.heap[g]? = u2.heap[g]?) := Lib.hid fun g hg => by rw [hX2, heap_setCells_other _ _ hg, HX1.out, heap_setCell_other _ _ _ _ hg]
  have HS2 : Hid (X2.heap.size = u2.heap.size) := Lib.hid (by rw [hX2, size_setCells, HX1.out]; simp)
  have HB2 : Hid (Below w.heap.size w X2) := Lib.hid (by rw [hX2, HX1.out]; exact below_setCells _ (by omega) _ _ _ (Below.setCell (p := ⟨(w.heap.size + 1), 2, none⟩) H40.out (by show w.heap.size ≤ w.heap.size + 1; omega) _))
  have HPS : Hid (X2.rangeAt (w.heap.size + 1) 0 (psl P.epoch P.serial (.slice A2 nn c2) T)) := Lib.hid (by rw [hX2]; exact psl_retag hlT HP1.out)
  have HX2 := Lib.hid hX2
  clear hX2
  go_upto_region 11 with (first
    | (with_reducible refine wpList_load_tag rfl _ rfl rfl HT1.out (tag_size hlT) ?_)
    | (with_reducible refine wpList_store_mid rfl 28 _ _ rfl (w.heap.size + 1) 3 _ rfl rfl HTH.out HTS.out (tag_one _) ?_))
  rw [← HX2.out]
  have K6 : Hid (Whole X2 (w.heap.size + 1 + 1 + 1) 32 zar) := Lib.hid ((HK2.out _ (by omega)).trans H44.out)
  have K7 : Hid (Whole X2 (w.heap.size + 1 + 1 + 1 + 1) 51 zps) := Lib.hid ((HK2.out _ (by omega)).trans H45.out)
  have KB : Hid (ALRow X2 u1.heap.size b.free b.seed b.fresh (.slice Amb b.macs.length cmb) (.slice Abb b.boxes.length cbb)) := Lib.hid ((HK2.out _ (by omega)).trans H48.out)
  have KV : Hid (AlV X2 (fun g => (Q g ∧ g < w.heap.size) ∨ p.heap.size ≤ g) (.agg (alc b.free b.seed b.fresh (.slice Amb b.macs.length cmb) (.slice Abb b.boxes.length cbb))) b) := Lib.hid ((AlV.keep (w' := X2) H47.out (by rw [HS2.out]; omega) fun g _ hq => HK2.out g (by omega)).mono fun g _ hq => hq.1)
  have KC : Hid (Cavs X2 (fun g => p.heap.size ≤ g) A2 c2 (P.cavs ++ [c])) := Lib.hid ((Cavs.keep (w' := X2) HCS2.out (by rw [HS2.out]; omega) fun g _ hq => HK2.out g (by have hq : q1.heap.size ≤ g := hq; omega)).mono fun g _ hq => by have hq : q1.heap.size ≤ g := hq; omega)
  clear HX2 HX1 HP1 HT1 HTH HTS HK2 HS2 HCS2
  clear H40 H41 H42 H43 H44 H45 H46 H47 H48 H49
  have H50 : Hid (Below w.heap.size w X2) := Lib.hid (HB2.out)
  have H51 : Hid (Whole X2 (w.heap.size + 1 + 1 + 1) 32 zar) := Lib.hid (K6.out)
  have H52 : Hid (Whole X2 (w.heap.size + 1 + 1 + 1 + 1) 51 zps) := Lib.hid (K7.out)
  clear HB2 K6 K7
  have hsz : (Tryd.prog.info? 32).map (·.size) = some (alcl b.free b.seed b.fresh (.slice Amb b.macs.length cmb) (.slice Abb b.boxes.length cbb)).length := by rw [alcl_length]; exact algSize
  have hst : (Tryd.prog.info? 51).map (·.size) = some (psl P.epoch P.serial (.slice A2 nn c2) T).length := by rw [psl_len]; exact passSize
  have h6d : Whole X2.drew (w.heap.size + 1 + 1 + 1) 32 zar := Whole.drew H51.out
  have h7d : Whole X2.drew (w.heap.size + 1 + 1 + 1 + 1) 51 zps := Whole.drew H52.out
  have bbd : Below w.heap.size w X2.drew := Below.drew H50.out
  have i0d : X2.drew.rangeAt u1.heap.size 0 (alcl b.free b.seed b.fresh (.slice Amb b.macs.length cmb) (.slice Abb b.boxes.length cbb)) := (Whole.range (Whole.drew KB.out))
  have i1d : X2.drew.rangeAt (w.heap.size + 1) 0 (psl P.epoch P.serial (.slice A2 nn c2) T) := (fun i v hv => HPS.out i v hv)
  have kvd : AlV X2.drew (fun g => (Q g ∧ g < w.heap.size) ∨ p.heap.size ≤ g) (.agg (alc b.free b.seed b.fresh (.slice Amb b.macs.length cmb) (.slice Abb b.boxes.length cbb))) b := AlV.below KV.out (Below.drew (Below.refl _ _)) (Nat.le_refl _)
  have kcd : Cavs X2.drew (fun g => p.heap.size ≤ g) A2 c2 (P.cavs ++ [c]) := Cavs.below KC.out (Below.drew (Below.refl _ _)) (Nat.le_refl _)
  go_upto_region 11 with fail
  refine wp_region_held_drew (S := fun W => W.rangeAt u1.heap.size 0 (alcl b.free b.seed b.fresh (.slice Amb b.macs.length cmb) (.slice Abb b.boxes.length cbb)) ∧ W.rangeAt (w.heap.size + 1) 0 (psl P.epoch P.serial (.slice A2 nn c2) T)) (by kernel_rfl) (⟨i0d, i1d⟩) (fun hHeld => ?_)
  apply wpT (i := 0) rfl (by kernel_rfl)
  case hQ => exact fun _ _ _ h => h
  case hS => exact hHeld
  case hy => exact yieldsIf_load_mid (by rfl) 32 _ rfl u1.heap.size 0 rfl (alcl b.free b.seed b.fresh (.slice Amb b.macs.length cmb) (.slice Abb b.boxes.length cbb)) _ (fun w hS => hS.1) Tryd.underlying32 rfl hsz
  (try simp only [sq])
  apply wpT (i := 1) rfl (by kernel_rfl)
  case hQ => exact fun _ _ _ h => h
  case hS => exact hHeld
  case hy => exact yieldsIf_load_mid (by rfl) 51 _ rfl (w.heap.size + 1) 0 rfl (psl P.epoch P.serial (.slice A2 nn c2) T) _ (fun w hS => hS.2) Tryd.underlying51 rfl hst
  (try simp only [sq])
  refine wpAnyH_ready (rs := [2]) (by kernel_rfl) (by simp) ?_
  refine AllReadyH.cons rfl (fun KK hKK => ?_) AllReadyH.nil
  obtain ⟨X1, hX1⟩ : ∃ x, x = X2.drew.setRow (w.heap.size + 1 + 1 + 1) (alcl b.free b.seed b.fresh (.slice Amb b.macs.length cmb) (.slice Abb b.boxes.length cbb)).toArray := ⟨_, rfl⟩
  have e1 : Whole X1 (w.heap.size + 1 + 1 + 1) 32 (alcl b.free b.seed b.fresh (.slice Amb b.macs.length cmb) (.slice Abb b.boxes.length cbb)).toArray := by rw [hX1]; exact Whole.setRow h6d _
  have h7X1 : Whole X1 (w.heap.size + 1 + 1 + 1 + 1) 51 zps := by rw [hX1]; exact Whole.setRow_far h7d (by omega) _
  have bbX1 : Below w.heap.size w X1 := by rw [hX1]; exact below_setRow bbd (by omega) _
  have i0X1 : X1.rangeAt u1.heap.size 0 (alcl b.free b.seed b.fresh (.slice Amb b.macs.length cmb) (.slice Abb b.boxes.length cbb)) := by rw [hX1]; exact (fun i v hv => (cell_setRow_other _ _ _ _ (by show u1.heap.size ≠ (w.heap.size + 1 + 1 + 1); omega)).trans (i0d i v hv))
  have i1X1 : X1.rangeAt (w.heap.size + 1) 0 (psl P.epoch P.serial (.slice A2 nn c2) T) := by rw [hX1]; exact (fun i v hv => (cell_setRow_other _ _ _ _ (by show (w.heap.size + 1) ≠ (w.heap.size + 1 + 1 + 1); omega)).trans (i1d i v hv))
  have kvX1 : AlV X1 (fun g => (Q g ∧ g < w.heap.size) ∨ p.heap.size ≤ g) (.agg (alc b.free b.seed b.fresh (.slice Amb b.macs.length cmb) (.slice Abb b.boxes.length cbb))) b := by rw [hX1]; exact AlV.keep kvd (by simp) fun g _ hq => setRow_other _ _ _ _ (by omega)
  have kcX1 : Cavs X1 (fun g => p.heap.size ≤ g) A2 c2 (P.cavs ++ [c]) := by rw [hX1]; exact Cavs.keep kcd (by simp) fun g _ hq => setRow_other _ _ _ _ (by have hq : p.heap.size ≤ g := hq; omega)
  rw [if_pos (by kernel_rfl)]
  refine wp_store_row 32 _ _ rfl (w.heap.size + 1 + 1 + 1) _ rfl rfl 32 _ h6d (by rw [algSize, List.size_toArray, alcl_length]) (by rw [zar_size, List.size_toArray, alcl_length]) (alc_one _ _ _ _ _ _ _ _ _) ?_
  rw [← hX1]
  clear hX1
  refine hKK.out _ _ (⟨i0X1, i1X1⟩) (fun hHeld => ?_)
  clear hKK KK
  (try simp only [sq])
  refine wpAnyH_ready (rs := [3]) (by kernel_rfl) (by simp) ?_
  refine AllReadyH.cons rfl (fun KK hKK => ?_) AllReadyH.nil
  obtain ⟨X2, hX2⟩ : ∃ x, x = X1.setRow (w.heap.size + 1 + 1 + 1 + 1) (psl P.epoch P.serial (.slice A2 nn c2) T).toArray := ⟨_, rfl⟩
  have e1b : Whole X2 (w.heap.size + 1 + 1 + 1) 32 (alcl b.free b.seed b.fresh (.slice Amb b.macs.length cmb) (.slice Abb b.boxes.length cbb)).toArray := by rw [hX2]; exact Whole.setRow_far e1 (by omega) _
  have e2 : Whole X2 (w.heap.size + 1 + 1 + 1 + 1) 51 (psl P.epoch P.serial (.slice A2 nn c2) T).toArray := by rw [hX2]; exact Whole.setRow h7X1 _
  have bbX2 : Below w.heap.size w X2 := by rw [hX2]; exact below_setRow bbX1 (by omega) _
  have i0X2 : X2.rangeAt u1.heap.size 0 (alcl b.free b.seed b.fresh (.slice Amb b.macs.length cmb) (.slice Abb b.boxes.length cbb)) := by rw [hX2]; exact (fun i v hv => (cell_setRow_other _ _ _ _ (by show u1.heap.size ≠ (w.heap.size + 1 + 1 + 1 + 1); omega)).trans (i0X1 i v hv))
  have i1X2 : X2.rangeAt (w.heap.size + 1) 0 (psl P.epoch P.serial (.slice A2 nn c2) T) := by rw [hX2]; exact (fun i v hv => (cell_setRow_other _ _ _ _ (by show (w.heap.size + 1) ≠ (w.heap.size + 1 + 1 + 1 + 1); omega)).trans (i1X1 i v hv))
  have kvX2 : AlV X2 (fun g => (Q g ∧ g < w.heap.size) ∨ p.heap.size ≤ g) (.agg (alc b.free b.seed b.fresh (.slice Amb b.macs.length cmb) (.slice Abb b.boxes.length cbb))) b := by rw [hX2]; exact AlV.keep kvX1 (by simp) fun g _ hq => setRow_other _ _ _ _ (by omega)
  have kcX2 : Cavs X2 (fun g => p.heap.size ≤ g) A2 c2 (P.cavs ++ [c]) := by rw [hX2]; exact Cavs.keep kcX1 (by simp) fun g _ hq => setRow_other _ _ _ _ (by have hq : p.heap.size ≤ g := hq; omega)
  rw [if_pos (by kernel_rfl)]
  refine wp_store_row 51 _ _ rfl (w.heap.size + 1 + 1 + 1 + 1) _ rfl rfl 51 _ h7X1 (by rw [passSize, psl_size]) (by rw [zps_size, psl_size]) (psl_one _ _ _ _ _ _) ?_
  rw [← hX2]
  clear hX2
  refine hKK.out _ _ (⟨i0X2, i1X2⟩) (fun hHeld => ?_)
  clear hKK KK
  (try simp only [sq])
  apply wpT (i := 4) rfl (by kernel_rfl)
  case hQ => exact fun _ _ _ h => h
  case hS => exact hHeld
  case hy => (refine Or.inl ⟨by rfl, ?_⟩; intro w hSw; (try go_split_ands); go_simp; (try with_reducible rfl))
  (try simp only [sq])
  refine wpAnyH_done (by kernel_rfl) ?_ _
  go_wp2_with fail
  refine bodyPost_ret (results_pass3 Tryd.results20 _ rfl rfl _ rfl (by rw [List.size_toArray, alcl_length]) (by rw [psl_size]) e1b e2) rfl ?_
  rw [HRR.out]
  exact ⟨⟨_, _, rfl, AlV.mono kvX2 fun g _ hq => by rcases hq with hq | hq; exact .inl hq.1; exact .inr (by omega), A2, c2, by rw [HNN.out], Cavs.mono kcX2 fun g _ hq => .inr (by have hq : p.heap.size ≤ g := hq; omega), hlT⟩, bbX2⟩
end Go.Proofs.YtiikhjifjdpgdaaDoor
namespace Go.Proofs.YtiikhjifjdpgdaaDoor
open Go Go.RowKit Sh Leaf

def AkP (u : World) (b : Alg) (q : Pss) (s4 s5 s6 : Value) (wx : World) : Prop := ∃ (G4 G5 : Nat) (Am Ab Aq : Option Addr) (cm cb cq : Nat), s4 = .pointer (some ⟨G4, 0, none⟩) ∧ s5 = .pointer (some ⟨G5, 0, none⟩) ∧ s6 = .int .i64 0 ∧ ALRow wx G4 b.free b.seed b.fresh (.slice Am b.macs.length cm) (.slice Ab b.boxes.length cb) ∧ Whole wx G5 51 (psl q.epoch q.serial (.slice Aq q.cavs.length cq) q.tag).toArray ∧ Below u.heap.size u wx
theorem built_ep0 (z : Int) : Tryd.prog.built 49 [(0, .int .i64 z)] = some (Value.int .i64 z :: List.replicate 32 (Value.int .u8 0)).toArray := by kernel_rfl
theorem epl_zero (z : Int) : (Value.int .i64 z :: List.replicate 32 (Value.int .u8 0)).toArray = (epl z ztag).toArray := by
  unfold epl
  rw [p32_eq (by simp)]
  simp only [List.map_replicate, byt, bv_zero]
theorem wpList_build_ep0 {w : World} {ops : Array Oper} {rest : List Oper} {o : Oper} {a : Act} {Q : Exit → Act → World → Prop} (hgd : o.guard = none) (x : Operand) (ho : o.op = .build 49 #[(0, x)]) {z : Int} (hx : a.eval x = .int .i64 z)
    (h : wpList Tryd.prog ops Q rest (a.put o.dst (.agg (epl z ztag).toArray)) w) : wpList Tryd.prog ops Q (o :: rest) a w := by
  refine wpList_build_as hgd 49 _ ho _ ?_ h
  have e : (#[(0, x)].map fun (i, x) => (i, a.eval x)).toList = [(0, .int .i64 z)] := by simp [hx]
  rw [e, built_ep0, epl_zero]
set_option linter.unusedSimpArgs false in
set_option linter.unusedVariables false in
set_option maxRecDepth 100000 in
set_option maxHeartbeats 8000000 in
theorem cawk13 (w : World) (hT : Tables w) : Calls Tryd.prog 22 #[] w fun e w' => e = .returned (.bool true) ∧ Below w.heap.size w w' := by
  have HT := Lib.hid hT
  have hcl := cmint (K := ztag) 1 1 (free_av w (fun g => g < w.heap.size)) (by show (0 : Nat) < 800; omega) (by simp) hT
  obtain ⟨R, hR⟩ : ∃ R, R = pMint freeA 1 ztag 1 := ⟨_, rfl⟩
  rw [← hR] at hcl
  unfold PssR at hcl
  obtain ⟨a, p, ea⟩ := R
  obtain ⟨R2, hR2⟩ : ∃ R, R = pAtt a p (rcv 3) := ⟨_, rfl⟩
  have HR2 := Lib.hid hR2
  obtain ⟨b, q, eb⟩ := R2
  obtain ⟨⟨rfl, rfl, hpt, hqt, hb4, hq1⟩, hp0, hn2⟩ := awake_words hR hR2
  have HN2 := Lib.hid hn2
  have HP0 := Lib.hid hp0
  clear hn2 hp0
  have HW := Lib.hid (And.intro hpt (And.intro hqt (And.intro hb4 hq1)))
  dsimp only at hcl
  clear hT hR hR2 hpt hqt hb4 hq1
  go_enter Tryd.func22, Tryd.ntmps22
  go_wp2_with (first
    | (with_reducible refine wpList_build_free rfl _ rfl true rfl ?_)
    | (with_reducible refine wpList_build_ep0 rfl _ rfl rfl ?_))
  have H1 : Hid (Below w.heap.size w w) := Lib.hid (Below.refl _ _)
  refine hcl.mono ?_
  rintro e u1 ⟨⟨v, u, rfl, hva, hvp⟩, hbu⟩
  clear hcl
  obtain ⟨Ama, cma, Aba, cba, rfl, hM, hBx, hA⟩ := id hva
  obtain ⟨Ac, cc, rfl, hcs, hlp⟩ := hvp
  have hsu1 : w.heap.size ≤ u1.heap.size := hbu.size
  have hl0 : p.cavs.length ≤ 1000 := by rw [HP0.out]; omega
  have H2 : Hid (Below w.heap.size w u1) := Lib.hid ((Below.trans H1.out (Below.mono hbu (Below.size H1.out))))
  clear H1
  have HVA := Lib.hid (hva.mono (Q' := fun g => g < u1.heap.size) fun g hg _ => hg)
  have HVC := Lib.hid (hcs.mono (Q' := fun g => g < u1.heap.size) fun g hg _ => hg)
  clear hM hBx hA hbu hva hcs
  have H3 : Hid (Below u1.heap.size u1 u1) := Lib.hid (Below.refl _ _)
  have ks0 : ∀ z0 z1 : Array Value, Whole ((u1.alloc (.cells z0 32)).alloc (.cells z1 51)) u1.heap.size 32 z0 := fun _ _ => (Whole.alloc (Whole.here _ _ _) _)
  have ks1 : ∀ z0 z1 : Array Value, Whole (((u1.alloc (.cells z0 32)).alloc (.cells z1 51)).setRow u1.heap.size (alc a.free a.seed a.fresh (.slice Ama a.macs.length cma) (.slice Aba a.boxes.length cba))) (u1.heap.size + 1) 51 z1 := fun _ _ => (Whole.setRow_far (Whole.at_ _ _ _ _ (by simp)) (by omega) _)
  go_upto_region 2 with (first
    | (with_reducible refine wpList_store_alg rfl _ _ rfl (g := u1.heap.size) rfl rfl (ks0 _ _) rfl (alc_size _ _ _ _ _) (alc_one _ _ _ _ _ _ _ _ _) ?_)
    | (with_reducible refine wpList_store_pass rfl _ _ rfl (g := (u1.heap.size + 1)) rfl rfl (ks1 _ _) rfl (psl_size _ _ _ _) (psl_one _ _ _ _ _ _) ?_))
  clear ks0 ks1
  rw [zps_lit]
  rw [zar_lit]
  obtain ⟨q1, hq⟩ : ∃ q, q = ((((u1.alloc (.cells zar 32)).alloc (.cells zps 51)).setRow u1.heap.size (alc a.free a.seed a.fresh (.slice Ama a.macs.length cma) (.slice Aba a.boxes.length cba))).setRow (u1.heap.size + 1) (psl p.epoch p.serial (.slice Ac p.cavs.length cc) p.tag).toArray) := ⟨_, rfl⟩
  rw [← hq]
  have hsq1 : u1.heap.size + 2 ≤ q1.heap.size := by rw [hq]; simp
  have H4 : Hid (Below w.heap.size w q1) := Lib.hid (by rw [hq]; exact (below_setRow (below_setRow (Below.trans H2.out (Below.mono (Below.alloc (Below.alloc (Below.refl _ _) (Nat.le_refl _) _) (by simp) _) (Below.size H2.out))) (by omega) _) (by omega) _))
  have H5 : Hid (Below u1.heap.size u1 q1) := Lib.hid (by rw [hq]; exact (below_setRow (below_setRow (Below.trans H3.out (Below.mono (Below.alloc (Below.alloc (Below.refl _ _) (Nat.le_refl _) _) (by simp) _) (Below.size H3.out))) (by omega) _) (by omega) _))
  clear H2 H3
  have H6 : Hid (ALRow q1 u1.heap.size a.free a.seed a.fresh (.slice Ama a.macs.length cma) (.slice Aba a.boxes.length cba)) := Lib.hid (by rw [hq]; exact (Whole.setRow_far (Whole.setRow (Whole.alloc (Whole.here _ _ _) _) _) (by omega) _))
  have H7 : Hid (Whole q1 (u1.heap.size + 1) 51 (psl p.epoch p.serial (.slice Ac p.cavs.length cc) p.tag).toArray) := Lib.hid (by rw [hq]; exact (Whole.setRow (Whole.setRow_far (Whole.at_ _ _ _ _ (by simp)) (by omega) _) _))
  clear hq
  (try simp only [Act.put])
  go_cut [4, 5, 6] (fun s4 s5 s6 wx => AkP q1 b q s4 s5 s6 wx)
  case first =>
    have hbw := H4.out
    have hloc := H5.out
    have hsP : u1.heap.size ≤ q1.heap.size := hloc.size
    have HLOC := Lib.hid hloc
    have HTW := Lib.hid (HT.out.below (Nat.le_refl _) hbw)
    clear hbw hloc
    have HCC : Hid (∀ W, Below q1.heap.size q1 W → (fun W : World => W.rangeAt u1.heap.size 0 (alcl a.free a.seed a.fresh (.slice Ama a.macs.length cma) (.slice Aba a.boxes.length cba)) ∧ W.rangeAt (u1.heap.size + 1) 0 (psl p.epoch p.serial (.slice Ac p.cavs.length cc) p.tag)) W) := Lib.hid fun W hb => ⟨Whole.range (Whole.below H6.out hb (Whole.lt H6.out)), Whole.range (Whole.below H7.out hb (Whole.lt H7.out))⟩
    have hb0 : Below q1.heap.size q1 q1.drew := Below.drew (Below.refl _ _)
    have hs0 : q1.heap.size ≤ q1.drew.heap.size := hb0.size
    refine wp_region_held_drew (S := fun W : World => W.rangeAt u1.heap.size 0 (alcl a.free a.seed a.fresh (.slice Ama a.macs.length cma) (.slice Aba a.boxes.length cba)) ∧ W.rangeAt (u1.heap.size + 1) 0 (psl p.epoch p.serial (.slice Ac p.cavs.length cc) p.tag)) (by kernel_rfl) (HCC.out _ hb0) (fun hHeld => ?_)
    apply wpT (i := 0) rfl (by kernel_rfl)
    case hQ => exact fun _ _ _ h => h
    case hS => exact hHeld
    case hy => exact yieldsIf_load_mid (by rfl) 32 _ rfl u1.heap.size (0) rfl ((alcl a.free a.seed a.fresh (.slice Ama a.macs.length cma) (.slice Aba a.boxes.length cba))) _ (fun w hS => hS.1) Tryd.underlying32 rfl (by rw [algSize, alcl_length])
    (try simp only [sq])
    apply wpT (i := 1) rfl (by kernel_rfl)
    case hQ => exact fun _ _ _ h => h
    case hS => exact hHeld
    case hy => exact yieldsIf_load_mid (by rfl) 51 _ rfl (u1.heap.size + 1) (0) rfl ((psl p.epoch p.serial (.slice Ac p.cavs.length cc) p.tag)) _ (fun w hS => hS.2) Tryd.underlying51 rfl (by rw [passSize, psl_len])
    (try simp only [sq])
    refine wpAnyH_ready (rs := [2, 8, 9]) (by kernel_rfl) (by simp) ?_
    refine AllReadyH.cons rfl (fun KK hKK => ?_) (AllReadyH.cons rfl (fun KK hKK => ?_) (AllReadyH.cons rfl (fun KK hKK => ?_) AllReadyH.nil))
    · (try simp only [sq])
      go_simp
      go_at_call 51
      refine (crides 3 q1.drew (fun _ => True)).mono ?_
      rintro e V1 ⟨hx1, hv1⟩
      have hs1 : q1.drew.heap.size ≤ V1.heap.size := hv1.size
      have hb1 := Below.trans hb0 (Below.mono hv1 (Below.size hb0))
      obtain ⟨vc1, rfl, hcv1⟩ := hx1
      obtain ⟨E1, e1, E2, e2, rfl, hce1, hce2, hcew⟩ := id hcv1
      clear hce1 hce2 hcew
      have cv_1 : CavV V1 (fun _ => True) (.agg (cvrow (rcv 3).third (rcv 3).first (rcv 3).party (.slice E1 (rcv 3).ticket.length e1) (.slice E2 (rcv 3).box.length e2))) (rcv 3) := hcv1
      refine hKK.out _ _ (HCC.out _ hb1) (fun hHeld => ?_)
      clear hKK KK
      (try simp only [sq])
      refine wpAnyH_ready (rs := [3, 8, 9]) (by kernel_rfl) (by simp) ?_
      refine AllReadyH.cons rfl (fun KK hKK => ?_) (AllReadyH.cons rfl (fun KK hKK => ?_) (AllReadyH.cons rfl (fun KK hKK => ?_) AllReadyH.nil))
      · (try simp only [sq])
        go_simp
        go_at_call 20
        refine (catt (AlV.below HVA.out (Below.trans HLOC.out (Below.mono hb1 (Below.size HLOC.out))) (Nat.le_refl _)) (by have := HN2.out; omega) (P := p) ⟨Ac, cc, rfl, Cavs.below HVC.out (Below.trans HLOC.out (Below.mono hb1 (Below.size HLOC.out))) (Nat.le_refl _), hlp⟩ hl0 cv_1 (Tables.below HTW.out (Nat.le_refl _) hb1)).mono ?_
        rintro e V2 ⟨hx2, hv2⟩
        have hs2 : V1.heap.size ≤ V2.heap.size := hv2.size
        have hb2 := Below.trans hb1 (Below.mono hv2 (Below.size hb1))
        have cv_2 := CavV.below cv_1 hv2 (Nat.le_refl _)
        rw [← HR2.out] at hx2
        obtain ⟨vv2, vu2, rfl, hav2, hpv2⟩ := hx2
        obtain ⟨Amb, cmb, Abb, cbb, rfl, hM, hBx, hA⟩ := hav2
        obtain ⟨Aq, cq, rfl, hqc, hqt⟩ := hpv2
        clear hM hBx hA hqc
        refine hKK.out _ _ (HCC.out _ hb2) (fun hHeld => ?_)
        clear hKK KK
        (try simp only [sq])
        apply wpT (i := 4) rfl (by kernel_rfl)
        case hQ => exact fun _ _ _ h => h
        case hS => exact hHeld
        case hy => (refine Or.inl ⟨by rfl, ?_⟩; intro w hSw; (try go_split_ands); go_simp; (try with_reducible rfl))
        (try simp only [sq])
        apply wpT (i := 5) rfl (by kernel_rfl)
        case hQ => exact fun _ _ _ h => h
        case hS => exact hHeld
        case hy => (refine Or.inl ⟨by rfl, ?_⟩; intro w hSw; (try go_split_ands); go_simp; (try with_reducible rfl))
        (try simp only [sq])
        apply wpT (i := 6) rfl (by kernel_rfl)
        case hQ => exact fun _ _ _ h => h
        case hS => exact hHeld
        case hy => (refine Or.inl ⟨by rfl, ?_⟩; intro w hSw; (try go_split_ands); go_simp; (try with_reducible rfl))
        (try simp only [sq])
        apply wpT (i := 7) rfl (by kernel_rfl)
        case hQ => exact fun _ _ _ h => h
        case hS => exact hHeld
        case hy => (refine Or.inl ⟨by rfl, ?_⟩; intro w hSw; (try go_split_ands); go_simp; (try with_reducible rfl))
        (try simp only [sq])
        refine wpAnyH_ready (rs := [8, 9]) (by kernel_rfl) (by simp) ?_
        refine AllReadyH.cons rfl (fun KK hKK => ?_) (AllReadyH.cons rfl (fun KK hKK => ?_) AllReadyH.nil)
        · (try simp only [sq])
          go_simp
          rw [zar_lit]
          obtain ⟨V3, hV3⟩ : ∃ x, x = (V2).alloc (.cells zar 32) := ⟨_, rfl⟩
          have hv3 : Below V2.heap.size V2 V3 := by rw [hV3]; exact Below.alloc (Below.refl _ _) (Nat.le_refl _) _
          have hs3 : V2.heap.size < V3.heap.size := by rw [hV3]; simp
          have hb3 : Below q1.heap.size q1 V3 := Below.trans hb2 (Below.mono hv3 (Below.size hb2))
          have r_x4_3 : Whole V3 (V2.heap.size) 32 zar := by rw [hV3]; exact Whole.here _ _ _
          have hpx4 : q1.heap.size ≤ V2.heap.size := Below.size hb2
          rw [← hV3]
          clear hV3
          refine hKK.out _ _ (HCC.out _ hb3) (fun hHeld => ?_)
          clear hKK KK
          (try simp only [sq])
          refine wpAnyH_ready (rs := [9]) (by kernel_rfl) (by simp) ?_
          refine AllReadyH.cons rfl (fun KK hKK => ?_) AllReadyH.nil
          (try simp only [sq])
          go_simp
          rw [zps_lit]
          obtain ⟨V4, hV4⟩ : ∃ x, x = (V3).alloc (.cells zps 51) := ⟨_, rfl⟩
          have hv4 : Below V3.heap.size V3 V4 := by rw [hV4]; exact Below.alloc (Below.refl _ _) (Nat.le_refl _) _
          have hs4 : V3.heap.size < V4.heap.size := by rw [hV4]; simp
          have hb4 : Below q1.heap.size q1 V4 := Below.trans hb3 (Below.mono hv4 (Below.size hb3))
          have r_x4_4 := Whole.below r_x4_3 hv4 (Whole.lt r_x4_3)
          have r_x5_4 : Whole V4 (V3.heap.size) 51 zps := by rw [hV4]; exact Whole.here _ _ _
          have hpx5 : q1.heap.size ≤ V3.heap.size := Below.size hb3
          rw [← hV4]
          clear hV4
          refine hKK.out _ _ (HCC.out _ hb4) (fun hHeld => ?_)
          clear hKK KK
          (try simp only [sq])
          refine wpAnyH_ready (rs := [10]) (by kernel_rfl) (by simp) ?_
          refine AllReadyH.cons rfl (fun KK hKK => ?_) AllReadyH.nil
          obtain ⟨V5, hV5⟩ : ∃ x, x = (V4).setRow (V2.heap.size) (alc b.free b.seed b.fresh (.slice Amb b.macs.length cmb) (.slice Abb b.boxes.length cbb)) := ⟨_, rfl⟩
          have r_x5_5 : Whole V5 (V3.heap.size) 51 zps := by rw [hV5]; exact Whole.setRow_far r_x5_4 (by omega) _
          have r_x4_5 : Whole V5 (V2.heap.size) 32 (alc b.free b.seed b.fresh (.slice Amb b.macs.length cmb) (.slice Abb b.boxes.length cbb)) := by rw [hV5]; exact Whole.setRow r_x4_4 _
          have hs5 : V4.heap.size ≤ V5.heap.size := by rw [hV5]; simp
          have hb5 : Below q1.heap.size q1 V5 := by rw [hV5]; exact below_setRow hb4 (by omega) _
          rw [if_pos (by kernel_rfl)]
          refine wp_store_row 32 _ _ rfl (V2.heap.size) _ rfl rfl 32 _ r_x4_4 (by rw [algSize, alc_size]) (by rw [zar_size, alc_size]) (alc_one _ _ _ _ _ _ _ _ _) ?_
          rw [← hV5]
          clear hV5
          refine hKK.out _ _ (HCC.out _ hb5) (fun hHeld => ?_)
          clear hKK KK
          (try simp only [sq])
          refine wpAnyH_ready (rs := [11]) (by kernel_rfl) (by simp) ?_
          refine AllReadyH.cons rfl (fun KK hKK => ?_) AllReadyH.nil
          obtain ⟨V6, hV6⟩ : ∃ x, x = (V5).setRow (V3.heap.size) (psl q.epoch q.serial (.slice Aq q.cavs.length cq) q.tag).toArray := ⟨_, rfl⟩
          have r_x4_6 : Whole V6 (V2.heap.size) 32 (alc b.free b.seed b.fresh (.slice Amb b.macs.length cmb) (.slice Abb b.boxes.length cbb)) := by rw [hV6]; exact Whole.setRow_far r_x4_5 (by omega) _
          have r_x5_6 : Whole V6 (V3.heap.size) 51 (psl q.epoch q.serial (.slice Aq q.cavs.length cq) q.tag).toArray := by rw [hV6]; exact Whole.setRow r_x5_5 _
          have hs6 : V5.heap.size ≤ V6.heap.size := by rw [hV6]; simp
          have hb6 : Below q1.heap.size q1 V6 := by rw [hV6]; exact below_setRow hb5 (by omega) _
          rw [if_pos (by kernel_rfl)]
          refine wp_store_row 51 _ _ rfl (V3.heap.size) _ rfl rfl 51 _ r_x5_5 (by rw [passSize, psl_size]) (by rw [zps_size, psl_size]) (psl_one _ _ _ _ _ _) ?_
          rw [← hV6]
          clear hV6
          refine hKK.out _ _ (HCC.out _ hb6) (fun hHeld => ?_)
          clear hKK KK
          (try simp only [sq])
          apply wpT (i := 12) rfl (by kernel_rfl)
          case hQ => exact fun _ _ _ h => h
          case hS => exact hHeld
          case hy => (refine Or.inl ⟨by rfl, ?_⟩; intro w hSw; (try go_split_ands); go_simp; (try with_reducible rfl))
          (try simp only [sq])
          refine wpAnyH_done (by kernel_rfl) ?_ _
          clear HCC hHeld
          go_wp2_with fail
          go_meet
          exact ⟨V2.heap.size, V3.heap.size, Amb, Abb, Aq, cmb, cbb, cq, rfl, rfl, rfl, r_x4_6, r_x5_6, hb6⟩
        · (try simp only [sq])
          go_simp
          rw [zps_lit]
          obtain ⟨V7, hV7⟩ : ∃ x, x = (V2).alloc (.cells zps 51) := ⟨_, rfl⟩
          have hv7 : Below V2.heap.size V2 V7 := by rw [hV7]; exact Below.alloc (Below.refl _ _) (Nat.le_refl _) _
          have hs7 : V2.heap.size < V7.heap.size := by rw [hV7]; simp
          have hb7 : Below q1.heap.size q1 V7 := Below.trans hb2 (Below.mono hv7 (Below.size hb2))
          have r_x5_7 : Whole V7 (V2.heap.size) 51 zps := by rw [hV7]; exact Whole.here _ _ _
          have hpx5 : q1.heap.size ≤ V2.heap.size := Below.size hb2
          rw [← hV7]
          clear hV7
          refine hKK.out _ _ (HCC.out _ hb7) (fun hHeld => ?_)
          clear hKK KK
          (try simp only [sq])
          refine wpAnyH_ready (rs := [8]) (by kernel_rfl) (by simp) ?_
          refine AllReadyH.cons rfl (fun KK hKK => ?_) AllReadyH.nil
          (try simp only [sq])
          go_simp
          rw [zar_lit]
          obtain ⟨V8, hV8⟩ : ∃ x, x = (V7).alloc (.cells zar 32) := ⟨_, rfl⟩
          have hv8 : Below V7.heap.size V7 V8 := by rw [hV8]; exact Below.alloc (Below.refl _ _) (Nat.le_refl _) _
          have hs8 : V7.heap.size < V8.heap.size := by rw [hV8]; simp
          have hb8 : Below q1.heap.size q1 V8 := Below.trans hb7 (Below.mono hv8 (Below.size hb7))
          have r_x5_8 := Whole.below r_x5_7 hv8 (Whole.lt r_x5_7)
          have r_x4_8 : Whole V8 (V7.heap.size) 32 zar := by rw [hV8]; exact Whole.here _ _ _
          have hpx4 : q1.heap.size ≤ V7.heap.size := Below.size hb7
          rw [← hV8]
          clear hV8
          refine hKK.out _ _ (HCC.out _ hb8) (fun hHeld => ?_)
          clear hKK KK
          (try simp only [sq])
          refine wpAnyH_ready (rs := [10]) (by kernel_rfl) (by simp) ?_
          refine AllReadyH.cons rfl (fun KK hKK => ?_) AllReadyH.nil
          obtain ⟨V9, hV9⟩ : ∃ x, x = (V8).setRow (V7.heap.size) (alc b.free b.seed b.fresh (.slice Amb b.macs.length cmb) (.slice Abb b.boxes.length cbb)) := ⟨_, rfl⟩
          have r_x5_9 : Whole V9 (V2.heap.size) 51 zps := by rw [hV9]; exact Whole.setRow_far r_x5_8 (by omega) _
          have r_x4_9 : Whole V9 (V7.heap.size) 32 (alc b.free b.seed b.fresh (.slice Amb b.macs.length cmb) (.slice Abb b.boxes.length cbb)) := by rw [hV9]; exact Whole.setRow r_x4_8 _
          have hs9 : V8.heap.size ≤ V9.heap.size := by rw [hV9]; simp
          have hb9 : Below q1.heap.size q1 V9 := by rw [hV9]; exact below_setRow hb8 (by omega) _
          rw [if_pos (by kernel_rfl)]
          refine wp_store_row 32 _ _ rfl (V7.heap.size) _ rfl rfl 32 _ r_x4_8 (by rw [algSize, alc_size]) (by rw [zar_size, alc_size]) (alc_one _ _ _ _ _ _ _ _ _) ?_
          rw [← hV9]
          clear hV9
          refine hKK.out _ _ (HCC.out _ hb9) (fun hHeld => ?_)
          clear hKK KK
          (try simp only [sq])
          refine wpAnyH_ready (rs := [11]) (by kernel_rfl) (by simp) ?_
          refine AllReadyH.cons rfl (fun KK hKK => ?_) AllReadyH.nil
          obtain ⟨V10, hV10⟩ : ∃ x, x = (V9).setRow (V2.heap.size) (psl q.epoch q.serial (.slice Aq q.cavs.length cq) q.tag).toArray := ⟨_, rfl⟩
          have r_x4_10 : Whole V10 (V7.heap.size) 32 (alc b.free b.seed b.fresh (.slice Amb b.macs.length cmb) (.slice Abb b.boxes.length cbb)) := by rw [hV10]; exact Whole.setRow_far r_x4_9 (by omega) _
          have r_x5_10 : Whole V10 (V2.heap.size) 51 (psl q.epoch q.serial (.slice Aq q.cavs.length cq) q.tag).toArray := by rw [hV10]; exact Whole.setRow r_x5_9 _
          have hs10 : V9.heap.size ≤ V10.heap.size := by rw [hV10]; simp
          have hb10 : Below q1.heap.size q1 V10 := by rw [hV10]; exact below_setRow hb9 (by omega) _
          rw [if_pos (by kernel_rfl)]
          refine wp_store_row 51 _ _ rfl (V2.heap.size) _ rfl rfl 51 _ r_x5_9 (by rw [passSize, psl_size]) (by rw [zps_size, psl_size]) (psl_one _ _ _ _ _ _) ?_
          rw [← hV10]
          clear hV10
          refine hKK.out _ _ (HCC.out _ hb10) (fun hHeld => ?_)
          clear hKK KK
          (try simp only [sq])
          apply wpT (i := 12) rfl (by kernel_rfl)
          case hQ => exact fun _ _ _ h => h
          case hS => exact hHeld
          case hy => (refine Or.inl ⟨by rfl, ?_⟩; intro w hSw; (try go_split_ands); go_simp; (try with_reducible rfl))
          (try simp only [sq])
          refine wpAnyH_done (by kernel_rfl) ?_ _
          clear HCC hHeld
          go_wp2_with fail
          go_meet
          exact ⟨V7.heap.size, V2.heap.size, Amb, Abb, Aq, cmb, cbb, cq, rfl, rfl, rfl, r_x4_10, r_x5_10, hb10⟩
      · (try simp only [sq])
        go_simp
        rw [zar_lit]
        obtain ⟨V11, hV11⟩ : ∃ x, x = (V1).alloc (.cells zar 32) := ⟨_, rfl⟩
        have hv11 : Below V1.heap.size V1 V11 := by rw [hV11]; exact Below.alloc (Below.refl _ _) (Nat.le_refl _) _
        have hs11 : V1.heap.size < V11.heap.size := by rw [hV11]; simp
        have hb11 : Below q1.heap.size q1 V11 := Below.trans hb1 (Below.mono hv11 (Below.size hb1))
        have cv_11 := CavV.below cv_1 hv11 (Nat.le_refl _)
        have r_x4_11 : Whole V11 (V1.heap.size) 32 zar := by rw [hV11]; exact Whole.here _ _ _
        have hpx4 : q1.heap.size ≤ V1.heap.size := Below.size hb1
        rw [← hV11]
        clear hV11
        refine hKK.out _ _ (HCC.out _ hb11) (fun hHeld => ?_)
        clear hKK KK
        (try simp only [sq])
        refine wpAnyH_ready (rs := [3, 9]) (by kernel_rfl) (by simp) ?_
        refine AllReadyH.cons rfl (fun KK hKK => ?_) (AllReadyH.cons rfl (fun KK hKK => ?_) AllReadyH.nil)
        · (try simp only [sq])
          go_simp
          go_at_call 20
          refine (catt (AlV.below HVA.out (Below.trans HLOC.out (Below.mono hb11 (Below.size HLOC.out))) (Nat.le_refl _)) (by have := HN2.out; omega) (P := p) ⟨Ac, cc, rfl, Cavs.below HVC.out (Below.trans HLOC.out (Below.mono hb11 (Below.size HLOC.out))) (Nat.le_refl _), hlp⟩ hl0 cv_11 (Tables.below HTW.out (Nat.le_refl _) hb11)).mono ?_
          rintro e V12 ⟨hx12, hv12⟩
          have hs12 : V11.heap.size ≤ V12.heap.size := hv12.size
          have hb12 := Below.trans hb11 (Below.mono hv12 (Below.size hb11))
          have cv_12 := CavV.below cv_11 hv12 (Nat.le_refl _)
          have r_x4_12 := Whole.below r_x4_11 hv12 (Whole.lt r_x4_11)
          rw [← HR2.out] at hx12
          obtain ⟨vv12, vu12, rfl, hav12, hpv12⟩ := hx12
          obtain ⟨Amb, cmb, Abb, cbb, rfl, hM, hBx, hA⟩ := hav12
          obtain ⟨Aq, cq, rfl, hqc, hqt⟩ := hpv12
          clear hM hBx hA hqc
          refine hKK.out _ _ (HCC.out _ hb12) (fun hHeld => ?_)
          clear hKK KK
          (try simp only [sq])
          apply wpT (i := 4) rfl (by kernel_rfl)
          case hQ => exact fun _ _ _ h => h
          case hS => exact hHeld
          case hy => (refine Or.inl ⟨by rfl, ?_⟩; intro w hSw; (try go_split_ands); go_simp; (try with_reducible rfl))
          (try simp only [sq])
          apply wpT (i := 5) rfl (by kernel_rfl)
          case hQ => exact fun _ _ _ h => h
          case hS => exact hHeld
          case hy => (refine Or.inl ⟨by rfl, ?_⟩; intro w hSw; (try go_split_ands); go_simp; (try with_reducible rfl))
          (try simp only [sq])
          apply wpT (i := 6) rfl (by kernel_rfl)
          case hQ => exact fun _ _ _ h => h
          case hS => exact hHeld
          case hy => (refine Or.inl ⟨by rfl, ?_⟩; intro w hSw; (try go_split_ands); go_simp; (try with_reducible rfl))
          (try simp only [sq])
          apply wpT (i := 7) rfl (by kernel_rfl)
          case hQ => exact fun _ _ _ h => h
          case hS => exact hHeld
          case hy => (refine Or.inl ⟨by rfl, ?_⟩; intro w hSw; (try go_split_ands); go_simp; (try with_reducible rfl))
          (try simp only [sq])
          refine wpAnyH_ready (rs := [9]) (by kernel_rfl) (by simp) ?_
          refine AllReadyH.cons rfl (fun KK hKK => ?_) AllReadyH.nil
          (try simp only [sq])
          go_simp
          rw [zps_lit]
          obtain ⟨V13, hV13⟩ : ∃ x, x = (V12).alloc (.cells zps 51) := ⟨_, rfl⟩
          have hv13 : Below V12.heap.size V12 V13 := by rw [hV13]; exact Below.alloc (Below.refl _ _) (Nat.le_refl _) _
          have hs13 : V12.heap.size < V13.heap.size := by rw [hV13]; simp
          have hb13 : Below q1.heap.size q1 V13 := Below.trans hb12 (Below.mono hv13 (Below.size hb12))
          have r_x4_13 := Whole.below r_x4_12 hv13 (Whole.lt r_x4_12)
          have r_x5_13 : Whole V13 (V12.heap.size) 51 zps := by rw [hV13]; exact Whole.here _ _ _
          have hpx5 : q1.heap.size ≤ V12.heap.size := Below.size hb12
          rw [← hV13]
          clear hV13
          refine hKK.out _ _ (HCC.out _ hb13) (fun hHeld => ?_)
          clear hKK KK
          (try simp only [sq])
          refine wpAnyH_ready (rs := [10]) (by kernel_rfl) (by simp) ?_
          refine AllReadyH.cons rfl (fun KK hKK => ?_) AllReadyH.nil
          obtain ⟨V14, hV14⟩ : ∃ x, x = (V13).setRow (V1.heap.size) (alc b.free b.seed b.fresh (.slice Amb b.macs.length cmb) (.slice Abb b.boxes.length cbb)) := ⟨_, rfl⟩
          have r_x5_14 : Whole V14 (V12.heap.size) 51 zps := by rw [hV14]; exact Whole.setRow_far r_x5_13 (by omega) _
          have r_x4_14 : Whole V14 (V1.heap.size) 32 (alc b.free b.seed b.fresh (.slice Amb b.macs.length cmb) (.slice Abb b.boxes.length cbb)) := by rw [hV14]; exact Whole.setRow r_x4_13 _
          have hs14 : V13.heap.size ≤ V14.heap.size := by rw [hV14]; simp
          have hb14 : Below q1.heap.size q1 V14 := by rw [hV14]; exact below_setRow hb13 (by omega) _
          rw [if_pos (by kernel_rfl)]
          refine wp_store_row 32 _ _ rfl (V1.heap.size) _ rfl rfl 32 _ r_x4_13 (by rw [algSize, alc_size]) (by rw [zar_size, alc_size]) (alc_one _ _ _ _ _ _ _ _ _) ?_
          rw [← hV14]
          clear hV14
          refine hKK.out _ _ (HCC.out _ hb14) (fun hHeld => ?_)
          clear hKK KK
          (try simp only [sq])
          refine wpAnyH_ready (rs := [11]) (by kernel_rfl) (by simp) ?_
          refine AllReadyH.cons rfl (fun KK hKK => ?_) AllReadyH.nil
          obtain ⟨V15, hV15⟩ : ∃ x, x = (V14).setRow (V12.heap.size) (psl q.epoch q.serial (.slice Aq q.cavs.length cq) q.tag).toArray := ⟨_, rfl⟩
          have r_x4_15 : Whole V15 (V1.heap.size) 32 (alc b.free b.seed b.fresh (.slice Amb b.macs.length cmb) (.slice Abb b.boxes.length cbb)) := by rw [hV15]; exact Whole.setRow_far r_x4_14 (by omega) _
          have r_x5_15 : Whole V15 (V12.heap.size) 51 (psl q.epoch q.serial (.slice Aq q.cavs.length cq) q.tag).toArray := by rw [hV15]; exact Whole.setRow r_x5_14 _
          have hs15 : V14.heap.size ≤ V15.heap.size := by rw [hV15]; simp
          have hb15 : Below q1.heap.size q1 V15 := by rw [hV15]; exact below_setRow hb14 (by omega) _
          rw [if_pos (by kernel_rfl)]
          refine wp_store_row 51 _ _ rfl (V12.heap.size) _ rfl rfl 51 _ r_x5_14 (by rw [passSize, psl_size]) (by rw [zps_size, psl_size]) (psl_one _ _ _ _ _ _) ?_
          rw [← hV15]
          clear hV15
          refine hKK.out _ _ (HCC.out _ hb15) (fun hHeld => ?_)
          clear hKK KK
          (try simp only [sq])
          apply wpT (i := 12) rfl (by kernel_rfl)
          case hQ => exact fun _ _ _ h => h
          case hS => exact hHeld
          case hy => (refine Or.inl ⟨by rfl, ?_⟩; intro w hSw; (try go_split_ands); go_simp; (try with_reducible rfl))
          (try simp only [sq])
          refine wpAnyH_done (by kernel_rfl) ?_ _
          clear HCC hHeld
          go_wp2_with fail
          go_meet
          exact ⟨V1.heap.size, V12.heap.size, Amb, Abb, Aq, cmb, cbb, cq, rfl, rfl, rfl, r_x4_15, r_x5_15, hb15⟩
        · (try simp only [sq])
          go_simp
          rw [zps_lit]
          obtain ⟨V16, hV16⟩ : ∃ x, x = (V11).alloc (.cells zps 51) := ⟨_, rfl⟩
          have hv16 : Below V11.heap.size V11 V16 := by rw [hV16]; exact Below.alloc (Below.refl _ _) (Nat.le_refl _) _
          have hs16 : V11.heap.size < V16.heap.size := by rw [hV16]; simp
          have hb16 : Below q1.heap.size q1 V16 := Below.trans hb11 (Below.mono hv16 (Below.size hb11))
          have cv_16 := CavV.below cv_11 hv16 (Nat.le_refl _)
          have r_x4_16 := Whole.below r_x4_11 hv16 (Whole.lt r_x4_11)
          have r_x5_16 : Whole V16 (V11.heap.size) 51 zps := by rw [hV16]; exact Whole.here _ _ _
          have hpx5 : q1.heap.size ≤ V11.heap.size := Below.size hb11
          rw [← hV16]
          clear hV16
          refine hKK.out _ _ (HCC.out _ hb16) (fun hHeld => ?_)
          clear hKK KK
          (try simp only [sq])
          refine wpAnyH_ready (rs := [3]) (by kernel_rfl) (by simp) ?_
          refine AllReadyH.cons rfl (fun KK hKK => ?_) AllReadyH.nil
          (try simp only [sq])
          go_simp
          go_at_call 20
          refine (catt (AlV.below HVA.out (Below.trans HLOC.out (Below.mono hb16 (Below.size HLOC.out))) (Nat.le_refl _)) (by have := HN2.out; omega) (P := p) ⟨Ac, cc, rfl, Cavs.below HVC.out (Below.trans HLOC.out (Below.mono hb16 (Below.size HLOC.out))) (Nat.le_refl _), hlp⟩ hl0 cv_16 (Tables.below HTW.out (Nat.le_refl _) hb16)).mono ?_
          rintro e V17 ⟨hx17, hv17⟩
          have hs17 : V16.heap.size ≤ V17.heap.size := hv17.size
          have hb17 := Below.trans hb16 (Below.mono hv17 (Below.size hb16))
          have cv_17 := CavV.below cv_16 hv17 (Nat.le_refl _)
          have r_x4_17 := Whole.below r_x4_16 hv17 (Whole.lt r_x4_16)
          have r_x5_17 := Whole.below r_x5_16 hv17 (Whole.lt r_x5_16)
          rw [← HR2.out] at hx17
          obtain ⟨vv17, vu17, rfl, hav17, hpv17⟩ := hx17
          obtain ⟨Amb, cmb, Abb, cbb, rfl, hM, hBx, hA⟩ := hav17
          obtain ⟨Aq, cq, rfl, hqc, hqt⟩ := hpv17
          clear hM hBx hA hqc
          refine hKK.out _ _ (HCC.out _ hb17) (fun hHeld => ?_)
          clear hKK KK
          (try simp only [sq])
          apply wpT (i := 4) rfl (by kernel_rfl)
          case hQ => exact fun _ _ _ h => h
          case hS => exact hHeld
          case hy => (refine Or.inl ⟨by rfl, ?_⟩; intro w hSw; (try go_split_ands); go_simp; (try with_reducible rfl))
          (try simp only [sq])
          apply wpT (i := 5) rfl (by kernel_rfl)
          case hQ => exact fun _ _ _ h => h
          case hS => exact hHeld
          case hy => (refine Or.inl ⟨by rfl, ?_⟩; intro w hSw; (try go_split_ands); go_simp; (try with_reducible rfl))
          (try simp only [sq])
          apply wpT (i := 6) rfl (by kernel_rfl)
          case hQ => exact fun _ _ _ h => h
          case hS => exact hHeld
          case hy => (refine Or.inl ⟨by rfl, ?_⟩; intro w hSw; (try go_split_ands); go_simp; (try with_reducible rfl))
          (try simp only [sq])
          apply wpT (i := 7) rfl (by kernel_rfl)
          case hQ => exact fun _ _ _ h => h
          case hS => exact hHeld
          case hy => (refine Or.inl ⟨by rfl, ?_⟩; intro w hSw; (try go_split_ands); go_simp; (try with_reducible rfl))
          (try simp only [sq])
          refine wpAnyH_ready (rs := [10]) (by kernel_rfl) (by simp) ?_
          refine AllReadyH.cons rfl (fun KK hKK => ?_) AllReadyH.nil
          obtain ⟨V18, hV18⟩ : ∃ x, x = (V17).setRow (V1.heap.size) (alc b.free b.seed b.fresh (.slice Amb b.macs.length cmb) (.slice Abb b.boxes.length cbb)) := ⟨_, rfl⟩
          have r_x5_18 : Whole V18 (V11.heap.size) 51 zps := by rw [hV18]; exact Whole.setRow_far r_x5_17 (by omega) _
          have r_x4_18 : Whole V18 (V1.heap.size) 32 (alc b.free b.seed b.fresh (.slice Amb b.macs.length cmb) (.slice Abb b.boxes.length cbb)) := by rw [hV18]; exact Whole.setRow r_x4_17 _
          have hs18 : V17.heap.size ≤ V18.heap.size := by rw [hV18]; simp
          have hb18 : Below q1.heap.size q1 V18 := by rw [hV18]; exact below_setRow hb17 (by omega) _
          rw [if_pos (by kernel_rfl)]
          refine wp_store_row 32 _ _ rfl (V1.heap.size) _ rfl rfl 32 _ r_x4_17 (by rw [algSize, alc_size]) (by rw [zar_size, alc_size]) (alc_one _ _ _ _ _ _ _ _ _) ?_
          rw [← hV18]
          clear hV18
          refine hKK.out _ _ (HCC.out _ hb18) (fun hHeld => ?_)
          clear hKK KK
          (try simp only [sq])
          refine wpAnyH_ready (rs := [11]) (by kernel_rfl) (by simp) ?_
          refine AllReadyH.cons rfl (fun KK hKK => ?_) AllReadyH.nil
          obtain ⟨V19, hV19⟩ : ∃ x, x = (V18).setRow (V11.heap.size) (psl q.epoch q.serial (.slice Aq q.cavs.length cq) q.tag).toArray := ⟨_, rfl⟩
          have r_x4_19 : Whole V19 (V1.heap.size) 32 (alc b.free b.seed b.fresh (.slice Amb b.macs.length cmb) (.slice Abb b.boxes.length cbb)) := by rw [hV19]; exact Whole.setRow_far r_x4_18 (by omega) _
          have r_x5_19 : Whole V19 (V11.heap.size) 51 (psl q.epoch q.serial (.slice Aq q.cavs.length cq) q.tag).toArray := by rw [hV19]; exact Whole.setRow r_x5_18 _
          have hs19 : V18.heap.size ≤ V19.heap.size := by rw [hV19]; simp
          have hb19 : Below q1.heap.size q1 V19 := by rw [hV19]; exact below_setRow hb18 (by omega) _
          rw [if_pos (by kernel_rfl)]
          refine wp_store_row 51 _ _ rfl (V11.heap.size) _ rfl rfl 51 _ r_x5_18 (by rw [passSize, psl_size]) (by rw [zps_size, psl_size]) (psl_one _ _ _ _ _ _) ?_
          rw [← hV19]
          clear hV19
          refine hKK.out _ _ (HCC.out _ hb19) (fun hHeld => ?_)
          clear hKK KK
          (try simp only [sq])
          apply wpT (i := 12) rfl (by kernel_rfl)
          case hQ => exact fun _ _ _ h => h
          case hS => exact hHeld
          case hy => (refine Or.inl ⟨by rfl, ?_⟩; intro w hSw; (try go_split_ands); go_simp; (try with_reducible rfl))
          (try simp only [sq])
          refine wpAnyH_done (by kernel_rfl) ?_ _
          clear HCC hHeld
          go_wp2_with fail
          go_meet
          exact ⟨V1.heap.size, V11.heap.size, Amb, Abb, Aq, cmb, cbb, cq, rfl, rfl, rfl, r_x4_19, r_x5_19, hb19⟩
      · (try simp only [sq])
        go_simp
        rw [zps_lit]
        obtain ⟨V20, hV20⟩ : ∃ x, x = (V1).alloc (.cells zps 51) := ⟨_, rfl⟩
        have hv20 : Below V1.heap.size V1 V20 := by rw [hV20]; exact Below.alloc (Below.refl _ _) (Nat.le_refl _) _
        have hs20 : V1.heap.size < V20.heap.size := by rw [hV20]; simp
        have hb20 : Below q1.heap.size q1 V20 := Below.trans hb1 (Below.mono hv20 (Below.size hb1))
        have cv_20 := CavV.below cv_1 hv20 (Nat.le_refl _)
        have r_x5_20 : Whole V20 (V1.heap.size) 51 zps := by rw [hV20]; exact Whole.here _ _ _
        have hpx5 : q1.heap.size ≤ V1.heap.size := Below.size hb1
        rw [← hV20]
        clear hV20
        refine hKK.out _ _ (HCC.out _ hb20) (fun hHeld => ?_)
        clear hKK KK
        (try simp only [sq])
        refine wpAnyH_ready (rs := [3, 8]) (by kernel_rfl) (by simp) ?_
        refine AllReadyH.cons rfl (fun KK hKK => ?_) (AllReadyH.cons rfl (fun KK hKK => ?_) AllReadyH.nil)
        · (try simp only [sq])
          go_simp
          go_at_call 20
          refine (catt (AlV.below HVA.out (Below.trans HLOC.out (Below.mono hb20 (Below.size HLOC.out))) (Nat.le_refl _)) (by have := HN2.out; omega) (P := p) ⟨Ac, cc, rfl, Cavs.below HVC.out (Below.trans HLOC.out (Below.mono hb20 (Below.size HLOC.out))) (Nat.le_refl _), hlp⟩ hl0 cv_20 (Tables.below HTW.out (Nat.le_refl _) hb20)).mono ?_
          rintro e V21 ⟨hx21, hv21⟩
          have hs21 : V20.heap.size ≤ V21.heap.size := hv21.size
          have hb21 := Below.trans hb20 (Below.mono hv21 (Below.size hb20))
          have cv_21 := CavV.below cv_20 hv21 (Nat.le_refl _)
          have r_x5_21 := Whole.below r_x5_20 hv21 (Whole.lt r_x5_20)
          rw [← HR2.out] at hx21
          obtain ⟨vv21, vu21, rfl, hav21, hpv21⟩ := hx21
          obtain ⟨Amb, cmb, Abb, cbb, rfl, hM, hBx, hA⟩ := hav21
          obtain ⟨Aq, cq, rfl, hqc, hqt⟩ := hpv21
          clear hM hBx hA hqc
          refine hKK.out _ _ (HCC.out _ hb21) (fun hHeld => ?_)
          clear hKK KK
          (try simp only [sq])
          apply wpT (i := 4) rfl (by kernel_rfl)
          case hQ => exact fun _ _ _ h => h
          case hS => exact hHeld
          case hy => (refine Or.inl ⟨by rfl, ?_⟩; intro w hSw; (try go_split_ands); go_simp; (try with_reducible rfl))
          (try simp only [sq])
          apply wpT (i := 5) rfl (by kernel_rfl)
          case hQ => exact fun _ _ _ h => h
          case hS => exact hHeld
          case hy => (refine Or.inl ⟨by rfl, ?_⟩; intro w hSw; (try go_split_ands); go_simp; (try with_reducible rfl))
          (try simp only [sq])
          apply wpT (i := 6) rfl (by kernel_rfl)
          case hQ => exact fun _ _ _ h => h
          case hS => exact hHeld
          case hy => (refine Or.inl ⟨by rfl, ?_⟩; intro w hSw; (try go_split_ands); go_simp; (try with_reducible rfl))
          (try simp only [sq])
          apply wpT (i := 7) rfl (by kernel_rfl)
          case hQ => exact fun _ _ _ h => h
          case hS => exact hHeld
          case hy => (refine Or.inl ⟨by rfl, ?_⟩; intro w hSw; (try go_split_ands); go_simp; (try with_reducible rfl))
          (try simp only [sq])
          refine wpAnyH_ready (rs := [8]) (by kernel_rfl) (by simp) ?_
          refine AllReadyH.cons rfl (fun KK hKK => ?_) AllReadyH.nil
          (try simp only [sq])
          go_simp
          rw [zar_lit]
          obtain ⟨V22, hV22⟩ : ∃ x, x = (V21).alloc (.cells zar 32) := ⟨_, rfl⟩
          have hv22 : Below V21.heap.size V21 V22 := by rw [hV22]; exact Below.alloc (Below.refl _ _) (Nat.le_refl _) _
          have hs22 : V21.heap.size < V22.heap.size := by rw [hV22]; simp
          have hb22 : Below q1.heap.size q1 V22 := Below.trans hb21 (Below.mono hv22 (Below.size hb21))
          have r_x5_22 := Whole.below r_x5_21 hv22 (Whole.lt r_x5_21)
          have r_x4_22 : Whole V22 (V21.heap.size) 32 zar := by rw [hV22]; exact Whole.here _ _ _
          have hpx4 : q1.heap.size ≤ V21.heap.size := Below.size hb21
          rw [← hV22]
          clear hV22
          refine hKK.out _ _ (HCC.out _ hb22) (fun hHeld => ?_)
          clear hKK KK
          (try simp only [sq])
          refine wpAnyH_ready (rs := [10]) (by kernel_rfl) (by simp) ?_
          refine AllReadyH.cons rfl (fun KK hKK => ?_) AllReadyH.nil
          obtain ⟨V23, hV23⟩ : ∃ x, x = (V22).setRow (V21.heap.size) (alc b.free b.seed b.fresh (.slice Amb b.macs.length cmb) (.slice Abb b.boxes.length cbb)) := ⟨_, rfl⟩
          have r_x5_23 : Whole V23 (V1.heap.size) 51 zps := by rw [hV23]; exact Whole.setRow_far r_x5_22 (by omega) _
          have r_x4_23 : Whole V23 (V21.heap.size) 32 (alc b.free b.seed b.fresh (.slice Amb b.macs.length cmb) (.slice Abb b.boxes.length cbb)) := by rw [hV23]; exact Whole.setRow r_x4_22 _
          have hs23 : V22.heap.size ≤ V23.heap.size := by rw [hV23]; simp
          have hb23 : Below q1.heap.size q1 V23 := by rw [hV23]; exact below_setRow hb22 (by omega) _
          rw [if_pos (by kernel_rfl)]
          refine wp_store_row 32 _ _ rfl (V21.heap.size) _ rfl rfl 32 _ r_x4_22 (by rw [algSize, alc_size]) (by rw [zar_size, alc_size]) (alc_one _ _ _ _ _ _ _ _ _) ?_
          rw [← hV23]
          clear hV23
          refine hKK.out _ _ (HCC.out _ hb23) (fun hHeld => ?_)
          clear hKK KK
          (try simp only [sq])
          refine wpAnyH_ready (rs := [11]) (by kernel_rfl) (by simp) ?_
          refine AllReadyH.cons rfl (fun KK hKK => ?_) AllReadyH.nil
          obtain ⟨V24, hV24⟩ : ∃ x, x = (V23).setRow (V1.heap.size) (psl q.epoch q.serial (.slice Aq q.cavs.length cq) q.tag).toArray := ⟨_, rfl⟩
          have r_x4_24 : Whole V24 (V21.heap.size) 32 (alc b.free b.seed b.fresh (.slice Amb b.macs.length cmb) (.slice Abb b.boxes.length cbb)) := by rw [hV24]; exact Whole.setRow_far r_x4_23 (by omega) _
          have r_x5_24 : Whole V24 (V1.heap.size) 51 (psl q.epoch q.serial (.slice Aq q.cavs.length cq) q.tag).toArray := by rw [hV24]; exact Whole.setRow r_x5_23 _
          have hs24 : V23.heap.size ≤ V24.heap.size := by rw [hV24]; simp
          have hb24 : Below q1.heap.size q1 V24 := by rw [hV24]; exact below_setRow hb23 (by omega) _
          rw [if_pos (by kernel_rfl)]
          refine wp_store_row 51 _ _ rfl (V1.heap.size) _ rfl rfl 51 _ r_x5_23 (by rw [passSize, psl_size]) (by rw [zps_size, psl_size]) (psl_one _ _ _ _ _ _) ?_
          rw [← hV24]
          clear hV24
          refine hKK.out _ _ (HCC.out _ hb24) (fun hHeld => ?_)
          clear hKK KK
          (try simp only [sq])
          apply wpT (i := 12) rfl (by kernel_rfl)
          case hQ => exact fun _ _ _ h => h
          case hS => exact hHeld
          case hy => (refine Or.inl ⟨by rfl, ?_⟩; intro w hSw; (try go_split_ands); go_simp; (try with_reducible rfl))
          (try simp only [sq])
          refine wpAnyH_done (by kernel_rfl) ?_ _
          clear HCC hHeld
          go_wp2_with fail
          go_meet
          exact ⟨V21.heap.size, V1.heap.size, Amb, Abb, Aq, cmb, cbb, cq, rfl, rfl, rfl, r_x4_24, r_x5_24, hb24⟩
        · (try simp only [sq])
          go_simp
          rw [zar_lit]
          obtain ⟨V25, hV25⟩ : ∃ x, x = (V20).alloc (.cells zar 32) := ⟨_, rfl⟩
          have hv25 : Below V20.heap.size V20 V25 := by rw [hV25]; exact Below.alloc (Below.refl _ _) (Nat.le_refl _) _
          have hs25 : V20.heap.size < V25.heap.size := by rw [hV25]; simp
          have hb25 : Below q1.heap.size q1 V25 := Below.trans hb20 (Below.mono hv25 (Below.size hb20))
          have cv_25 := CavV.below cv_20 hv25 (Nat.le_refl _)
          have r_x5_25 := Whole.below r_x5_20 hv25 (Whole.lt r_x5_20)
          have r_x4_25 : Whole V25 (V20.heap.size) 32 zar := by rw [hV25]; exact Whole.here _ _ _
          have hpx4 : q1.heap.size ≤ V20.heap.size := Below.size hb20
          rw [← hV25]
          clear hV25
          refine hKK.out _ _ (HCC.out _ hb25) (fun hHeld => ?_)
          clear hKK KK
          (try simp only [sq])
          refine wpAnyH_ready (rs := [3]) (by kernel_rfl) (by simp) ?_
          refine AllReadyH.cons rfl (fun KK hKK => ?_) AllReadyH.nil
          (try simp only [sq])
          go_simp
          go_at_call 20
          refine (catt (AlV.below HVA.out (Below.trans HLOC.out (Below.mono hb25 (Below.size HLOC.out))) (Nat.le_refl _)) (by have := HN2.out; omega) (P := p) ⟨Ac, cc, rfl, Cavs.below HVC.out (Below.trans HLOC.out (Below.mono hb25 (Below.size HLOC.out))) (Nat.le_refl _), hlp⟩ hl0 cv_25 (Tables.below HTW.out (Nat.le_refl _) hb25)).mono ?_
          rintro e V26 ⟨hx26, hv26⟩
          have hs26 : V25.heap.size ≤ V26.heap.size := hv26.size
          have hb26 := Below.trans hb25 (Below.mono hv26 (Below.size hb25))
          have cv_26 := CavV.below cv_25 hv26 (Nat.le_refl _)
          have r_x5_26 := Whole.below r_x5_25 hv26 (Whole.lt r_x5_25)
          have r_x4_26 := Whole.below r_x4_25 hv26 (Whole.lt r_x4_25)
          rw [← HR2.out] at hx26
          obtain ⟨vv26, vu26, rfl, hav26, hpv26⟩ := hx26
          obtain ⟨Amb, cmb, Abb, cbb, rfl, hM, hBx, hA⟩ := hav26
          obtain ⟨Aq, cq, rfl, hqc, hqt⟩ := hpv26
          clear hM hBx hA hqc
          refine hKK.out _ _ (HCC.out _ hb26) (fun hHeld => ?_)
          clear hKK KK
          (try simp only [sq])
          apply wpT (i := 4) rfl (by kernel_rfl)
          case hQ => exact fun _ _ _ h => h
          case hS => exact hHeld
          case hy => (refine Or.inl ⟨by rfl, ?_⟩; intro w hSw; (try go_split_ands); go_simp; (try with_reducible rfl))
          (try simp only [sq])
          apply wpT (i := 5) rfl (by kernel_rfl)
          case hQ => exact fun _ _ _ h => h
          case hS => exact hHeld
          case hy => (refine Or.inl ⟨by rfl, ?_⟩; intro w hSw; (try go_split_ands); go_simp; (try with_reducible rfl))
          (try simp only [sq])
          apply wpT (i := 6) rfl (by kernel_rfl)
          case hQ => exact fun _ _ _ h => h
          case hS => exact hHeld
          case hy => (refine Or.inl ⟨by rfl, ?_⟩; intro w hSw; (try go_split_ands); go_simp; (try with_reducible rfl))
          (try simp only [sq])
          apply wpT (i := 7) rfl (by kernel_rfl)
          case hQ => exact fun _ _ _ h => h
          case hS => exact hHeld
          case hy => (refine Or.inl ⟨by rfl, ?_⟩; intro w hSw; (try go_split_ands); go_simp; (try with_reducible rfl))
          (try simp only [sq])
          refine wpAnyH_ready (rs := [10]) (by kernel_rfl) (by simp) ?_
          refine AllReadyH.cons rfl (fun KK hKK => ?_) AllReadyH.nil
          obtain ⟨V27, hV27⟩ : ∃ x, x = (V26).setRow (V20.heap.size) (alc b.free b.seed b.fresh (.slice Amb b.macs.length cmb) (.slice Abb b.boxes.length cbb)) := ⟨_, rfl⟩
          have r_x5_27 : Whole V27 (V1.heap.size) 51 zps := by rw [hV27]; exact Whole.setRow_far r_x5_26 (by omega) _
          have r_x4_27 : Whole V27 (V20.heap.size) 32 (alc b.free b.seed b.fresh (.slice Amb b.macs.length cmb) (.slice Abb b.boxes.length cbb)) := by rw [hV27]; exact Whole.setRow r_x4_26 _
          have hs27 : V26.heap.size ≤ V27.heap.size := by rw [hV27]; simp
          have hb27 : Below q1.heap.size q1 V27 := by rw [hV27]; exact below_setRow hb26 (by omega) _
          rw [if_pos (by kernel_rfl)]
          refine wp_store_row 32 _ _ rfl (V20.heap.size) _ rfl rfl 32 _ r_x4_26 (by rw [algSize, alc_size]) (by rw [zar_size, alc_size]) (alc_one _ _ _ _ _ _ _ _ _) ?_
          rw [← hV27]
          clear hV27
          refine hKK.out _ _ (HCC.out _ hb27) (fun hHeld => ?_)
          clear hKK KK
          (try simp only [sq])
          refine wpAnyH_ready (rs := [11]) (by kernel_rfl) (by simp) ?_
          refine AllReadyH.cons rfl (fun KK hKK => ?_) AllReadyH.nil
          obtain ⟨V28, hV28⟩ : ∃ x, x = (V27).setRow (V1.heap.size) (psl q.epoch q.serial (.slice Aq q.cavs.length cq) q.tag).toArray := ⟨_, rfl⟩
          have r_x4_28 : Whole V28 (V20.heap.size) 32 (alc b.free b.seed b.fresh (.slice Amb b.macs.length cmb) (.slice Abb b.boxes.length cbb)) := by rw [hV28]; exact Whole.setRow_far r_x4_27 (by omega) _
          have r_x5_28 : Whole V28 (V1.heap.size) 51 (psl q.epoch q.serial (.slice Aq q.cavs.length cq) q.tag).toArray := by rw [hV28]; exact Whole.setRow r_x5_27 _
          have hs28 : V27.heap.size ≤ V28.heap.size := by rw [hV28]; simp
          have hb28 : Below q1.heap.size q1 V28 := by rw [hV28]; exact below_setRow hb27 (by omega) _
          rw [if_pos (by kernel_rfl)]
          refine wp_store_row 51 _ _ rfl (V1.heap.size) _ rfl rfl 51 _ r_x5_27 (by rw [passSize, psl_size]) (by rw [zps_size, psl_size]) (psl_one _ _ _ _ _ _) ?_
          rw [← hV28]
          clear hV28
          refine hKK.out _ _ (HCC.out _ hb28) (fun hHeld => ?_)
          clear hKK KK
          (try simp only [sq])
          apply wpT (i := 12) rfl (by kernel_rfl)
          case hQ => exact fun _ _ _ h => h
          case hS => exact hHeld
          case hy => (refine Or.inl ⟨by rfl, ?_⟩; intro w hSw; (try go_split_ands); go_simp; (try with_reducible rfl))
          (try simp only [sq])
          refine wpAnyH_done (by kernel_rfl) ?_ _
          clear HCC hHeld
          go_wp2_with fail
          go_meet
          exact ⟨V20.heap.size, V1.heap.size, Amb, Abb, Aq, cmb, cbb, cq, rfl, rfl, rfl, r_x4_28, r_x5_28, hb28⟩
    · (try simp only [sq])
      go_simp
      rw [zar_lit]
      obtain ⟨V29, hV29⟩ : ∃ x, x = (q1.alloc (.cells zar 32)).drew := ⟨_, rfl⟩
      have hv29 : Below q1.drew.heap.size q1.drew V29 := by rw [hV29]; exact Below.alloc (Below.refl _ _) (Nat.le_refl _) _
      have hs29 : q1.heap.size < V29.heap.size := by rw [hV29]; simp
      have hb29 : Below q1.heap.size q1 V29 := Below.trans hb0 (Below.mono hv29 (Below.size hb0))
      have r_x4_29 : Whole V29 (q1.heap.size) 32 zar := by rw [hV29]; exact Whole.here _ _ _
      have hpx4 : q1.heap.size ≤ q1.heap.size := Nat.le_refl _
      rw [← hV29]
      clear hV29
      refine hKK.out _ _ (HCC.out _ hb29) (fun hHeld => ?_)
      clear hKK KK
      (try simp only [sq])
      refine wpAnyH_ready (rs := [2, 9]) (by kernel_rfl) (by simp) ?_
      refine AllReadyH.cons rfl (fun KK hKK => ?_) (AllReadyH.cons rfl (fun KK hKK => ?_) AllReadyH.nil)
      · (try simp only [sq])
        go_simp
        go_at_call 51
        refine (crides 3 V29 (fun _ => True)).mono ?_
        rintro e V30 ⟨hx30, hv30⟩
        have hs30 : V29.heap.size ≤ V30.heap.size := hv30.size
        have hb30 := Below.trans hb29 (Below.mono hv30 (Below.size hb29))
        have r_x4_30 := Whole.below r_x4_29 hv30 (Whole.lt r_x4_29)
        obtain ⟨vc30, rfl, hcv30⟩ := hx30
        obtain ⟨E1, e1, E2, e2, rfl, hce1, hce2, hcew⟩ := id hcv30
        clear hce1 hce2 hcew
        have cv_30 : CavV V30 (fun _ => True) (.agg (cvrow (rcv 3).third (rcv 3).first (rcv 3).party (.slice E1 (rcv 3).ticket.length e1) (.slice E2 (rcv 3).box.length e2))) (rcv 3) := hcv30
        refine hKK.out _ _ (HCC.out _ hb30) (fun hHeld => ?_)
        clear hKK KK
        (try simp only [sq])
        refine wpAnyH_ready (rs := [3, 9]) (by kernel_rfl) (by simp) ?_
        refine AllReadyH.cons rfl (fun KK hKK => ?_) (AllReadyH.cons rfl (fun KK hKK => ?_) AllReadyH.nil)
        · (try simp only [sq])
          go_simp
          go_at_call 20
          refine (catt (AlV.below HVA.out (Below.trans HLOC.out (Below.mono hb30 (Below.size HLOC.out))) (Nat.le_refl _)) (by have := HN2.out; omega) (P := p) ⟨Ac, cc, rfl, Cavs.below HVC.out (Below.trans HLOC.out (Below.mono hb30 (Below.size HLOC.out))) (Nat.le_refl _), hlp⟩ hl0 cv_30 (Tables.below HTW.out (Nat.le_refl _) hb30)).mono ?_
          rintro e V31 ⟨hx31, hv31⟩
          have hs31 : V30.heap.size ≤ V31.heap.size := hv31.size
          have hb31 := Below.trans hb30 (Below.mono hv31 (Below.size hb30))
          have r_x4_31 := Whole.below r_x4_30 hv31 (Whole.lt r_x4_30)
          have cv_31 := CavV.below cv_30 hv31 (Nat.le_refl _)
          rw [← HR2.out] at hx31
          obtain ⟨vv31, vu31, rfl, hav31, hpv31⟩ := hx31
          obtain ⟨Amb, cmb, Abb, cbb, rfl, hM, hBx, hA⟩ := hav31
          obtain ⟨Aq, cq, rfl, hqc, hqt⟩ := hpv31
          clear hM hBx hA hqc
          refine hKK.out _ _ (HCC.out _ hb31) (fun hHeld => ?_)
          clear hKK KK
          (try simp only [sq])
          apply wpT (i := 4) rfl (by kernel_rfl)
          case hQ => exact fun _ _ _ h => h
          case hS => exact hHeld
          case hy => (refine Or.inl ⟨by rfl, ?_⟩; intro w hSw; (try go_split_ands); go_simp; (try with_reducible rfl))
          (try simp only [sq])
          apply wpT (i := 5) rfl (by kernel_rfl)
          case hQ => exact fun _ _ _ h => h
          case hS => exact hHeld
          case hy => (refine Or.inl ⟨by rfl, ?_⟩; intro w hSw; (try go_split_ands); go_simp; (try with_reducible rfl))
          (try simp only [sq])
          apply wpT (i := 6) rfl (by kernel_rfl)
          case hQ => exact fun _ _ _ h => h
          case hS => exact hHeld
          case hy => (refine Or.inl ⟨by rfl, ?_⟩; intro w hSw; (try go_split_ands); go_simp; (try with_reducible rfl))
          (try simp only [sq])
          apply wpT (i := 7) rfl (by kernel_rfl)
          case hQ => exact fun _ _ _ h => h
          case hS => exact hHeld
          case hy => (refine Or.inl ⟨by rfl, ?_⟩; intro w hSw; (try go_split_ands); go_simp; (try with_reducible rfl))
          (try simp only [sq])
          refine wpAnyH_ready (rs := [9]) (by kernel_rfl) (by simp) ?_
          refine AllReadyH.cons rfl (fun KK hKK => ?_) AllReadyH.nil
          (try simp only [sq])
          go_simp
          rw [zps_lit]
          obtain ⟨V32, hV32⟩ : ∃ x, x = (V31).alloc (.cells zps 51) := ⟨_, rfl⟩
          have hv32 : Below V31.heap.size V31 V32 := by rw [hV32]; exact Below.alloc (Below.refl _ _) (Nat.le_refl _) _
          have hs32 : V31.heap.size < V32.heap.size := by rw [hV32]; simp
          have hb32 : Below q1.heap.size q1 V32 := Below.trans hb31 (Below.mono hv32 (Below.size hb31))
          have r_x4_32 := Whole.below r_x4_31 hv32 (Whole.lt r_x4_31)
          have r_x5_32 : Whole V32 (V31.heap.size) 51 zps := by rw [hV32]; exact Whole.here _ _ _
          have hpx5 : q1.heap.size ≤ V31.heap.size := Below.size hb31
          rw [← hV32]
          clear hV32
          refine hKK.out _ _ (HCC.out _ hb32) (fun hHeld => ?_)
          clear hKK KK
          (try simp only [sq])
          refine wpAnyH_ready (rs := [10]) (by kernel_rfl) (by simp) ?_
          refine AllReadyH.cons rfl (fun KK hKK => ?_) AllReadyH.nil
          obtain ⟨V33, hV33⟩ : ∃ x, x = (V32).setRow (q1.heap.size) (alc b.free b.seed b.fresh (.slice Amb b.macs.length cmb) (.slice Abb b.boxes.length cbb)) := ⟨_, rfl⟩
          have r_x5_33 : Whole V33 (V31.heap.size) 51 zps := by rw [hV33]; exact Whole.setRow_far r_x5_32 (by omega) _
          have r_x4_33 : Whole V33 (q1.heap.size) 32 (alc b.free b.seed b.fresh (.slice Amb b.macs.length cmb) (.slice Abb b.boxes.length cbb)) := by rw [hV33]; exact Whole.setRow r_x4_32 _
          have hs33 : V32.heap.size ≤ V33.heap.size := by rw [hV33]; simp
          have hb33 : Below q1.heap.size q1 V33 := by rw [hV33]; exact below_setRow hb32 (by omega) _
          rw [if_pos (by kernel_rfl)]
          refine wp_store_row 32 _ _ rfl (q1.heap.size) _ rfl rfl 32 _ r_x4_32 (by rw [algSize, alc_size]) (by rw [zar_size, alc_size]) (alc_one _ _ _ _ _ _ _ _ _) ?_
          rw [← hV33]
          clear hV33
          refine hKK.out _ _ (HCC.out _ hb33) (fun hHeld => ?_)
          clear hKK KK
          (try simp only [sq])
          refine wpAnyH_ready (rs := [11]) (by kernel_rfl) (by simp) ?_
          refine AllReadyH.cons rfl (fun KK hKK => ?_) AllReadyH.nil
          obtain ⟨V34, hV34⟩ : ∃ x, x = (V33).setRow (V31.heap.size) (psl q.epoch q.serial (.slice Aq q.cavs.length cq) q.tag).toArray := ⟨_, rfl⟩
          have r_x4_34 : Whole V34 (q1.heap.size) 32 (alc b.free b.seed b.fresh (.slice Amb b.macs.length cmb) (.slice Abb b.boxes.length cbb)) := by rw [hV34]; exact Whole.setRow_far r_x4_33 (by omega) _
          have r_x5_34 : Whole V34 (V31.heap.size) 51 (psl q.epoch q.serial (.slice Aq q.cavs.length cq) q.tag).toArray := by rw [hV34]; exact Whole.setRow r_x5_33 _
          have hs34 : V33.heap.size ≤ V34.heap.size := by rw [hV34]; simp
          have hb34 : Below q1.heap.size q1 V34 := by rw [hV34]; exact below_setRow hb33 (by omega) _
          rw [if_pos (by kernel_rfl)]
          refine wp_store_row 51 _ _ rfl (V31.heap.size) _ rfl rfl 51 _ r_x5_33 (by rw [passSize, psl_size]) (by rw [zps_size, psl_size]) (psl_one _ _ _ _ _ _) ?_
          rw [← hV34]
          clear hV34
          refine hKK.out _ _ (HCC.out _ hb34) (fun hHeld => ?_)
          clear hKK KK
          (try simp only [sq])
          apply wpT (i := 12) rfl (by kernel_rfl)
          case hQ => exact fun _ _ _ h => h
          case hS => exact hHeld
          case hy => (refine Or.inl ⟨by rfl, ?_⟩; intro w hSw; (try go_split_ands); go_simp; (try with_reducible rfl))
          (try simp only [sq])
          refine wpAnyH_done (by kernel_rfl) ?_ _
          clear HCC hHeld
          go_wp2_with fail
          go_meet
          exact ⟨q1.heap.size, V31.heap.size, Amb, Abb, Aq, cmb, cbb, cq, rfl, rfl, rfl, r_x4_34, r_x5_34, hb34⟩
        · (try simp only [sq])
          go_simp
          rw [zps_lit]
          obtain ⟨V35, hV35⟩ : ∃ x, x = (V30).alloc (.cells zps 51) := ⟨_, rfl⟩
          have hv35 : Below V30.heap.size V30 V35 := by rw [hV35]; exact Below.alloc (Below.refl _ _) (Nat.le_refl _) _
          have hs35 : V30.heap.size < V35.heap.size := by rw [hV35]; simp
          have hb35 : Below q1.heap.size q1 V35 := Below.trans hb30 (Below.mono hv35 (Below.size hb30))
          have r_x4_35 := Whole.below r_x4_30 hv35 (Whole.lt r_x4_30)
          have cv_35 := CavV.below cv_30 hv35 (Nat.le_refl _)
          have r_x5_35 : Whole V35 (V30.heap.size) 51 zps := by rw [hV35]; exact Whole.here _ _ _
          have hpx5 : q1.heap.size ≤ V30.heap.size := Below.size hb30
          rw [← hV35]
          clear hV35
          refine hKK.out _ _ (HCC.out _ hb35) (fun hHeld => ?_)
          clear hKK KK
          (try simp only [sq])
          refine wpAnyH_ready (rs := [3]) (by kernel_rfl) (by simp) ?_
          refine AllReadyH.cons rfl (fun KK hKK => ?_) AllReadyH.nil
          (try simp only [sq])
          go_simp
          go_at_call 20
          refine (catt (AlV.below HVA.out (Below.trans HLOC.out (Below.mono hb35 (Below.size HLOC.out))) (Nat.le_refl _)) (by have := HN2.out; omega) (P := p) ⟨Ac, cc, rfl, Cavs.below HVC.out (Below.trans HLOC.out (Below.mono hb35 (Below.size HLOC.out))) (Nat.le_refl _), hlp⟩ hl0 cv_35 (Tables.below HTW.out (Nat.le_refl _) hb35)).mono ?_
          rintro e V36 ⟨hx36, hv36⟩
          have hs36 : V35.heap.size ≤ V36.heap.size := hv36.size
          have hb36 := Below.trans hb35 (Below.mono hv36 (Below.size hb35))
          have r_x4_36 := Whole.below r_x4_35 hv36 (Whole.lt r_x4_35)
          have cv_36 := CavV.below cv_35 hv36 (Nat.le_refl _)
          have r_x5_36 := Whole.below r_x5_35 hv36 (Whole.lt r_x5_35)
          rw [← HR2.out] at hx36
          obtain ⟨vv36, vu36, rfl, hav36, hpv36⟩ := hx36
          obtain ⟨Amb, cmb, Abb, cbb, rfl, hM, hBx, hA⟩ := hav36
          obtain ⟨Aq, cq, rfl, hqc, hqt⟩ := hpv36
          clear hM hBx hA hqc
          refine hKK.out _ _ (HCC.out _ hb36) (fun hHeld => ?_)
          clear hKK KK
          (try simp only [sq])
          apply wpT (i := 4) rfl (by kernel_rfl)
          case hQ => exact fun _ _ _ h => h
          case hS => exact hHeld
          case hy => (refine Or.inl ⟨by rfl, ?_⟩; intro w hSw; (try go_split_ands); go_simp; (try with_reducible rfl))
          (try simp only [sq])
          apply wpT (i := 5) rfl (by kernel_rfl)
          case hQ => exact fun _ _ _ h => h
          case hS => exact hHeld
          case hy => (refine Or.inl ⟨by rfl, ?_⟩; intro w hSw; (try go_split_ands); go_simp; (try with_reducible rfl))
          (try simp only [sq])
          apply wpT (i := 6) rfl (by kernel_rfl)
          case hQ => exact fun _ _ _ h => h
          case hS => exact hHeld
          case hy => (refine Or.inl ⟨by rfl, ?_⟩; intro w hSw; (try go_split_ands); go_simp; (try with_reducible rfl))
          (try simp only [sq])
          apply wpT (i := 7) rfl (by kernel_rfl)
          case hQ => exact fun _ _ _ h => h
          case hS => exact hHeld
          case hy => (refine Or.inl ⟨by rfl, ?_⟩; intro w hSw; (try go_split_ands); go_simp; (try with_reducible rfl))
          (try simp only [sq])
          refine wpAnyH_ready (rs := [10]) (by kernel_rfl) (by simp) ?_
          refine AllReadyH.cons rfl (fun KK hKK => ?_) AllReadyH.nil
          obtain ⟨V37, hV37⟩ : ∃ x, x = (V36).setRow (q1.heap.size) (alc b.free b.seed b.fresh (.slice Amb b.macs.length cmb) (.slice Abb b.boxes.length cbb)) := ⟨_, rfl⟩
          have r_x5_37 : Whole V37 (V30.heap.size) 51 zps := by rw [hV37]; exact Whole.setRow_far r_x5_36 (by omega) _
          have r_x4_37 : Whole V37 (q1.heap.size) 32 (alc b.free b.seed b.fresh (.slice Amb b.macs.length cmb) (.slice Abb b.boxes.length cbb)) := by rw [hV37]; exact Whole.setRow r_x4_36 _
          have hs37 : V36.heap.size ≤ V37.heap.size := by rw [hV37]; simp
          have hb37 : Below q1.heap.size q1 V37 := by rw [hV37]; exact below_setRow hb36 (by omega) _
          rw [if_pos (by kernel_rfl)]
          refine wp_store_row 32 _ _ rfl (q1.heap.size) _ rfl rfl 32 _ r_x4_36 (by rw [algSize, alc_size]) (by rw [zar_size, alc_size]) (alc_one _ _ _ _ _ _ _ _ _) ?_
          rw [← hV37]
          clear hV37
          refine hKK.out _ _ (HCC.out _ hb37) (fun hHeld => ?_)
          clear hKK KK
          (try simp only [sq])
          refine wpAnyH_ready (rs := [11]) (by kernel_rfl) (by simp) ?_
          refine AllReadyH.cons rfl (fun KK hKK => ?_) AllReadyH.nil
          obtain ⟨V38, hV38⟩ : ∃ x, x = (V37).setRow (V30.heap.size) (psl q.epoch q.serial (.slice Aq q.cavs.length cq) q.tag).toArray := ⟨_, rfl⟩
          have r_x4_38 : Whole V38 (q1.heap.size) 32 (alc b.free b.seed b.fresh (.slice Amb b.macs.length cmb) (.slice Abb b.boxes.length cbb)) := by rw [hV38]; exact Whole.setRow_far r_x4_37 (by omega) _
          have r_x5_38 : Whole V38 (V30.heap.size) 51 (psl q.epoch q.serial (.slice Aq q.cavs.length cq) q.tag).toArray := by rw [hV38]; exact Whole.setRow r_x5_37 _
          have hs38 : V37.heap.size ≤ V38.heap.size := by rw [hV38]; simp
          have hb38 : Below q1.heap.size q1 V38 := by rw [hV38]; exact below_setRow hb37 (by omega) _
          rw [if_pos (by kernel_rfl)]
          refine wp_store_row 51 _ _ rfl (V30.heap.size) _ rfl rfl 51 _ r_x5_37 (by rw [passSize, psl_size]) (by rw [zps_size, psl_size]) (psl_one _ _ _ _ _ _) ?_
          rw [← hV38]
          clear hV38
          refine hKK.out _ _ (HCC.out _ hb38) (fun hHeld => ?_)
          clear hKK KK
          (try simp only [sq])
          apply wpT (i := 12) rfl (by kernel_rfl)
          case hQ => exact fun _ _ _ h => h
          case hS => exact hHeld
          case hy => (refine Or.inl ⟨by rfl, ?_⟩; intro w hSw; (try go_split_ands); go_simp; (try with_reducible rfl))
          (try simp only [sq])
          refine wpAnyH_done (by kernel_rfl) ?_ _
          clear HCC hHeld
          go_wp2_with fail
          go_meet
          exact ⟨q1.heap.size, V30.heap.size, Amb, Abb, Aq, cmb, cbb, cq, rfl, rfl, rfl, r_x4_38, r_x5_38, hb38⟩
      · (try simp only [sq])
        go_simp
        rw [zps_lit]
        obtain ⟨V39, hV39⟩ : ∃ x, x = (V29).alloc (.cells zps 51) := ⟨_, rfl⟩
        have hv39 : Below V29.heap.size V29 V39 := by rw [hV39]; exact Below.alloc (Below.refl _ _) (Nat.le_refl _) _
        have hs39 : V29.heap.size < V39.heap.size := by rw [hV39]; simp
        have hb39 : Below q1.heap.size q1 V39 := Below.trans hb29 (Below.mono hv39 (Below.size hb29))
        have r_x4_39 := Whole.below r_x4_29 hv39 (Whole.lt r_x4_29)
        have r_x5_39 : Whole V39 (V29.heap.size) 51 zps := by rw [hV39]; exact Whole.here _ _ _
        have hpx5 : q1.heap.size ≤ V29.heap.size := Below.size hb29
        rw [← hV39]
        clear hV39
        refine hKK.out _ _ (HCC.out _ hb39) (fun hHeld => ?_)
        clear hKK KK
        (try simp only [sq])
        refine wpAnyH_ready (rs := [2]) (by kernel_rfl) (by simp) ?_
        refine AllReadyH.cons rfl (fun KK hKK => ?_) AllReadyH.nil
        (try simp only [sq])
        go_simp
        go_at_call 51
        refine (crides 3 V39 (fun _ => True)).mono ?_
        rintro e V40 ⟨hx40, hv40⟩
        have hs40 : V39.heap.size ≤ V40.heap.size := hv40.size
        have hb40 := Below.trans hb39 (Below.mono hv40 (Below.size hb39))
        have r_x4_40 := Whole.below r_x4_39 hv40 (Whole.lt r_x4_39)
        have r_x5_40 := Whole.below r_x5_39 hv40 (Whole.lt r_x5_39)
        obtain ⟨vc40, rfl, hcv40⟩ := hx40
        obtain ⟨E1, e1, E2, e2, rfl, hce1, hce2, hcew⟩ := id hcv40
        clear hce1 hce2 hcew
        have cv_40 : CavV V40 (fun _ => True) (.agg (cvrow (rcv 3).third (rcv 3).first (rcv 3).party (.slice E1 (rcv 3).ticket.length e1) (.slice E2 (rcv 3).box.length e2))) (rcv 3) := hcv40
        refine hKK.out _ _ (HCC.out _ hb40) (fun hHeld => ?_)
        clear hKK KK
        (try simp only [sq])
        refine wpAnyH_ready (rs := [3]) (by kernel_rfl) (by simp) ?_
        refine AllReadyH.cons rfl (fun KK hKK => ?_) AllReadyH.nil
        (try simp only [sq])
        go_simp
        go_at_call 20
        refine (catt (AlV.below HVA.out (Below.trans HLOC.out (Below.mono hb40 (Below.size HLOC.out))) (Nat.le_refl _)) (by have := HN2.out; omega) (P := p) ⟨Ac, cc, rfl, Cavs.below HVC.out (Below.trans HLOC.out (Below.mono hb40 (Below.size HLOC.out))) (Nat.le_refl _), hlp⟩ hl0 cv_40 (Tables.below HTW.out (Nat.le_refl _) hb40)).mono ?_
        rintro e V41 ⟨hx41, hv41⟩
        have hs41 : V40.heap.size ≤ V41.heap.size := hv41.size
        have hb41 := Below.trans hb40 (Below.mono hv41 (Below.size hb40))
        have r_x4_41 := Whole.below r_x4_40 hv41 (Whole.lt r_x4_40)
        have r_x5_41 := Whole.below r_x5_40 hv41 (Whole.lt r_x5_40)
        have cv_41 := CavV.below cv_40 hv41 (Nat.le_refl _)
        rw [← HR2.out] at hx41
        obtain ⟨vv41, vu41, rfl, hav41, hpv41⟩ := hx41
        obtain ⟨Amb, cmb, Abb, cbb, rfl, hM, hBx, hA⟩ := hav41
        obtain ⟨Aq, cq, rfl, hqc, hqt⟩ := hpv41
        clear hM hBx hA hqc
        refine hKK.out _ _ (HCC.out _ hb41) (fun hHeld => ?_)
        clear hKK KK
        (try simp only [sq])
        apply wpT (i := 4) rfl (by kernel_rfl)
        case hQ => exact fun _ _ _ h => h
        case hS => exact hHeld
        case hy => (refine Or.inl ⟨by rfl, ?_⟩; intro w hSw; (try go_split_ands); go_simp; (try with_reducible rfl))
        (try simp only [sq])
        apply wpT (i := 5) rfl (by kernel_rfl)
        case hQ => exact fun _ _ _ h => h
        case hS => exact hHeld
        case hy => (refine Or.inl ⟨by rfl, ?_⟩; intro w hSw; (try go_split_ands); go_simp; (try with_reducible rfl))
        (try simp only [sq])
        apply wpT (i := 6) rfl (by kernel_rfl)
        case hQ => exact fun _ _ _ h => h
        case hS => exact hHeld
        case hy => (refine Or.inl ⟨by rfl, ?_⟩; intro w hSw; (try go_split_ands); go_simp; (try with_reducible rfl))
        (try simp only [sq])
        apply wpT (i := 7) rfl (by kernel_rfl)
        case hQ => exact fun _ _ _ h => h
        case hS => exact hHeld
        case hy => (refine Or.inl ⟨by rfl, ?_⟩; intro w hSw; (try go_split_ands); go_simp; (try with_reducible rfl))
        (try simp only [sq])
        refine wpAnyH_ready (rs := [10]) (by kernel_rfl) (by simp) ?_
        refine AllReadyH.cons rfl (fun KK hKK => ?_) AllReadyH.nil
        obtain ⟨V42, hV42⟩ : ∃ x, x = (V41).setRow (q1.heap.size) (alc b.free b.seed b.fresh (.slice Amb b.macs.length cmb) (.slice Abb b.boxes.length cbb)) := ⟨_, rfl⟩
        have r_x5_42 : Whole V42 (V29.heap.size) 51 zps := by rw [hV42]; exact Whole.setRow_far r_x5_41 (by omega) _
        have r_x4_42 : Whole V42 (q1.heap.size) 32 (alc b.free b.seed b.fresh (.slice Amb b.macs.length cmb) (.slice Abb b.boxes.length cbb)) := by rw [hV42]; exact Whole.setRow r_x4_41 _
        have hs42 : V41.heap.size ≤ V42.heap.size := by rw [hV42]; simp
        have hb42 : Below q1.heap.size q1 V42 := by rw [hV42]; exact below_setRow hb41 (by omega) _
        rw [if_pos (by kernel_rfl)]
        refine wp_store_row 32 _ _ rfl (q1.heap.size) _ rfl rfl 32 _ r_x4_41 (by rw [algSize, alc_size]) (by rw [zar_size, alc_size]) (alc_one _ _ _ _ _ _ _ _ _) ?_
        rw [← hV42]
        clear hV42
        refine hKK.out _ _ (HCC.out _ hb42) (fun hHeld => ?_)
        clear hKK KK
        (try simp only [sq])
        refine wpAnyH_ready (rs := [11]) (by kernel_rfl) (by simp) ?_
        refine AllReadyH.cons rfl (fun KK hKK => ?_) AllReadyH.nil
        obtain ⟨V43, hV43⟩ : ∃ x, x = (V42).setRow (V29.heap.size) (psl q.epoch q.serial (.slice Aq q.cavs.length cq) q.tag).toArray := ⟨_, rfl⟩
        have r_x4_43 : Whole V43 (q1.heap.size) 32 (alc b.free b.seed b.fresh (.slice Amb b.macs.length cmb) (.slice Abb b.boxes.length cbb)) := by rw [hV43]; exact Whole.setRow_far r_x4_42 (by omega) _
        have r_x5_43 : Whole V43 (V29.heap.size) 51 (psl q.epoch q.serial (.slice Aq q.cavs.length cq) q.tag).toArray := by rw [hV43]; exact Whole.setRow r_x5_42 _
        have hs43 : V42.heap.size ≤ V43.heap.size := by rw [hV43]; simp
        have hb43 : Below q1.heap.size q1 V43 := by rw [hV43]; exact below_setRow hb42 (by omega) _
        rw [if_pos (by kernel_rfl)]
        refine wp_store_row 51 _ _ rfl (V29.heap.size) _ rfl rfl 51 _ r_x5_42 (by rw [passSize, psl_size]) (by rw [zps_size, psl_size]) (psl_one _ _ _ _ _ _) ?_
        rw [← hV43]
        clear hV43
        refine hKK.out _ _ (HCC.out _ hb43) (fun hHeld => ?_)
        clear hKK KK
        (try simp only [sq])
        apply wpT (i := 12) rfl (by kernel_rfl)
        case hQ => exact fun _ _ _ h => h
        case hS => exact hHeld
        case hy => (refine Or.inl ⟨by rfl, ?_⟩; intro w hSw; (try go_split_ands); go_simp; (try with_reducible rfl))
        (try simp only [sq])
        refine wpAnyH_done (by kernel_rfl) ?_ _
        clear HCC hHeld
        go_wp2_with fail
        go_meet
        exact ⟨q1.heap.size, V29.heap.size, Amb, Abb, Aq, cmb, cbb, cq, rfl, rfl, rfl, r_x4_43, r_x5_43, hb43⟩
    · (try simp only [sq])
      go_simp
      rw [zps_lit]
      obtain ⟨V44, hV44⟩ : ∃ x, x = (q1.alloc (.cells zps 51)).drew := ⟨_, rfl⟩
      have hv44 : Below q1.drew.heap.size q1.drew V44 := by rw [hV44]; exact Below.alloc (Below.refl _ _) (Nat.le_refl _) _
      have hs44 : q1.heap.size < V44.heap.size := by rw [hV44]; simp
      have hb44 : Below q1.heap.size q1 V44 := Below.trans hb0 (Below.mono hv44 (Below.size hb0))
      have r_x5_44 : Whole V44 (q1.heap.size) 51 zps := by rw [hV44]; exact Whole.here _ _ _
      have hpx5 : q1.heap.size ≤ q1.heap.size := Nat.le_refl _
      rw [← hV44]
      clear hV44
      refine hKK.out _ _ (HCC.out _ hb44) (fun hHeld => ?_)
      clear hKK KK
      (try simp only [sq])
      refine wpAnyH_ready (rs := [2, 8]) (by kernel_rfl) (by simp) ?_
      refine AllReadyH.cons rfl (fun KK hKK => ?_) (AllReadyH.cons rfl (fun KK hKK => ?_) AllReadyH.nil)
      · (try simp only [sq])
        go_simp
        go_at_call 51
        refine (crides 3 V44 (fun _ => True)).mono ?_
        rintro e V45 ⟨hx45, hv45⟩
        have hs45 : V44.heap.size ≤ V45.heap.size := hv45.size
        have hb45 := Below.trans hb44 (Below.mono hv45 (Below.size hb44))
        have r_x5_45 := Whole.below r_x5_44 hv45 (Whole.lt r_x5_44)
        obtain ⟨vc45, rfl, hcv45⟩ := hx45
        obtain ⟨E1, e1, E2, e2, rfl, hce1, hce2, hcew⟩ := id hcv45
        clear hce1 hce2 hcew
        have cv_45 : CavV V45 (fun _ => True) (.agg (cvrow (rcv 3).third (rcv 3).first (rcv 3).party (.slice E1 (rcv 3).ticket.length e1) (.slice E2 (rcv 3).box.length e2))) (rcv 3) := hcv45
        refine hKK.out _ _ (HCC.out _ hb45) (fun hHeld => ?_)
        clear hKK KK
        (try simp only [sq])
        refine wpAnyH_ready (rs := [3, 8]) (by kernel_rfl) (by simp) ?_
        refine AllReadyH.cons rfl (fun KK hKK => ?_) (AllReadyH.cons rfl (fun KK hKK => ?_) AllReadyH.nil)
        · (try simp only [sq])
          go_simp
          go_at_call 20
          refine (catt (AlV.below HVA.out (Below.trans HLOC.out (Below.mono hb45 (Below.size HLOC.out))) (Nat.le_refl _)) (by have := HN2.out; omega) (P := p) ⟨Ac, cc, rfl, Cavs.below HVC.out (Below.trans HLOC.out (Below.mono hb45 (Below.size HLOC.out))) (Nat.le_refl _), hlp⟩ hl0 cv_45 (Tables.below HTW.out (Nat.le_refl _) hb45)).mono ?_
          rintro e V46 ⟨hx46, hv46⟩
          have hs46 : V45.heap.size ≤ V46.heap.size := hv46.size
          have hb46 := Below.trans hb45 (Below.mono hv46 (Below.size hb45))
          have r_x5_46 := Whole.below r_x5_45 hv46 (Whole.lt r_x5_45)
          have cv_46 := CavV.below cv_45 hv46 (Nat.le_refl _)
          rw [← HR2.out] at hx46
          obtain ⟨vv46, vu46, rfl, hav46, hpv46⟩ := hx46
          obtain ⟨Amb, cmb, Abb, cbb, rfl, hM, hBx, hA⟩ := hav46
          obtain ⟨Aq, cq, rfl, hqc, hqt⟩ := hpv46
          clear hM hBx hA hqc
          refine hKK.out _ _ (HCC.out _ hb46) (fun hHeld => ?_)
          clear hKK KK
          (try simp only [sq])
          apply wpT (i := 4) rfl (by kernel_rfl)
          case hQ => exact fun _ _ _ h => h
          case hS => exact hHeld
          case hy => (refine Or.inl ⟨by rfl, ?_⟩; intro w hSw; (try go_split_ands); go_simp; (try with_reducible rfl))
          (try simp only [sq])
          apply wpT (i := 5) rfl (by kernel_rfl)
          case hQ => exact fun _ _ _ h => h
          case hS => exact hHeld
          case hy => (refine Or.inl ⟨by rfl, ?_⟩; intro w hSw; (try go_split_ands); go_simp; (try with_reducible rfl))
          (try simp only [sq])
          apply wpT (i := 6) rfl (by kernel_rfl)
          case hQ => exact fun _ _ _ h => h
          case hS => exact hHeld
          case hy => (refine Or.inl ⟨by rfl, ?_⟩; intro w hSw; (try go_split_ands); go_simp; (try with_reducible rfl))
          (try simp only [sq])
          apply wpT (i := 7) rfl (by kernel_rfl)
          case hQ => exact fun _ _ _ h => h
          case hS => exact hHeld
          case hy => (refine Or.inl ⟨by rfl, ?_⟩; intro w hSw; (try go_split_ands); go_simp; (try with_reducible rfl))
          (try simp only [sq])
          refine wpAnyH_ready (rs := [8]) (by kernel_rfl) (by simp) ?_
          refine AllReadyH.cons rfl (fun KK hKK => ?_) AllReadyH.nil
          (try simp only [sq])
          go_simp
          rw [zar_lit]
          obtain ⟨V47, hV47⟩ : ∃ x, x = (V46).alloc (.cells zar 32) := ⟨_, rfl⟩
          have hv47 : Below V46.heap.size V46 V47 := by rw [hV47]; exact Below.alloc (Below.refl _ _) (Nat.le_refl _) _
          have hs47 : V46.heap.size < V47.heap.size := by rw [hV47]; simp
          have hb47 : Below q1.heap.size q1 V47 := Below.trans hb46 (Below.mono hv47 (Below.size hb46))
          have r_x5_47 := Whole.below r_x5_46 hv47 (Whole.lt r_x5_46)
          have r_x4_47 : Whole V47 (V46.heap.size) 32 zar := by rw [hV47]; exact Whole.here _ _ _
          have hpx4 : q1.heap.size ≤ V46.heap.size := Below.size hb46
          rw [← hV47]
          clear hV47
          refine hKK.out _ _ (HCC.out _ hb47) (fun hHeld => ?_)
          clear hKK KK
          (try simp only [sq])
          refine wpAnyH_ready (rs := [10]) (by kernel_rfl) (by simp) ?_
          refine AllReadyH.cons rfl (fun KK hKK => ?_) AllReadyH.nil
          obtain ⟨V48, hV48⟩ : ∃ x, x = (V47).setRow (V46.heap.size) (alc b.free b.seed b.fresh (.slice Amb b.macs.length cmb) (.slice Abb b.boxes.length cbb)) := ⟨_, rfl⟩
          have r_x5_48 : Whole V48 (q1.heap.size) 51 zps := by rw [hV48]; exact Whole.setRow_far r_x5_47 (by omega) _
          have r_x4_48 : Whole V48 (V46.heap.size) 32 (alc b.free b.seed b.fresh (.slice Amb b.macs.length cmb) (.slice Abb b.boxes.length cbb)) := by rw [hV48]; exact Whole.setRow r_x4_47 _
          have hs48 : V47.heap.size ≤ V48.heap.size := by rw [hV48]; simp
          have hb48 : Below q1.heap.size q1 V48 := by rw [hV48]; exact below_setRow hb47 (by omega) _
          rw [if_pos (by kernel_rfl)]
          refine wp_store_row 32 _ _ rfl (V46.heap.size) _ rfl rfl 32 _ r_x4_47 (by rw [algSize, alc_size]) (by rw [zar_size, alc_size]) (alc_one _ _ _ _ _ _ _ _ _) ?_
          rw [← hV48]
          clear hV48
          refine hKK.out _ _ (HCC.out _ hb48) (fun hHeld => ?_)
          clear hKK KK
          (try simp only [sq])
          refine wpAnyH_ready (rs := [11]) (by kernel_rfl) (by simp) ?_
          refine AllReadyH.cons rfl (fun KK hKK => ?_) AllReadyH.nil
          obtain ⟨V49, hV49⟩ : ∃ x, x = (V48).setRow (q1.heap.size) (psl q.epoch q.serial (.slice Aq q.cavs.length cq) q.tag).toArray := ⟨_, rfl⟩
          have r_x4_49 : Whole V49 (V46.heap.size) 32 (alc b.free b.seed b.fresh (.slice Amb b.macs.length cmb) (.slice Abb b.boxes.length cbb)) := by rw [hV49]; exact Whole.setRow_far r_x4_48 (by omega) _
          have r_x5_49 : Whole V49 (q1.heap.size) 51 (psl q.epoch q.serial (.slice Aq q.cavs.length cq) q.tag).toArray := by rw [hV49]; exact Whole.setRow r_x5_48 _
          have hs49 : V48.heap.size ≤ V49.heap.size := by rw [hV49]; simp
          have hb49 : Below q1.heap.size q1 V49 := by rw [hV49]; exact below_setRow hb48 (by omega) _
          rw [if_pos (by kernel_rfl)]
          refine wp_store_row 51 _ _ rfl (q1.heap.size) _ rfl rfl 51 _ r_x5_48 (by rw [passSize, psl_size]) (by rw [zps_size, psl_size]) (psl_one _ _ _ _ _ _) ?_
          rw [← hV49]
          clear hV49
          refine hKK.out _ _ (HCC.out _ hb49) (fun hHeld => ?_)
          clear hKK KK
          (try simp only [sq])
          apply wpT (i := 12) rfl (by kernel_rfl)
          case hQ => exact fun _ _ _ h => h
          case hS => exact hHeld
          case hy => (refine Or.inl ⟨by rfl, ?_⟩; intro w hSw; (try go_split_ands); go_simp; (try with_reducible rfl))
          (try simp only [sq])
          refine wpAnyH_done (by kernel_rfl) ?_ _
          clear HCC hHeld
          go_wp2_with fail
          go_meet
          exact ⟨V46.heap.size, q1.heap.size, Amb, Abb, Aq, cmb, cbb, cq, rfl, rfl, rfl, r_x4_49, r_x5_49, hb49⟩
        · (try simp only [sq])
          go_simp
          rw [zar_lit]
          obtain ⟨V50, hV50⟩ : ∃ x, x = (V45).alloc (.cells zar 32) := ⟨_, rfl⟩
          have hv50 : Below V45.heap.size V45 V50 := by rw [hV50]; exact Below.alloc (Below.refl _ _) (Nat.le_refl _) _
          have hs50 : V45.heap.size < V50.heap.size := by rw [hV50]; simp
          have hb50 : Below q1.heap.size q1 V50 := Below.trans hb45 (Below.mono hv50 (Below.size hb45))
          have r_x5_50 := Whole.below r_x5_45 hv50 (Whole.lt r_x5_45)
          have cv_50 := CavV.below cv_45 hv50 (Nat.le_refl _)
          have r_x4_50 : Whole V50 (V45.heap.size) 32 zar := by rw [hV50]; exact Whole.here _ _ _
          have hpx4 : q1.heap.size ≤ V45.heap.size := Below.size hb45
          rw [← hV50]
          clear hV50
          refine hKK.out _ _ (HCC.out _ hb50) (fun hHeld => ?_)
          clear hKK KK
          (try simp only [sq])
          refine wpAnyH_ready (rs := [3]) (by kernel_rfl) (by simp) ?_
          refine AllReadyH.cons rfl (fun KK hKK => ?_) AllReadyH.nil
          (try simp only [sq])
          go_simp
          go_at_call 20
          refine (catt (AlV.below HVA.out (Below.trans HLOC.out (Below.mono hb50 (Below.size HLOC.out))) (Nat.le_refl _)) (by have := HN2.out; omega) (P := p) ⟨Ac, cc, rfl, Cavs.below HVC.out (Below.trans HLOC.out (Below.mono hb50 (Below.size HLOC.out))) (Nat.le_refl _), hlp⟩ hl0 cv_50 (Tables.below HTW.out (Nat.le_refl _) hb50)).mono ?_
          rintro e V51 ⟨hx51, hv51⟩
          have hs51 : V50.heap.size ≤ V51.heap.size := hv51.size
          have hb51 := Below.trans hb50 (Below.mono hv51 (Below.size hb50))
          have r_x5_51 := Whole.below r_x5_50 hv51 (Whole.lt r_x5_50)
          have cv_51 := CavV.below cv_50 hv51 (Nat.le_refl _)
          have r_x4_51 := Whole.below r_x4_50 hv51 (Whole.lt r_x4_50)
          rw [← HR2.out] at hx51
          obtain ⟨vv51, vu51, rfl, hav51, hpv51⟩ := hx51
          obtain ⟨Amb, cmb, Abb, cbb, rfl, hM, hBx, hA⟩ := hav51
          obtain ⟨Aq, cq, rfl, hqc, hqt⟩ := hpv51
          clear hM hBx hA hqc
          refine hKK.out _ _ (HCC.out _ hb51) (fun hHeld => ?_)
          clear hKK KK
          (try simp only [sq])
          apply wpT (i := 4) rfl (by kernel_rfl)
          case hQ => exact fun _ _ _ h => h
          case hS => exact hHeld
          case hy => (refine Or.inl ⟨by rfl, ?_⟩; intro w hSw; (try go_split_ands); go_simp; (try with_reducible rfl))
          (try simp only [sq])
          apply wpT (i := 5) rfl (by kernel_rfl)
          case hQ => exact fun _ _ _ h => h
          case hS => exact hHeld
          case hy => (refine Or.inl ⟨by rfl, ?_⟩; intro w hSw; (try go_split_ands); go_simp; (try with_reducible rfl))
          (try simp only [sq])
          apply wpT (i := 6) rfl (by kernel_rfl)
          case hQ => exact fun _ _ _ h => h
          case hS => exact hHeld
          case hy => (refine Or.inl ⟨by rfl, ?_⟩; intro w hSw; (try go_split_ands); go_simp; (try with_reducible rfl))
          (try simp only [sq])
          apply wpT (i := 7) rfl (by kernel_rfl)
          case hQ => exact fun _ _ _ h => h
          case hS => exact hHeld
          case hy => (refine Or.inl ⟨by rfl, ?_⟩; intro w hSw; (try go_split_ands); go_simp; (try with_reducible rfl))
          (try simp only [sq])
          refine wpAnyH_ready (rs := [10]) (by kernel_rfl) (by simp) ?_
          refine AllReadyH.cons rfl (fun KK hKK => ?_) AllReadyH.nil
          obtain ⟨V52, hV52⟩ : ∃ x, x = (V51).setRow (V45.heap.size) (alc b.free b.seed b.fresh (.slice Amb b.macs.length cmb) (.slice Abb b.boxes.length cbb)) := ⟨_, rfl⟩
          have r_x5_52 : Whole V52 (q1.heap.size) 51 zps := by rw [hV52]; exact Whole.setRow_far r_x5_51 (by omega) _
          have r_x4_52 : Whole V52 (V45.heap.size) 32 (alc b.free b.seed b.fresh (.slice Amb b.macs.length cmb) (.slice Abb b.boxes.length cbb)) := by rw [hV52]; exact Whole.setRow r_x4_51 _
          have hs52 : V51.heap.size ≤ V52.heap.size := by rw [hV52]; simp
          have hb52 : Below q1.heap.size q1 V52 := by rw [hV52]; exact below_setRow hb51 (by omega) _
          rw [if_pos (by kernel_rfl)]
          refine wp_store_row 32 _ _ rfl (V45.heap.size) _ rfl rfl 32 _ r_x4_51 (by rw [algSize, alc_size]) (by rw [zar_size, alc_size]) (alc_one _ _ _ _ _ _ _ _ _) ?_
          rw [← hV52]
          clear hV52
          refine hKK.out _ _ (HCC.out _ hb52) (fun hHeld => ?_)
          clear hKK KK
          (try simp only [sq])
          refine wpAnyH_ready (rs := [11]) (by kernel_rfl) (by simp) ?_
          refine AllReadyH.cons rfl (fun KK hKK => ?_) AllReadyH.nil
          obtain ⟨V53, hV53⟩ : ∃ x, x = (V52).setRow (q1.heap.size) (psl q.epoch q.serial (.slice Aq q.cavs.length cq) q.tag).toArray := ⟨_, rfl⟩
          have r_x4_53 : Whole V53 (V45.heap.size) 32 (alc b.free b.seed b.fresh (.slice Amb b.macs.length cmb) (.slice Abb b.boxes.length cbb)) := by rw [hV53]; exact Whole.setRow_far r_x4_52 (by omega) _
          have r_x5_53 : Whole V53 (q1.heap.size) 51 (psl q.epoch q.serial (.slice Aq q.cavs.length cq) q.tag).toArray := by rw [hV53]; exact Whole.setRow r_x5_52 _
          have hs53 : V52.heap.size ≤ V53.heap.size := by rw [hV53]; simp
          have hb53 : Below q1.heap.size q1 V53 := by rw [hV53]; exact below_setRow hb52 (by omega) _
          rw [if_pos (by kernel_rfl)]
          refine wp_store_row 51 _ _ rfl (q1.heap.size) _ rfl rfl 51 _ r_x5_52 (by rw [passSize, psl_size]) (by rw [zps_size, psl_size]) (psl_one _ _ _ _ _ _) ?_
          rw [← hV53]
          clear hV53
          refine hKK.out _ _ (HCC.out _ hb53) (fun hHeld => ?_)
          clear hKK KK
          (try simp only [sq])
          apply wpT (i := 12) rfl (by kernel_rfl)
          case hQ => exact fun _ _ _ h => h
          case hS => exact hHeld
          case hy => (refine Or.inl ⟨by rfl, ?_⟩; intro w hSw; (try go_split_ands); go_simp; (try with_reducible rfl))
          (try simp only [sq])
          refine wpAnyH_done (by kernel_rfl) ?_ _
          clear HCC hHeld
          go_wp2_with fail
          go_meet
          exact ⟨V45.heap.size, q1.heap.size, Amb, Abb, Aq, cmb, cbb, cq, rfl, rfl, rfl, r_x4_53, r_x5_53, hb53⟩
      · (try simp only [sq])
        go_simp
        rw [zar_lit]
        obtain ⟨V54, hV54⟩ : ∃ x, x = (V44).alloc (.cells zar 32) := ⟨_, rfl⟩
        have hv54 : Below V44.heap.size V44 V54 := by rw [hV54]; exact Below.alloc (Below.refl _ _) (Nat.le_refl _) _
        have hs54 : V44.heap.size < V54.heap.size := by rw [hV54]; simp
        have hb54 : Below q1.heap.size q1 V54 := Below.trans hb44 (Below.mono hv54 (Below.size hb44))
        have r_x5_54 := Whole.below r_x5_44 hv54 (Whole.lt r_x5_44)
        have r_x4_54 : Whole V54 (V44.heap.size) 32 zar := by rw [hV54]; exact Whole.here _ _ _
        have hpx4 : q1.heap.size ≤ V44.heap.size := Below.size hb44
        rw [← hV54]
        clear hV54
        refine hKK.out _ _ (HCC.out _ hb54) (fun hHeld => ?_)
        clear hKK KK
        (try simp only [sq])
        refine wpAnyH_ready (rs := [2]) (by kernel_rfl) (by simp) ?_
        refine AllReadyH.cons rfl (fun KK hKK => ?_) AllReadyH.nil
        (try simp only [sq])
        go_simp
        go_at_call 51
        refine (crides 3 V54 (fun _ => True)).mono ?_
        rintro e V55 ⟨hx55, hv55⟩
        have hs55 : V54.heap.size ≤ V55.heap.size := hv55.size
        have hb55 := Below.trans hb54 (Below.mono hv55 (Below.size hb54))
        have r_x5_55 := Whole.below r_x5_54 hv55 (Whole.lt r_x5_54)
        have r_x4_55 := Whole.below r_x4_54 hv55 (Whole.lt r_x4_54)
        obtain ⟨vc55, rfl, hcv55⟩ := hx55
        obtain ⟨E1, e1, E2, e2, rfl, hce1, hce2, hcew⟩ := id hcv55
        clear hce1 hce2 hcew
        have cv_55 : CavV V55 (fun _ => True) (.agg (cvrow (rcv 3).third (rcv 3).first (rcv 3).party (.slice E1 (rcv 3).ticket.length e1) (.slice E2 (rcv 3).box.length e2))) (rcv 3) := hcv55
        refine hKK.out _ _ (HCC.out _ hb55) (fun hHeld => ?_)
        clear hKK KK
        (try simp only [sq])
        refine wpAnyH_ready (rs := [3]) (by kernel_rfl) (by simp) ?_
        refine AllReadyH.cons rfl (fun KK hKK => ?_) AllReadyH.nil
        (try simp only [sq])
        go_simp
        go_at_call 20
        refine (catt (AlV.below HVA.out (Below.trans HLOC.out (Below.mono hb55 (Below.size HLOC.out))) (Nat.le_refl _)) (by have := HN2.out; omega) (P := p) ⟨Ac, cc, rfl, Cavs.below HVC.out (Below.trans HLOC.out (Below.mono hb55 (Below.size HLOC.out))) (Nat.le_refl _), hlp⟩ hl0 cv_55 (Tables.below HTW.out (Nat.le_refl _) hb55)).mono ?_
        rintro e V56 ⟨hx56, hv56⟩
        have hs56 : V55.heap.size ≤ V56.heap.size := hv56.size
        have hb56 := Below.trans hb55 (Below.mono hv56 (Below.size hb55))
        have r_x5_56 := Whole.below r_x5_55 hv56 (Whole.lt r_x5_55)
        have r_x4_56 := Whole.below r_x4_55 hv56 (Whole.lt r_x4_55)
        have cv_56 := CavV.below cv_55 hv56 (Nat.le_refl _)
        rw [← HR2.out] at hx56
        obtain ⟨vv56, vu56, rfl, hav56, hpv56⟩ := hx56
        obtain ⟨Amb, cmb, Abb, cbb, rfl, hM, hBx, hA⟩ := hav56
        obtain ⟨Aq, cq, rfl, hqc, hqt⟩ := hpv56
        clear hM hBx hA hqc
        refine hKK.out _ _ (HCC.out _ hb56) (fun hHeld => ?_)
        clear hKK KK
        (try simp only [sq])
        apply wpT (i := 4) rfl (by kernel_rfl)
        case hQ => exact fun _ _ _ h => h
        case hS => exact hHeld
        case hy => (refine Or.inl ⟨by rfl, ?_⟩; intro w hSw; (try go_split_ands); go_simp; (try with_reducible rfl))
        (try simp only [sq])
        apply wpT (i := 5) rfl (by kernel_rfl)
        case hQ => exact fun _ _ _ h => h
        case hS => exact hHeld
        case hy => (refine Or.inl ⟨by rfl, ?_⟩; intro w hSw; (try go_split_ands); go_simp; (try with_reducible rfl))
        (try simp only [sq])
        apply wpT (i := 6) rfl (by kernel_rfl)
        case hQ => exact fun _ _ _ h => h
        case hS => exact hHeld
        case hy => (refine Or.inl ⟨by rfl, ?_⟩; intro w hSw; (try go_split_ands); go_simp; (try with_reducible rfl))
        (try simp only [sq])
        apply wpT (i := 7) rfl (by kernel_rfl)
        case hQ => exact fun _ _ _ h => h
        case hS => exact hHeld
        case hy => (refine Or.inl ⟨by rfl, ?_⟩; intro w hSw; (try go_split_ands); go_simp; (try with_reducible rfl))
        (try simp only [sq])
        refine wpAnyH_ready (rs := [10]) (by kernel_rfl) (by simp) ?_
        refine AllReadyH.cons rfl (fun KK hKK => ?_) AllReadyH.nil
        obtain ⟨V57, hV57⟩ : ∃ x, x = (V56).setRow (V44.heap.size) (alc b.free b.seed b.fresh (.slice Amb b.macs.length cmb) (.slice Abb b.boxes.length cbb)) := ⟨_, rfl⟩
        have r_x5_57 : Whole V57 (q1.heap.size) 51 zps := by rw [hV57]; exact Whole.setRow_far r_x5_56 (by omega) _
        have r_x4_57 : Whole V57 (V44.heap.size) 32 (alc b.free b.seed b.fresh (.slice Amb b.macs.length cmb) (.slice Abb b.boxes.length cbb)) := by rw [hV57]; exact Whole.setRow r_x4_56 _
        have hs57 : V56.heap.size ≤ V57.heap.size := by rw [hV57]; simp
        have hb57 : Below q1.heap.size q1 V57 := by rw [hV57]; exact below_setRow hb56 (by omega) _
        rw [if_pos (by kernel_rfl)]
        refine wp_store_row 32 _ _ rfl (V44.heap.size) _ rfl rfl 32 _ r_x4_56 (by rw [algSize, alc_size]) (by rw [zar_size, alc_size]) (alc_one _ _ _ _ _ _ _ _ _) ?_
        rw [← hV57]
        clear hV57
        refine hKK.out _ _ (HCC.out _ hb57) (fun hHeld => ?_)
        clear hKK KK
        (try simp only [sq])
        refine wpAnyH_ready (rs := [11]) (by kernel_rfl) (by simp) ?_
        refine AllReadyH.cons rfl (fun KK hKK => ?_) AllReadyH.nil
        obtain ⟨V58, hV58⟩ : ∃ x, x = (V57).setRow (q1.heap.size) (psl q.epoch q.serial (.slice Aq q.cavs.length cq) q.tag).toArray := ⟨_, rfl⟩
        have r_x4_58 : Whole V58 (V44.heap.size) 32 (alc b.free b.seed b.fresh (.slice Amb b.macs.length cmb) (.slice Abb b.boxes.length cbb)) := by rw [hV58]; exact Whole.setRow_far r_x4_57 (by omega) _
        have r_x5_58 : Whole V58 (q1.heap.size) 51 (psl q.epoch q.serial (.slice Aq q.cavs.length cq) q.tag).toArray := by rw [hV58]; exact Whole.setRow r_x5_57 _
        have hs58 : V57.heap.size ≤ V58.heap.size := by rw [hV58]; simp
        have hb58 : Below q1.heap.size q1 V58 := by rw [hV58]; exact below_setRow hb57 (by omega) _
        rw [if_pos (by kernel_rfl)]
        refine wp_store_row 51 _ _ rfl (q1.heap.size) _ rfl rfl 51 _ r_x5_57 (by rw [passSize, psl_size]) (by rw [zps_size, psl_size]) (psl_one _ _ _ _ _ _) ?_
        rw [← hV58]
        clear hV58
        refine hKK.out _ _ (HCC.out _ hb58) (fun hHeld => ?_)
        clear hKK KK
        (try simp only [sq])
        apply wpT (i := 12) rfl (by kernel_rfl)
        case hQ => exact fun _ _ _ h => h
        case hS => exact hHeld
        case hy => (refine Or.inl ⟨by rfl, ?_⟩; intro w hSw; (try go_split_ands); go_simp; (try with_reducible rfl))
        (try simp only [sq])
        refine wpAnyH_done (by kernel_rfl) ?_ _
        clear HCC hHeld
        go_wp2_with fail
        go_meet
        exact ⟨V44.heap.size, q1.heap.size, Amb, Abb, Aq, cmb, cbb, cq, rfl, rfl, rfl, r_x4_58, r_x5_58, hb58⟩
  case rest =>
    obtain ⟨G4, G5, Am, Ab, Aq, cm, cb, cq, rfl, rfl, rfl, hr4, hr5, hbc⟩ := hcut
    have hswc : q1.heap.size ≤ wc.heap.size := hbc.size
    have H8 : Hid (Below w.heap.size w wc) := Lib.hid ((Below.trans H4.out (Below.mono hbc (Below.size H4.out))))
    have H9 : Hid (Below u1.heap.size u1 wc) := Lib.hid ((Below.trans H5.out (Below.mono hbc (Below.size H5.out))))
    have H10 : Hid (ALRow wc u1.heap.size a.free a.seed a.fresh (.slice Ama a.macs.length cma) (.slice Aba a.boxes.length cba)) := Lib.hid ((Whole.below H6.out hbc (Whole.lt H6.out)))
    have H11 : Hid (Whole wc (u1.heap.size + 1) 51 (psl p.epoch p.serial (.slice Ac p.cavs.length cc) p.tag).toArray) := Lib.hid ((Whole.below H7.out hbc (Whole.lt H7.out)))
    clear H4 H5 H6 H7
    rw [HW.out.2.2.1] at hr4
    rw [HW.out.2.2.2] at hr5
    have hlq : q.tag.length = 32 := by rw [HW.out.2.1]; exact sym_length _ _
    have h4 := (ALRow.cells hr4).2.2.1
    have h5 := (psl_cells hr5).2.2
    have HS3 : Hid (∀ W, Below wc.heap.size wc W → W.rangeAt (u1.heap.size + 1) 3 (p.tag.map byt) ∧ W.rangeAt G5 3 (q.tag.map byt) ∧ W.cell? ⟨G4, 34, none⟩ = some (.slice Am 4 cm) ∧ W.cell? ⟨G5, 2, none⟩ = some (.slice Aq 1 cq)) := Lib.hid fun W hW => ⟨psl_tag hlp (Whole.below H11.out hW (Whole.lt H11.out)), psl_tag hlq (Whole.below hr5 hW hr5.lt), (hW.cell (p := ⟨G4, 34, none⟩) hr4.lt).trans h4, (hW.cell (p := ⟨G5, 2, none⟩) hr5.lt).trans h5⟩
    have HC1 : Hid (∀ W, Calls Tryd.prog 48 #[.int .u8 109, .int .i64 1] W fun e w' => e = .returned (tagv p.tag) ∧ Below W.heap.size W w') := Lib.hid fun W => by rw [HW.out.1]; have h := symbol 109#8 1 W; rw [show bv 109#8 = 109 from bv_lit 109 (by omega)] at h; exact h
    have HC2 : Hid (∀ W, Calls Tryd.prog 48 #[.int .u8 109, .int .i64 3] W fun e w' => e = .returned (tagv q.tag) ∧ Below W.heap.size W w') := Lib.hid fun W => by rw [HW.out.2.1]; have h := symbol 109#8 3 W; rw [show bv 109#8 = 109 from bv_lit 109 (by omega)] at h; exact h
    have kq1 := fun W => eql_tag hlp hlp (decide_eq_true rfl) W
    have kq2 := fun W => eql_tag hlq hlq (decide_eq_true rfl) W
    have hb0 : Below wc.heap.size wc wc.drew := Below.drew (Below.refl _ _)
    have HBW := Lib.hid H8.out
    clear hr4 hr5 h4 h5 hbc HR2 HW
    go_upto_region 3 with fail
    refine wp_region_held_drew (S := fun W : World => W.rangeAt (u1.heap.size + 1) 3 (p.tag.map byt) ∧ W.rangeAt G5 3 (q.tag.map byt) ∧ W.cell? ⟨G4, 34, none⟩ = some (.slice Am 4 cm) ∧ W.cell? ⟨G5, 2, none⟩ = some (.slice Aq 1 cq)) (by kernel_rfl) (HS3.out _ hb0) (fun hHeld => ?_)
    apply wpT (i := 0) rfl (by kernel_rfl)
    case hQ => exact fun _ _ _ h => h
    case hS => exact hHeld
    case hy => (refine Or.inl ⟨by rfl, ?_⟩; intro w hSw; (try go_split_ands); go_simp; (try with_reducible rfl))
    (try simp only [sq])
    apply wpT (i := 1) rfl (by kernel_rfl)
    case hQ => exact fun _ _ _ h => h
    case hS => exact hHeld
    case hy => (refine Or.inl ⟨by rfl, ?_⟩; intro w hSw; (try go_split_ands); go_simp; (try with_reducible rfl))
    (try simp only [sq])
    apply wpT (i := 2) rfl (by kernel_rfl)
    case hQ => exact fun _ _ _ h => h
    case hS => exact hHeld
    case hy => (refine Or.inl ⟨by rfl, ?_⟩; intro w hSw; (try go_split_ands); go_simp; (try with_reducible rfl))
    (try simp only [sq])
    apply wpT (i := 3) rfl (by kernel_rfl)
    case hQ => exact fun _ _ _ h => h
    case hS => exact hHeld
    case hy => (refine Or.inl ⟨by rfl, ?_⟩; intro w hSw; (try go_split_ands); go_simp; (try with_reducible rfl))
    (try simp only [sq])
    apply wpT (i := 4) rfl (by kernel_rfl)
    case hQ => exact fun _ _ _ h => h
    case hS => exact hHeld
    case hy => (refine Or.inl ⟨by rfl, ?_⟩; intro w hSw; (try go_split_ands); go_simp; (try with_reducible rfl))
    (try simp only [sq])
    apply wpT (i := 5) rfl (by kernel_rfl)
    case hQ => exact fun _ _ _ h => h
    case hS => exact hHeld
    case hy => (refine Or.inl ⟨by rfl, ?_⟩; intro w hSw; (try go_split_ands); go_simp; (try with_reducible rfl))
    (try simp only [sq])
    apply wpT (i := 6) rfl (by kernel_rfl)
    case hQ => exact fun _ _ _ h => h
    case hS => exact hHeld
    case hy => (refine Or.inl ⟨by rfl, ?_⟩; intro w hSw; (try go_split_ands); go_simp; (try with_reducible rfl))
    (try simp only [sq])
    apply wpT (i := 7) rfl (by kernel_rfl)
    case hQ => exact fun _ _ _ h => h
    case hS => exact hHeld
    case hy => (refine Or.inl ⟨by rfl, ?_⟩; intro w hSw; (try go_split_ands); go_simp; (try with_reducible rfl))
    (try simp only [sq])
    apply wpT (i := 8) rfl (by kernel_rfl)
    case hQ => exact fun _ _ _ h => h
    case hS => exact hHeld
    case hy => exact yieldsIf_load_mid (by rfl) 28 _ rfl (u1.heap.size + 1) (3) rfl ((p.tag.map byt)) _ (fun w hS => hS.1) Tryd.underlying28 rfl (by rw [tagSize, List.length_map, hlp])
    (try simp only [sq])
    refine wpAnyH_ready (rs := [9]) (by kernel_rfl) (by simp) ?_
    refine AllReadyH.cons rfl (fun KK hKK => ?_) AllReadyH.nil
    (try simp only [sq])
    go_simp
    go_at_call 48
    refine (HC1.out _).mono ?_
    rintro e Z9 ⟨rfl, hv⟩
    have hk9 := Below.trans hb0 (Below.mono hv (Below.size hb0))
    clear hv hb0
    refine hKK.out _ _ (HS3.out _ hk9) (fun hHeld => ?_)
    clear hKK KK
    (try simp only [sq])
    apply wpT (i := 10) rfl (by kernel_rfl)
    case hQ => exact fun _ _ _ h => h
    case hS => exact hHeld
    case hy => (refine Or.inl ⟨by rfl, ?_⟩; intro w hSw; (try go_split_ands); go_simp; (try with_reducible rfl))
    (try simp only [sq])
    apply wpT (i := 11) rfl (by kernel_rfl)
    case hQ => exact fun _ _ _ h => h
    case hS => exact hHeld
    case hy => (refine Or.inl ⟨by rfl, ?_⟩; intro w hSw; (try go_split_ands); go_simp; (try with_reducible rfl))
    (try simp only [sq])
    apply wpT (i := 12) rfl (by kernel_rfl)
    case hQ => exact fun _ _ _ h => h
    case hS => exact hHeld
    case hy => (refine Or.inl ⟨by rfl, ?_⟩; intro w hSw; (try go_split_ands); go_simp; (try with_reducible rfl))
    (try simp only [sq])
    apply wpT (i := 13) rfl (by kernel_rfl)
    case hQ => exact fun _ _ _ h => h
    case hS => exact hHeld
    case hy => (refine Or.inl ⟨by rfl, ?_⟩; intro w hSw; (try go_split_ands); go_simp; (try with_reducible rfl))
    (try simp only [sq])
    apply wpT (i := 14) rfl (by kernel_rfl)
    case hQ => exact fun _ _ _ h => h
    case hS => exact hHeld
    case hy => exact yieldsIf_load_mid (by rfl) 28 _ rfl G5 (3) rfl ((q.tag.map byt)) _ (fun w hS => hS.2.1) Tryd.underlying28 rfl (by rw [tagSize, List.length_map, hlq])
    (try simp only [sq])
    refine wpAnyH_ready (rs := [15]) (by kernel_rfl) (by simp) ?_
    refine AllReadyH.cons rfl (fun KK hKK => ?_) AllReadyH.nil
    (try simp only [sq])
    go_simp
    go_at_call 48
    refine (HC2.out _).mono ?_
    rintro e Z15 ⟨rfl, hv⟩
    have hk15 := Below.trans hk9 (Below.mono hv (Below.size hk9))
    clear hv hk9
    refine hKK.out _ _ (HS3.out _ hk15) (fun hHeld => ?_)
    clear hKK KK
    (try simp only [sq])
    apply wpT (i := 16) rfl (by kernel_rfl)
    case hQ => exact fun _ _ _ h => h
    case hS => exact hHeld
    case hy => (refine Or.inl ⟨by rfl, ?_⟩; intro w hSw; (try go_split_ands); go_simp; (try with_reducible rfl))
    (try simp only [sq])
    apply wpT (i := 17) rfl (by kernel_rfl)
    case hQ => exact fun _ _ _ h => h
    case hS => exact hHeld
    case hy => (refine Or.inl ⟨by rfl, ?_⟩; intro w hSw; (try go_split_ands); go_simp; (try with_reducible rfl))
    (try simp only [sq])
    apply wpT (i := 18) rfl (by kernel_rfl)
    case hQ => exact fun _ _ _ h => h
    case hS => exact hHeld
    case hy => (refine Or.inl ⟨by rfl, ?_⟩; intro w hSw; (try go_split_ands); go_simp; (try with_reducible rfl))
    (try simp only [sq])
    apply wpT (i := 19) rfl (by kernel_rfl)
    case hQ => exact fun _ _ _ h => h
    case hS => exact hHeld
    case hy => (refine Or.inl ⟨by rfl, ?_⟩; intro w hSw; (try go_split_ands); go_simp; (try with_reducible rfl))
    (try simp only [sq])
    apply wpT (i := 20) rfl (by kernel_rfl)
    case hQ => exact fun _ _ _ h => h
    case hS => exact hHeld
    case hy => (refine Or.inl ⟨by rfl, ?_⟩; intro w hSw; (try go_split_ands); go_simp; (try with_reducible rfl))
    (try simp only [sq])
    apply wpT (i := 21) rfl (by kernel_rfl)
    case hQ => exact fun _ _ _ h => h
    case hS => exact hHeld
    case hy => (refine Or.inl ⟨by rfl, ?_⟩; intro w hSw; (try go_split_ands); go_simp; (try with_reducible rfl))
    (try simp only [sq])
    apply wpT (i := 22) rfl (by kernel_rfl)
    case hQ => exact fun _ _ _ h => h
    case hS => exact hHeld
    case hy => (refine Or.inl ⟨by rfl, ?_⟩; intro w hSw; (try go_split_ands); go_simp; (try with_reducible rfl))
    (try simp only [sq])
    apply wpT (i := 23) rfl (by kernel_rfl)
    case hQ => exact fun _ _ _ h => h
    case hS => exact hHeld
    case hy => (refine Or.inl ⟨by rfl, ?_⟩; intro w hSw; (try go_split_ands); go_simp; (try with_reducible rfl))
    (try simp only [sq])
    apply wpT (i := 24) rfl (by kernel_rfl)
    case hQ => exact fun _ _ _ h => h
    case hS => exact hHeld
    case hy => (refine Or.inl ⟨by rfl, ?_⟩; intro w hSw; (try go_split_ands); go_simp; (try with_reducible rfl))
    (try simp only [sq])
    apply wpT (i := 25) rfl (by kernel_rfl)
    case hQ => exact fun _ _ _ h => h
    case hS => exact hHeld
    case hy => (refine Or.inl ⟨by rfl, ?_⟩; intro w hSw; (try go_split_ands); go_simp; (try with_reducible rfl))
    (try simp only [sq])
    apply wpT (i := 26) rfl (by kernel_rfl)
    case hQ => exact fun _ _ _ h => h
    case hS => exact hHeld
    case hy => (refine Or.inl ⟨by rfl, ?_⟩; intro w hSw; (try go_split_ands); go_simp; (try with_reducible rfl))
    (try simp only [sq])
    apply wpT (i := 27) rfl (by kernel_rfl)
    case hQ => exact fun _ _ _ h => h
    case hS => exact hHeld
    case hy => (refine Or.inl ⟨by rfl, ?_⟩; intro w hSw; (try go_split_ands); go_simp; (try with_reducible rfl))
    (try simp only [sq])
    apply wpT (i := 28) rfl (by kernel_rfl)
    case hQ => exact fun _ _ _ h => h
    case hS => exact hHeld
    case hy => (refine Or.inl ⟨by rfl, ?_⟩; intro w hSw; (try go_split_ands); go_simp; (try with_reducible rfl))
    (try simp only [sq])
    apply wpT (i := 29) rfl (by kernel_rfl)
    case hQ => exact fun _ _ _ h => h
    case hS => exact hHeld
    case hy => (refine Or.inl ⟨by rfl, ?_⟩; intro w hSw; (try go_split_ands); go_simp; (try with_reducible rfl))
    (try simp only [sq])
    apply wpT (i := 30) rfl (by kernel_rfl)
    case hQ => exact fun _ _ _ h => h
    case hS => exact hHeld
    case hy => (refine Or.inl ⟨by rfl, ?_⟩; intro w hSw; (try go_split_ands); go_simp; (try with_reducible rfl))
    (try simp only [sq])
    refine wpAnyH_done (by kernel_rfl) ?_ _
    clear hHeld HS3 HC1 HC2 kq1 kq2
    have HFIN := Lib.hid (HBW.out.trans (Below.mono hk15 (Below.size HBW.out)))
    clear hk15
    go_wp2_with fail
    go_ret
    exact ⟨rfl, HFIN.out⟩
end Go.Proofs.YtiikhjifjdpgdaaDoor
