/-
  checkOf.
  newBox in a computed algebra; combined is what its contract (CombOk) says.
  openComputed; combined is what its contract (CombOk) says.
  What was sealed is opened (plain words).
-/
import Derived.Deep.RegionHeld3
import Derived.Test.YteglmfimgdgchaaDoorPk15
import Derived.Test.YteglmfimgdgchaaDoorPk4
import Derived.Test.YteglmfimgdgchaaDoorPk8
import Derived.Test.YteglmfimgdgchaaDoorPk41
import Derived.Test.YteglmfimgdgchaaDoorPk20
import Derived.Deep.CutBlock
import Derived.Test.YteglmfimgdgchaaDoorPk45
import Derived.Test.YteglmfimgdgchaaDoorPk51
import Derived.Test.YteglmfimgdgchaaDoorPk25
namespace Go.Proofs.YteglmfimgdgchaaDoor
open Go Go.RowKit Sh Leaf

theorem conv_drew (C : Array Value) (n c : Nat) (W : World) : (convert 40 40 (.slice (some ⟨W.heap.size, 0, none⟩) n c)).run Tryd.prog (W.alloc (.cells C 5)).drew = .ok (.slice (some ⟨W.heap.size, 0, none⟩) n c) (W.alloc (.cells C 5 (C.size, C.size + 1))).drew :=
  conv_const C n c W.drew
theorem boxw_cells : (#[.int .u8 98, .int .u8 111, .int .u8 120] : Array Value) = (boxw.map byt).toArray := by
  simp only [boxw, List.map_cons, List.map_nil, byt]
  rw [bv_lit 98 (by omega), bv_lit 111 (by omega), bv_lit 120 (by omega)]
  rfl
set_option linter.unusedSimpArgs false in
set_option linter.unusedVariables false in
set_option maxRecDepth 100000 in
set_option maxHeartbeats 4000000 in
theorem checkof_ {w : World} {Q : Nat → Prop} {B : Option Addr} {d : Nat} {K m : List B8} (hK : K.length = 32) (hm : Bytes w Q (.slice B m.length d) m) (hml : m.length ≤ 100008) (hT : Tables w) :
    Calls Tryd.prog 70 #[.agg (K.map byt).toArray, .slice B m.length d] w fun e w' => e = .returned (tagv (hmac K (boxw ++ m))) ∧ Below w.heap.size w w' := by
  obtain ⟨E, hE⟩ : ∃ E, E = hmac K (boxw ++ m) := ⟨_, rfl⟩
  have hEl : E.length = 32 := by rw [hE]; exact hmac_length _ _
  obtain ⟨p, hp⟩ : ∃ p, p = (w.alloc (.cells (K.map byt).toArray 23)).alloc (.cells ztr 23) := ⟨_, rfl⟩
  have hb : Below w.heap.size w p := by rw [hp]; exact ((Below.refl _ _).alloc (Nat.le_refl _) _).alloc (by simp) _
  have hk : TGRow p w.heap.size K := by rw [hp]; exact (Whole.here _ _ _).alloc _
  have hz : Whole p (w.heap.size + 1) 23 ztr := by rw [hp]; exact Whole.at_ _ _ _ _ (by simp)
  have hsp : w.heap.size + 2 ≤ p.heap.size := by have := hz.lt; omega
  have hmp := hm.below hb (Nat.le_refl _)
  have hTp := hT.below (Nat.le_refl _) hb
  have hst := fun g W => run_sliceAt_whole (P := Tryd.prog) (t := 23) (e := 5) (n := 32) Tryd.underlying23 (by kernel_rfl) g W
  have hkb := Whole.bytes hk (by omega)
  rw [hK] at hkb
  rw [← hE]
  have HE := Lib.hid hE
  have HB := Lib.hid hb
  have HZ := Lib.hid hz
  have HKB := Lib.hid hkb
  have HM := Lib.hid hmp
  have HT := Lib.hid hTp
  have hcv := conv_drew #[.int .u8 98, .int .u8 111, .int .u8 120] 3 3 p
  clear hE hb hk hz hmp hTp hkb hm hT
  go_enter Tryd.func70, Tryd.ntmps70
  go_upto_region 1 with fail
  rw [ztr_lit, ← hp]
  clear hp
  refine wp_region_held_drew (S := fun _ => True) (by kernel_rfl) (trivial) (fun hHeld => ?_)
  apply wpAnyH_take (i := 0) rfl (by kernel_rfl) (by kernel_rfl) (by kernel_rfl)
  case hQ => exact fun _ _ _ h => h
  case hS => exact hHeld
  case hy => (refine Or.inl ⟨by rfl, ?_⟩; intro w hSw; (try go_split_ands); go_simp; (try with_reducible rfl))
  (try simp only [List.getElem_toArray, List.getElem_cons_zero, Act.put, List.setIfInBounds_toArray, List.set_cons_zero, List.set_cons_succ])
  apply wpAnyH_take (i := 3) rfl (by kernel_rfl) (by kernel_rfl) (by kernel_rfl)
  case hQ => exact fun _ _ _ h => h
  case hS => exact hHeld
  case hy => (refine Or.inl ⟨by rfl, ?_⟩; intro w hSw; (try go_split_ands); go_simp; (try with_reducible rfl))
  (try simp only [List.getElem_toArray, List.getElem_cons_succ, List.getElem_cons_zero, Act.put, List.setIfInBounds_toArray, List.set_cons_zero, List.set_cons_succ])
  refine wpAnyH_ready (rs := [1]) (by kernel_rfl) (by simp) ?_
  refine AllReadyH.cons rfl (fun KK hKK => ?_) AllReadyH.nil
  (try simp only [List.getElem_toArray, List.getElem_cons_succ, List.getElem_cons_zero])
  go_simp
  refine hKK.out _ _ (trivial) (fun hHeld => ?_)
  clear hKK KK
  (try simp only [List.getElem_toArray, List.getElem_cons_succ, List.getElem_cons_zero, Act.put, List.setIfInBounds_toArray, List.set_cons_zero, List.set_cons_succ])
  refine wpAnyH_ready (rs := [2]) (by kernel_rfl) (by simp) ?_
  refine AllReadyH.cons rfl (fun KK hKK => ?_) AllReadyH.nil
  (try simp only [List.getElem_toArray, List.getElem_cons_succ, List.getElem_cons_zero])
  go_simp
  obtain ⟨V1, hV1⟩ : ∃ x, x = (p.alloc (.cells #[.int .u8 98, .int .u8 111, .int .u8 120] 5 (3, 4))).drew := ⟨_, rfl⟩
  have hb1 : Below p.heap.size p V1 := by rw [hV1]; exact (below_mark p _ _ _).drew
  have hbx : Bytes V1 (fun b => p.heap.size ≤ b) (.slice (some ⟨p.heap.size, 0, none⟩) 3 3) boxw := by rw [hV1]; exact (own_const p p.heap.size (Nat.le_refl _) boxw #[.int .u8 98, .int .u8 111, .int .u8 120] 3 boxw_cells rfl (by omega)).bytes
  (try simp only [show (#[.int .u8 98, .int .u8 111, .int .u8 120] : Array Value).size = 3 by rfl])
  rw [← hV1]
  clear hV1 hcv
  refine hKK.out _ _ (trivial) (fun hHeld => ?_)
  clear hKK KK
  (try simp only [List.getElem_toArray, List.getElem_cons_succ, List.getElem_cons_zero, Act.put, List.setIfInBounds_toArray, List.set_cons_zero, List.set_cons_succ])
  refine wpAnyH_ready (rs := [4]) (by kernel_rfl) (by simp) ?_
  refine AllReadyH.cons rfl (fun KK hKK => ?_) AllReadyH.nil
  (try simp only [List.getElem_toArray, List.getElem_cons_succ, List.getElem_cons_zero])
  go_simp
  obtain ⟨V2, hV2⟩ : ∃ x, x = V1.alloc (.cells #[.slice (some ⟨p.heap.size, 0, none⟩) 3 3, .slice B m.length d] 40) := ⟨_, rfl⟩
  have hb2 : Below V1.heap.size V1 V2 := by rw [hV2]; exact (Below.refl _ _).alloc (Nat.le_refl _) _
  have hrow : Whole V2 V1.heap.size 40 #[.slice (some ⟨p.heap.size, 0, none⟩) 3 3, .slice B m.length d] := by rw [hV2]; exact Whole.here _ _ _
  have hb12 := Below.trans hb1 (Below.mono hb2 (Below.size hb1))
  rw [← hV2]
  clear hV2
  refine hKK.out _ _ (trivial) (fun hHeld => ?_)
  clear hKK KK
  (try simp only [List.getElem_toArray, List.getElem_cons_succ, List.getElem_cons_zero, Act.put, List.setIfInBounds_toArray, List.set_cons_zero, List.set_cons_succ])
  refine wpAnyH_ready (rs := [5]) (by kernel_rfl) (by simp) ?_
  refine AllReadyH.cons rfl (fun KK hKK => ?_) AllReadyH.nil
  (try simp only [List.getElem_toArray, List.getElem_cons_succ, List.getElem_cons_zero])
  go_simp
  go_at_call 67
  refine (concat V1.heap.size _ _ boxw m _ _ V2 (hrow.cell 0) (hrow.cell 1) (hbx.below hb2 (Nat.le_refl _)) (HM.out.below hb12 (Nat.le_refl _)) (by decide) (by simp [boxw]; omega)).mono ?_
  rintro e V3 ⟨v3, rfl, hv3, hb3⟩
  have hb13 := Below.trans hb12 (Below.mono hb3 (Below.size hb12))
  refine hKK.out _ _ (trivial) (fun hHeld => ?_)
  clear hKK KK
  (try simp only [List.getElem_toArray, List.getElem_cons_succ, List.getElem_cons_zero, Act.put, List.setIfInBounds_toArray, List.set_cons_zero, List.set_cons_succ])
  refine wpAnyH_ready (rs := [6]) (by kernel_rfl) (by simp) ?_
  refine AllReadyH.cons rfl (fun KK hKK => ?_) AllReadyH.nil
  (try simp only [List.getElem_toArray, List.getElem_cons_succ, List.getElem_cons_zero])
  go_simp
  go_at_call 48
  refine (hof _ _ K (boxw ++ m) _ _ V3 (HKB.out.below hb13 (Nat.le_refl _)) hv3 (HT.out.below (Nat.le_refl _) hb13) (by omega) (by simp [boxw]; omega)).mono ?_
  rintro e V4 ⟨rfl, hb4⟩
  rw [← HE.out]
  have hb14 := Below.trans hb13 (Below.mono hb4 (Below.size hb13))
  have hz4 := Whole.below HZ.out hb14 (by omega)
  refine hKK.out _ _ (trivial) (fun hHeld => ?_)
  clear hKK KK
  (try simp only [List.getElem_toArray, List.getElem_cons_succ, List.getElem_cons_zero, Act.put, List.setIfInBounds_toArray, List.set_cons_zero, List.set_cons_succ])
  refine wpAnyH_ready (rs := [7]) (by kernel_rfl) (by simp) ?_
  refine AllReadyH.cons rfl (fun KK hKK => ?_) AllReadyH.nil
  obtain ⟨V5, hV5⟩ : ∃ x, x = V4.setRow (w.heap.size + 1) (E.map byt).toArray := ⟨_, rfl⟩
  have e1 : TGRow V5 (w.heap.size + 1) E := by rw [hV5]; exact Whole.setRow hz4 _
  have hbf : Below w.heap.size w V5 := by rw [hV5]; exact below_setRow (Below.trans HB.out (Below.mono hb14 (Below.size HB.out))) (by omega) _
  rw [if_pos (by kernel_rfl)]
  refine wp_store_row 23 _ _ rfl (w.heap.size + 1) _ rfl rfl 23 _ hz4 (by rw [tagSize, tag_size hEl]) (by rw [ztr_size, tag_size hEl]) (tag_one _) ?_
  rw [← hV5]
  clear hV5
  refine hKK.out _ _ (trivial) (fun hHeld => ?_)
  clear hKK KK
  (try simp only [List.getElem_toArray, List.getElem_cons_succ, List.getElem_cons_zero, Act.put, List.setIfInBounds_toArray, List.set_cons_zero, List.set_cons_succ])
  refine wpAnyH_done (by kernel_rfl) ?_ _
  have HG := Lib.hid hbf
  have HR := Lib.hid e1
  clear hb1 hb2 hb12 hb3 hb13 hb4 hb14 hbx hrow hv3 hz4 hst hbf e1
  go_wp2_with fail
  refine bodyPost_ret (results_cell_row Tryd.results70 _ _ (w.heap.size + 1) _ _ _ _ rfl HR.out Tryd.underlying23 rfl (by rw [tagSize, tag_size hEl])) rfl ⟨rfl, HG.out⟩
end Go.Proofs.YteglmfimgdgchaaDoor
namespace Go.Proofs.YteglmfimgdgchaaDoor
open Go Go.RowKit Sh Leaf

/-- What a call of combined answers. -/
def CombOk : Prop := ∀ (w : World) (Q Q2 : Nat → Prop) (K N m : List B8) (A B : Option Addr) (c d : Nat), K.length = 32 → N.length = 8 → Bytes w Q (.slice A N.length c) N → Bytes w Q2 (.slice B m.length d) m → m.length ≤ 100000 → Tables w →
  Calls Tryd.prog 69 #[.agg (K.map byt).toArray, .slice A N.length c, .slice B m.length d] w fun e w' => (∃ v, e = .returned v ∧ Bytes w' (fun g => w.heap.size ≤ g) v (strm K (beval N) m)) ∧ Below w.heap.size w w'
theorem row2 (w : World) (u v : Value) : Whole (w.alloc (.cells #[u, v] 40)) w.heap.size 40 #[u, v] := Whole.here _ _ _
set_option linter.unusedSimpArgs false in
set_option linter.unusedVariables false in
set_option maxRecDepth 100000 in
set_option maxHeartbeats 4000000 in
theorem newb_comp (hC : CombOk) {a : Alg} {K m : List B8} {z : Int} (hfr : a.free = false) (hK : K.length = 32) (hml : m.length ≤ 100000) (hz0 : 0 ≤ z) (hz1 : z ≤ 281474976710656) : NewB a K m z := by
  intro w Q Q2 x B d hx hm hT
  obtain ⟨Am, cm, Ab, cb, rfl, -, -, hA⟩ := hx
  obtain ⟨zn, rfl⟩ : ∃ n : Nat, z = (n : Int) := ⟨z.toNat, by omega⟩
  have hzn : zn ≤ 281474976710656 := by omega
  obtain ⟨X, hX⟩ : ∃ X, X = boxb a K (zn : Int) m := ⟨_, rfl⟩
  rw [← hX]
  have hXX : X = boxh K (zn : Int) m ++ hmac K (boxw ++ boxh K (zn : Int) m) := by rw [hX]; unfold boxb; rw [if_neg (by rw [hfr]; simp)]
  obtain ⟨p, hp⟩ : ∃ p, p = (w.alloc (.cells (alc a.free a.seed a.fresh (.slice Am a.macs.length cm) (.slice Ab a.boxes.length cb)) 28)).alloc (.cells (K.map byt).toArray 23) := ⟨_, rfl⟩
  have hr : ALRow p w.heap.size a.free a.seed a.fresh (.slice Am a.macs.length cm) (.slice Ab a.boxes.length cb) := by rw [hp]; exact (Whole.here _ _ _).alloc _
  have hk : TGRow p (w.heap.size + 1) K := by rw [hp]; exact Whole.at_ _ _ _ _ (by simp)
  have hb : Below w.heap.size w p := by rw [hp]; exact ((Below.refl _ _).alloc (Nat.le_refl _) _).alloc (by simp) _
  have hsp : w.heap.size + 2 ≤ p.heap.size := by rw [hp]; simp
  obtain ⟨c0, c33, c34, c35⟩ := ALRow.cells hr
  rw [hfr] at c0
  have HX := Lib.hid hXX
  have hmp := hm.below hb (Nat.le_refl _)
  have hcl := eight_ zn hzn p
  have HT := Lib.hid hT
  have HZN := Lib.hid hzn
  have H1 : Hid (Below w.heap.size w p) := Lib.hid (hb)
  have H2 : Hid (TGRow p (w.heap.size + 1) K) := Lib.hid (hk)
  have H3 : Hid (Bytes p (fun _ => True) (.slice B m.length d) m) := Lib.hid (hmp.mono (Q' := fun _ => True) fun _ _ _ => trivial)
  clear hX hXX hr hk hb c33 c34 c35 hmp hm hT hA hfr hz0 hz1 hzn
  go_enter Tryd.func50, Tryd.ntmps50
  go_upto_region 1 with fail
  rw [← hp]
  clear hp
  go_wp2_with fail
  refine hcl.mono ?_
  rintro e u1 ⟨⟨v1, rfl, hv1⟩, hbu⟩
  clear hcl c0
  obtain ⟨A1, c1, rfl, -⟩ := id hv1
  have hsu1 : p.heap.size ≤ u1.heap.size := hbu.size
  have H4 : Hid (Below w.heap.size w u1) := Lib.hid ((Below.trans H1.out (Below.mono hbu (Below.size H1.out))))
  have H5 : Hid (TGRow u1 (w.heap.size + 1) K) := Lib.hid ((Whole.below H2.out hbu (Whole.lt H2.out)))
  have H6 : Hid (Bytes u1 (fun _ => True) (.slice B m.length d) m) := Lib.hid ((Bytes.below H3.out hbu (Nat.le_refl _)))
  clear H1 H2 H3
  obtain ⟨N, hN⟩ : ∃ N, N = be8 zn := ⟨_, rfl⟩
  have hNl : N.length = 8 := by rw [hN]; rfl
  rw [← hN] at hv1 ⊢
  have hv := hv1
  have HNN := Lib.hid hN
  have H7 : Hid (Bytes u1 (fun _ => True) (.slice A1 (N).length c1) (N)) := Lib.hid ((hv.mono fun _ _ _ => trivial))
  clear hbu hv1 hv hN
  have HNL := Lib.hid hNl
  have hcl := hC u1 _ _ K N m A1 B c1 d hK hNl H7.out H6.out hml (Tables.below HT.out (Nat.le_refl _) H4.out)
  obtain ⟨S, hS⟩ : ∃ S, S = strm K (beval N) m := ⟨_, rfl⟩
  have hSl : S.length = m.length := by rw [hS]; exact strm_length _ _ _
  rw [← hS] at hcl
  have HS := Lib.hid hS
  have HSL := Lib.hid hSl
  clear hS hSl hNl
  go_wp2_with (with_reducible refine wpList_load_tag rfl _ rfl rfl H5.out (tag_size hK) ?_)
  refine hcl.mono ?_
  rintro e u2 ⟨⟨v2, rfl, hv⟩, hbu⟩
  clear hcl
  obtain ⟨A2, c2, rfl, -⟩ := id hv
  have hsu2 : u1.heap.size ≤ u2.heap.size := hbu.size
  have H8 : Hid (Below w.heap.size w u2) := Lib.hid ((Below.trans H4.out (Below.mono hbu (Below.size H4.out))))
  have H9 : Hid (TGRow u2 (w.heap.size + 1) K) := Lib.hid ((Whole.below H5.out hbu (Whole.lt H5.out)))
  have H10 : Hid (Bytes u2 (fun _ => True) (.slice B m.length d) m) := Lib.hid ((Bytes.below H6.out hbu (Nat.le_refl _)))
  have H11 : Hid (Bytes u2 (fun _ => True) (.slice A1 (N).length c1) (N)) := Lib.hid ((Bytes.below H7.out hbu (Nat.le_refl _)))
  clear H4 H5 H6 H7
  have H12 : Hid (Bytes u2 (fun _ => True) (.slice A2 (S).length c2) (S)) := Lib.hid ((hv.mono fun _ _ _ => trivial))
  clear hbu hv
  obtain ⟨q3, hq⟩ : ∃ q, q = u2.alloc (.cells #[.slice A1 N.length c1, .slice A2 S.length c2] 40) := ⟨_, rfl⟩
  have hbq : Below u2.heap.size u2 q3 := by rw [hq]; exact (Below.refl _ _).alloc (Nat.le_refl _) _
  have hrow : Whole q3 u2.heap.size 40 #[.slice A1 N.length c1, .slice A2 S.length c2] := by rw [hq]; exact Whole.here _ _ _
  have hsq3 : u2.heap.size + 1 ≤ q3.heap.size := by rw [hq]; simp
  have H13 : Hid (Below w.heap.size w q3) := Lib.hid ((Below.trans H8.out (Below.mono hbq (Below.size H8.out))))
  have H14 : Hid (TGRow q3 (w.heap.size + 1) K) := Lib.hid ((Whole.below H9.out hbq (Whole.lt H9.out)))
  have H15 : Hid (Bytes q3 (fun _ => True) (.slice B m.length d) m) := Lib.hid ((Bytes.below H10.out hbq (Nat.le_refl _)))
  have H16 : Hid (Bytes q3 (fun _ => True) (.slice A1 (N).length c1) (N)) := Lib.hid ((Bytes.below H11.out hbq (Nat.le_refl _)))
  have H17 : Hid (Bytes q3 (fun _ => True) (.slice A2 (S).length c2) (S)) := Lib.hid ((Bytes.below H12.out hbq (Nat.le_refl _)))
  clear H8 H9 H10 H11 H12
  have hcl := concat u2.heap.size _ _ (N) (S) _ _ q3 (hrow.cell 0) (hrow.cell 1) H16.out H17.out (by have := HNL.out; omega) (by have := HNL.out; have := HSL.out; omega)
  clear hbq hrow
  go_wp2_with fail
  rw [← hq]
  clear hq
  refine hcl.mono ?_
  rintro e u4 ⟨v4, rfl, hv, hbu⟩
  clear hcl
  obtain ⟨H, hH⟩ : ∃ H, H = N ++ S := ⟨_, rfl⟩
  rw [← hH] at hv
  obtain ⟨A4, c4, rfl, -⟩ := id hv
  have hsu4 : q3.heap.size ≤ u4.heap.size := hbu.size
  have hHl : H.length ≤ 200000 := by rw [hH, List.length_append]; have := HSL.out; have := HNL.out; omega
  have hHp : 0 < H.length := by rw [hH, List.length_append]; have := HNL.out; omega
  have HH := Lib.hid hH
  have H18 : Hid (Below w.heap.size w u4) := Lib.hid ((Below.trans H13.out (Below.mono hbu (Below.size H13.out))))
  have H19 : Hid (TGRow u4 (w.heap.size + 1) K) := Lib.hid ((Whole.below H14.out hbu (Whole.lt H14.out)))
  have H20 : Hid (Bytes u4 (fun _ => True) (.slice B m.length d) m) := Lib.hid ((Bytes.below H15.out hbu (Nat.le_refl _)))
  have H21 : Hid (Bytes u4 (fun _ => True) (.slice A1 (N).length c1) (N)) := Lib.hid ((Bytes.below H16.out hbu (Nat.le_refl _)))
  have H22 : Hid (Bytes u4 (fun _ => True) (.slice A2 (S).length c2) (S)) := Lib.hid ((Bytes.below H17.out hbu (Nat.le_refl _)))
  clear H13 H14 H15 H16 H17
  have H23 : Hid (Bytes u4 (fun _ => True) (.slice A4 (H).length c4) (H)) := Lib.hid ((hv.mono fun _ _ _ => trivial))
  clear H22
  clear H21
  clear hbu hv hH
  have hHl2 : H.length ≤ 100008 := by have h1 := HH.out; rw [h1, List.length_append]; have := HSL.out; have := HNL.out; omega
  have hcl := checkof_ hK H23.out hHl2 (Tables.below HT.out (Nat.le_refl _) H18.out)
  obtain ⟨T, hT⟩ : ∃ T, T = hmac K (boxw ++ H) := ⟨_, rfl⟩
  have hlT : T.length = 32 := by rw [hT]; exact hmac_length _ _
  rw [← hT] at hcl
  have HTT := Lib.hid hT
  clear hT
  go_wp2_with (with_reducible refine wpList_load_tag rfl _ rfl rfl H19.out (tag_size hK) ?_)
  refine hcl.mono ?_
  rintro e u5 ⟨rfl, hbu⟩
  clear hcl
  have hsu5 : u4.heap.size ≤ u5.heap.size := hbu.size
  have H24 : Hid (Below w.heap.size w u5) := Lib.hid ((Below.trans H18.out (Below.mono hbu (Below.size H18.out))))
  have H25 : Hid (TGRow u5 (w.heap.size + 1) K) := Lib.hid ((Whole.below H19.out hbu (Whole.lt H19.out)))
  have H26 : Hid (Bytes u5 (fun _ => True) (.slice B m.length d) m) := Lib.hid ((Bytes.below H20.out hbu (Nat.le_refl _)))
  have H27 : Hid (Bytes u5 (fun _ => True) (.slice A4 (H).length c4) (H)) := Lib.hid ((Bytes.below H23.out hbu (Nat.le_refl _)))
  clear H18 H19 H20 H23
  clear hbu
  go_upto_region 7 with (with_reducible refine wpList_store_tag rfl _ _ rfl (g := u5.heap.size) rfl rfl (Whole.here u5 _ _) rfl (tag_size hlT) (tag_one _) ?_)
  rw [ztr_lit]
  obtain ⟨u6, hu⟩ : ∃ x, x = (u5.alloc (.cells ztr 23)).setRow u5.heap.size (T.map byt).toArray := ⟨_, rfl⟩
  have ht : TGRow u6 u5.heap.size T := by rw [hu]; exact Whole.setRow (Whole.here _ _ _) _
  have hbu : Below u5.heap.size u5 u6 := by rw [hu]; exact below_setRow ((Below.refl _ _).alloc (Nat.le_refl _) _) (Nat.le_refl _) _
  have hsu6 : u5.heap.size < u6.heap.size := ht.lt
  rw [← hu]
  clear hu
  have H28 : Hid (Below w.heap.size w u6) := Lib.hid ((Below.trans H24.out (Below.mono hbu (Below.size H24.out))))
  have H29 : Hid (TGRow u6 (w.heap.size + 1) K) := Lib.hid ((Whole.below H25.out hbu (Whole.lt H25.out)))
  have H30 : Hid (Bytes u6 (fun _ => True) (.slice B m.length d) m) := Lib.hid ((Bytes.below H26.out hbu (Nat.le_refl _)))
  have H31 : Hid (Bytes u6 (fun _ => True) (.slice A4 (H).length c4) (H)) := Lib.hid ((Bytes.below H27.out hbu (Nat.le_refl _)))
  clear H24 H25 H26 H27
  have hby := Whole.bytes ht (by omega)
  rw [hlT] at hby
  clear hbu
  have hst := fun g W => run_sliceAt_whole (P := Tryd.prog) (t := 23) (e := 5) (n := 32) Tryd.underlying23 (by kernel_rfl) g W
  obtain ⟨q7, hq⟩ : ∃ q, q = u6.alloc (.cells #[.slice A4 H.length c4, .slice (some ⟨u5.heap.size, 0, none⟩) 32 32] 40) := ⟨_, rfl⟩
  have hbq : Below u6.heap.size u6 q7 := by rw [hq]; exact (Below.refl _ _).alloc (Nat.le_refl _) _
  have hrow : Whole q7 u6.heap.size 40 #[.slice A4 H.length c4, .slice (some ⟨u5.heap.size, 0, none⟩) 32 32] := by rw [hq]; exact Whole.here _ _ _
  have hsq7 : u6.heap.size + 1 ≤ q7.heap.size := by rw [hq]; simp
  have H32 : Hid (Below w.heap.size w q7) := Lib.hid ((Below.trans H28.out (Below.mono hbq (Below.size H28.out))))
  have H33 : Hid (TGRow q7 (w.heap.size + 1) K) := Lib.hid ((Whole.below H29.out hbq (Whole.lt H29.out)))
  have H34 : Hid (Bytes q7 (fun _ => True) (.slice B m.length d) m) := Lib.hid ((Bytes.below H30.out hbq (Nat.le_refl _)))
  have H35 : Hid (Bytes q7 (fun _ => True) (.slice A4 (H).length c4) (H)) := Lib.hid ((Bytes.below H31.out hbq (Nat.le_refl _)))
  clear H28 H29 H30 H31
  have hcl := concat u6.heap.size _ _ (H) (T) _ _ q7 (hrow.cell 0) (hrow.cell 1) H35.out (hby.below hbq (Nat.le_refl _)) hHp (by omega)
  clear hbq hrow hby ht
  go_wp2_with fail
  rw [← hq]
  clear hq
  refine hcl.mono ?_
  rintro e u8 ⟨v8, rfl, hv, hbu⟩
  clear hcl hst
  have hXF : H ++ T = X := by
    rw [HX.out, HTT.out]
    have : H = boxh K (zn : Int) m := by
      rw [HH.out]
      unfold boxh
      rw [HS.out, HNN.out, show ((zn : Int)).toNat = zn by simp, beval_be8 (by have := HZN.out; omega)]
    rw [this]
  rw [hXF] at hv
  have HV := Lib.hid (hv.mono (Q' := fun g => w.heap.size ≤ g) fun q _ hq => by omega)
  have HG := Lib.hid (Below.trans H32.out (Below.mono hbu (Below.size H32.out)))
  clear hv hbu hXF
  go_wp2_with fail
  go_ret
  exact ⟨⟨_, rfl, HV.out⟩, HG.out⟩
end Go.Proofs.YteglmfimgdgchaaDoor
namespace Go.Proofs.YteglmfimgdgchaaDoor
open Go Go.RowKit Sh Leaf

/-- Behind the region that makes the check. -/
def ChP (p : World) (T : List B8) (v : Value) (W : World) : Prop := ∃ G, v = .pointer (some ⟨G, 0, none⟩) ∧ TGRow W G T ∧ Below p.heap.size p W
set_option linter.unusedSimpArgs false in
set_option linter.unusedVariables false in
set_option maxRecDepth 100000 in
set_option maxHeartbeats 4000000 in
theorem openc (hC : CombOk) {K m : List B8} (hK : K.length = 32) : OpenC K m := by
  intro w Q2 B d hm hT
  obtain ⟨R, hR⟩ : ∃ R, R = cOpen K m := ⟨_, rfl⟩
  rw [← hR]
  unfold cOpen at hR
  obtain ⟨p, hp⟩ : ∃ p, p = w.alloc (.cells (K.map byt).toArray 23) := ⟨_, rfl⟩
  have hk : TGRow p w.heap.size K := by rw [hp]; exact Whole.here _ _ _
  have hb : Below w.heap.size w p := by rw [hp]; exact (Below.refl _ _).alloc (Nat.le_refl _) _
  have hsp : w.heap.size + 1 ≤ p.heap.size := by rw [hp]; simp
  have hmp := hm.below hb (Nat.le_refl _)
  have HT := Lib.hid hT
  by_cases hlo : m.length < 40 ∨ 296 < m.length
  · skip
    rw [if_pos hlo] at hR
    subst hR
    have HB := Lib.hid hb
    clear hk hb hmp hm hT hC
    go_enter Tryd.func55, Tryd.ntmps55
    by_cases h1 : (m.length : Int) < 40
    · skip
      go_upto_region 1 with fail
      rw [← hp]
      clear hp hlo
      go_wp2_with fail
      go_ret2
      exact ⟨⟨_, rfl, Bytes.nil _ _⟩, HB.out⟩
    · skip
      have h2 : (296 : Int) < m.length := by omega
      go_upto_region 1 with fail
      rw [← hp]
      clear hp hlo
      go_wp2_with fail
      go_ret2
      exact ⟨⟨_, rfl, Bytes.nil _ _⟩, HB.out⟩
  · skip
    rw [if_neg hlo] at hR
    obtain ⟨e, he⟩ : ∃ e, m.length = e + 32 := ⟨m.length - 32, by omega⟩
    have he8 : 8 ≤ e := by omega
    have heu : e ≤ 264 := by omega
    rw [show m.length - 32 = e by omega] at hR
    have hme := hmp.take e (by omega)
    have hmd := hmp.drop e (by omega)
    rw [show m.length - e = 32 by omega] at hmd
    have hm8 := hmp.take 8 (by omega)
    have hm9 := hme.drop 8 (by rw [List.length_take]; omega)
    obtain ⟨Y, hY⟩ : ∃ Y, Y = m.take e := ⟨_, rfl⟩
    obtain ⟨D, hD⟩ : ∃ D, D = m.drop e := ⟨_, rfl⟩
    obtain ⟨N, hN⟩ : ∃ N, N = m.take 8 := ⟨_, rfl⟩
    obtain ⟨M, hM⟩ : ∃ M, M = Y.drop 8 := ⟨_, rfl⟩
    have hYl : Y.length = e := by rw [hY, List.length_take]; omega
    have hNl : N.length = 8 := by rw [hN, List.length_take]; omega
    have hMl : M.length = e - 8 := by rw [hM, List.length_drop, hYl]
    rw [← hY] at hme hR hm9
    rw [← hD] at hmd hR
    rw [← hN] at hm8 hR
    rw [← hM] at hm9 hR
    have h1 : ¬ (m.length : Int) < 40 := by omega
    have h2 : ¬ (296 : Int) < m.length := by omega
    have hcd0 : m.length ≤ d ∧ d ≤ maxLen := by
      obtain ⟨Ax, cx, hvx, h1x, h2x, -⟩ := id hmp
      cases hvx
      exact ⟨h1x, h2x⟩
    obtain ⟨hcd, hcd2⟩ := hcd0
    have hed : e ≤ d := by omega
    have h8d : 8 ≤ d := by omega
    have i1 : (e : Int) ≤ (e : Int) + 32 := by omega
    have i2 : (8 : Int) ≤ (d : Int) := by omega
    have i3 : (8 : Int) ≤ (e : Int) := by omega
    obtain ⟨T, hT0⟩ : ∃ T, T = hmac K (boxw ++ Y) := ⟨_, rfl⟩
    have hlT : T.length = 32 := by rw [hT0]; exact hmac_length _ _
    rw [← hT0] at hR
    have HTT := Lib.hid hT0
    have HY := Lib.hid hme
    clear hT0 hY hD hN hM
    have HYl := Lib.hid hYl
    have HNl := Lib.hid hNl
    have HMl := Lib.hid hMl
    have HR := Lib.hid hR
    have HlT := Lib.hid hlT
    have H1 : Hid (Below w.heap.size w p) := Lib.hid (hb)
    have H2 : Hid (TGRow p w.heap.size K) := Lib.hid (hk)
    have H3 : Hid (Bytes p (fun _ => True) (.slice (if d = e then B else Option.map (fun x => x.add e) B) 32 (d - e)) (D)) := Lib.hid ((hmd.mono (Q' := fun _ => True) fun _ _ _ => trivial))
    have H4 : Hid (Bytes p (fun _ => True) (.slice B 8 d) (N)) := Lib.hid ((hm8.mono (Q' := fun _ => True) fun _ _ _ => trivial))
    have H5 : Hid (Bytes p (fun _ => True) (.slice (if d = 8 then B else Option.map (fun x => x.add 8) B) (e - 8) (d - 8)) (M)) := Lib.hid ((hm9.mono (Q' := fun _ => True) fun _ _ _ => trivial))
    clear hk hb hm hT hmp hme hmd hm8 hm9 hR hlT hMl hNl hYl
    go_enter Tryd.func55, Tryd.ntmps55
    go_upto_region 1 with fail
    rw [← hp]
    clear hp hlo
    go_wp2_with fail
    have hcl : ∀ W, Below p.heap.size p W → Calls Tryd.prog 70 #[.agg (K.map byt).toArray, .slice B e d] W fun x w' => x = .returned (tagv T) ∧ Below W.heap.size W w' := fun W hb => by
      have := checkof_ (m := Y) (d := d) hK (by rw [HYl.out]; exact HY.out.below hb (Nat.le_refl _)) (by have := HYl.out; omega) (Tables.below (Tables.below HT.out (Nat.le_refl _) H1.out) (Nat.le_refl _) hb)
      rw [HYl.out, ← HTT.out] at this
      exact this
    have HCL := Lib.hid hcl
    clear hcl
    (try simp only [Act.put])
    go_cut [7] (fun s7 wx => ChP p T s7 wx)
    case first =>
      have hcl := HCL.out
      have hlT := HlT.out
      have hlK := hK
      have hcc : ∀ W, Below p.heap.size p W → (fun W : World => W.rangeAt w.heap.size 0 (K.map byt)) W := fun W hb => TGRow.range (Whole.below H2.out hb (Whole.lt H2.out))
      have HCC := Lib.hid hcc
      clear hcc
      have hb0 : Below p.heap.size p p.drew := Below.drew (Below.refl _ _)
      refine wp_region_held_drew (S := fun W : World => W.rangeAt w.heap.size 0 (K.map byt)) (by kernel_rfl) (HCC.out _ hb0) (fun hHeld => ?_)
      apply wpAnyH_take (i := 0) rfl (by kernel_rfl) (by kernel_rfl) (by kernel_rfl)
      case hQ => exact fun _ _ _ h => h
      case hS => exact hHeld
      case hy => exact yieldsIf_load_mid (by rfl) 23 _ rfl w.heap.size (0) rfl ((K.map byt)) _ (fun w hS => hS) Tryd.underlying23 rfl (by rw [tagSize, List.length_map, hlK])
      (try simp only [List.getElem_toArray, List.getElem_cons_zero, Act.put, List.setIfInBounds_toArray, List.set_cons_zero, List.set_cons_succ])
      apply wpAnyH_take (i := 1) rfl (by kernel_rfl) (by kernel_rfl) (by kernel_rfl)
      case hQ => exact fun _ _ _ h => h
      case hS => exact hHeld
      case hy => (refine Or.inl ⟨by rfl, ?_⟩; intro w hSw; (try go_split_ands); go_simp; (try with_reducible rfl))
      (try simp only [List.getElem_toArray, List.getElem_cons_succ, List.getElem_cons_zero, Act.put, List.setIfInBounds_toArray, List.set_cons_zero, List.set_cons_succ])
      apply wpAnyH_take (i := 2) rfl (by kernel_rfl) (by kernel_rfl) (by kernel_rfl)
      case hQ => exact fun _ _ _ h => h
      case hS => exact hHeld
      case hy => (refine Or.inl ⟨by rfl, ?_⟩; intro w hSw; (try go_split_ands); go_simp; (try with_reducible rfl))
      (try simp only [List.getElem_toArray, List.getElem_cons_succ, List.getElem_cons_zero, Act.put, List.setIfInBounds_toArray, List.set_cons_zero, List.set_cons_succ])
      apply wpAnyH_take (i := 3) rfl (by kernel_rfl) (by kernel_rfl) (by kernel_rfl)
      case hQ => exact fun _ _ _ h => h
      case hS => exact hHeld
      case hy => (refine Or.inl ⟨by rfl, ?_⟩; intro w hSw; (try go_split_ands); go_simp; (try with_reducible rfl))
      (try simp only [List.getElem_toArray, List.getElem_cons_succ, List.getElem_cons_zero, Act.put, List.setIfInBounds_toArray, List.set_cons_zero, List.set_cons_succ])
      refine wpAnyH_ready (rs := [4, 5]) (by kernel_rfl) (by simp) ?_
      refine AllReadyH.cons rfl (fun KK hKK => ?_) (AllReadyH.cons rfl (fun KK hKK => ?_) AllReadyH.nil)
      · (try simp only [List.getElem_toArray, List.getElem_cons_succ, List.getElem_cons_zero])
        go_simp
        go_at_call 70
        refine (hcl _ hb0).mono ?_
        rintro e V1 ⟨rfl, hv1⟩
        have hb1 := Below.trans hb0 (Below.mono hv1 (Below.size hb0))
        refine hKK.out _ _ (HCC.out _ hb1) (fun hHeld => ?_)
        clear hKK KK
        (try simp only [List.getElem_toArray, List.getElem_cons_succ, List.getElem_cons_zero, Act.put, List.setIfInBounds_toArray, List.set_cons_zero, List.set_cons_succ])
        refine wpAnyH_ready (rs := [5]) (by kernel_rfl) (by simp) ?_
        refine AllReadyH.cons rfl (fun KK hKK => ?_) AllReadyH.nil
        (try simp only [List.getElem_toArray, List.getElem_cons_succ, List.getElem_cons_zero])
        go_simp
        rw [ztr_lit]
        obtain ⟨V2, hV2⟩ : ∃ x, x = (V1).alloc (.cells ztr 23) := ⟨_, rfl⟩
        have hv2 : Below V1.heap.size V1 V2 := by rw [hV2]; exact (Below.refl _ _).alloc (Nat.le_refl _) _
        have hb2 : Below p.heap.size p V2 := Below.trans hb1 (Below.mono hv2 (Below.size hb1))
        have nT2 : Whole V2 V1.heap.size 23 ztr := by rw [hV2]; exact Whole.here _ _ _
        have pT2 : p.heap.size ≤ V1.heap.size := Below.size hb1
        rw [← hV2]
        clear hV2
        refine hKK.out _ _ (HCC.out _ hb2) (fun hHeld => ?_)
        clear hKK KK
        (try simp only [List.getElem_toArray, List.getElem_cons_succ, List.getElem_cons_zero, Act.put, List.setIfInBounds_toArray, List.set_cons_zero, List.set_cons_succ])
        refine wpAnyH_ready (rs := [6]) (by kernel_rfl) (by simp) ?_
        refine AllReadyH.cons rfl (fun KK hKK => ?_) AllReadyH.nil
        obtain ⟨V3, hV3⟩ : ∃ x, x = (V2).setRow (V1.heap.size) (T.map byt).toArray := ⟨_, rfl⟩
        have nT3 : Whole V3 (V1.heap.size) 23 (T.map byt).toArray := by rw [hV3]; exact Whole.setRow nT2 _
        have hb3 : Below p.heap.size p V3 := by rw [hV3]; exact below_setRow hb2 pT2 _
        rw [if_pos (by kernel_rfl)]
        refine wp_store_row 23 _ _ rfl (V1.heap.size) _ rfl rfl 23 _ nT2 (by rw [tagSize, tag_size hlT]) (by rw [ztr_size, tag_size hlT]) (tag_one _) ?_
        rw [← hV3]
        clear hV3
        refine hKK.out _ _ (HCC.out _ hb3) (fun hHeld => ?_)
        clear hKK KK
        (try simp only [List.getElem_toArray, List.getElem_cons_succ, List.getElem_cons_zero, Act.put, List.setIfInBounds_toArray, List.set_cons_zero, List.set_cons_succ])
        refine wpAnyH_done (by kernel_rfl) ?_ _
        go_wp2_with fail
        go_meet
        exact ⟨_, rfl, nT3, hb3⟩
      · (try simp only [List.getElem_toArray, List.getElem_cons_succ, List.getElem_cons_zero])
        go_simp
        rw [ztr_lit]
        obtain ⟨V4, hV4⟩ : ∃ x, x = (p.alloc (.cells ztr 23)).drew := ⟨_, rfl⟩
        have hv4 : Below p.heap.size p V4 := by rw [hV4]; exact ((Below.refl _ _).alloc (Nat.le_refl _) _).drew
        have hb4 : Below p.heap.size p V4 := hv4
        have nT4 : Whole V4 p.heap.size 23 ztr := by rw [hV4]; exact Whole.here _ _ _
        have pT4 : p.heap.size ≤ p.heap.size := Nat.le_refl _
        rw [← hV4]
        clear hV4
        refine hKK.out _ _ (HCC.out _ hb4) (fun hHeld => ?_)
        clear hKK KK
        (try simp only [List.getElem_toArray, List.getElem_cons_succ, List.getElem_cons_zero, Act.put, List.setIfInBounds_toArray, List.set_cons_zero, List.set_cons_succ])
        refine wpAnyH_ready (rs := [4]) (by kernel_rfl) (by simp) ?_
        refine AllReadyH.cons rfl (fun KK hKK => ?_) AllReadyH.nil
        (try simp only [List.getElem_toArray, List.getElem_cons_succ, List.getElem_cons_zero])
        go_simp
        go_at_call 70
        refine (hcl _ hb4).mono ?_
        rintro e V5 ⟨rfl, hv5⟩
        have hb5 := Below.trans hb4 (Below.mono hv5 (Below.size hb4))
        have rT5 := Whole.below nT4 hv5 (Whole.lt nT4)
        refine hKK.out _ _ (HCC.out _ hb5) (fun hHeld => ?_)
        clear hKK KK
        (try simp only [List.getElem_toArray, List.getElem_cons_succ, List.getElem_cons_zero, Act.put, List.setIfInBounds_toArray, List.set_cons_zero, List.set_cons_succ])
        refine wpAnyH_ready (rs := [6]) (by kernel_rfl) (by simp) ?_
        refine AllReadyH.cons rfl (fun KK hKK => ?_) AllReadyH.nil
        obtain ⟨V6, hV6⟩ : ∃ x, x = (V5).setRow (p.heap.size) (T.map byt).toArray := ⟨_, rfl⟩
        have nT6 : Whole V6 (p.heap.size) 23 (T.map byt).toArray := by rw [hV6]; exact Whole.setRow rT5 _
        have hb6 : Below p.heap.size p V6 := by rw [hV6]; exact below_setRow hb5 pT4 _
        rw [if_pos (by kernel_rfl)]
        refine wp_store_row 23 _ _ rfl (p.heap.size) _ rfl rfl 23 _ rT5 (by rw [tagSize, tag_size hlT]) (by rw [ztr_size, tag_size hlT]) (tag_one _) ?_
        rw [← hV6]
        clear hV6
        refine hKK.out _ _ (HCC.out _ hb6) (fun hHeld => ?_)
        clear hKK KK
        (try simp only [List.getElem_toArray, List.getElem_cons_succ, List.getElem_cons_zero, Act.put, List.setIfInBounds_toArray, List.set_cons_zero, List.set_cons_succ])
        refine wpAnyH_done (by kernel_rfl) ?_ _
        go_wp2_with fail
        go_meet
        exact ⟨_, rfl, nT6, hb6⟩
    case rest =>
      obtain ⟨GT, rfl, hr, hbu⟩ := hcut
      clear HCL
      rename World => wc
      have hswc : p.heap.size ≤ wc.heap.size := hbu.size
      have H6 : Hid (Below w.heap.size w wc) := Lib.hid ((Below.trans H1.out (Below.mono hbu (Below.size H1.out))))
      have H7 : Hid (TGRow wc w.heap.size K) := Lib.hid ((Whole.below H2.out hbu (Whole.lt H2.out)))
      have H8 : Hid (Bytes wc (fun _ => True) (.slice (if d = e then B else Option.map (fun x => x.add e) B) 32 (d - e)) (D)) := Lib.hid ((Bytes.below H3.out hbu (Nat.le_refl _)))
      have H9 : Hid (Bytes wc (fun _ => True) (.slice B 8 d) (N)) := Lib.hid ((Bytes.below H4.out hbu (Nat.le_refl _)))
      have H10 : Hid (Bytes wc (fun _ => True) (.slice (if d = 8 then B else Option.map (fun x => x.add 8) B) (e - 8) (d - 8)) (M)) := Lib.hid ((Bytes.below H5.out hbu (Nat.le_refl _)))
      clear H1 H2 H3 H4 H5
      have H11 : Hid (TGRow wc GT T) := Lib.hid (hr)
      clear hr hbu
      obtain ⟨q, hq⟩ : ∃ q, q = decide (T = D) := ⟨_, rfl⟩
      have hst := fun g W => run_sliceAt_whole (P := Tryd.prog) (t := 23) (e := 5) (n := 32) Tryd.underlying23 (by kernel_rfl) g W
      have hcl : ∀ W, Below wc.heap.size wc W → Calls Tryd.prog 72 #[.slice (some ⟨GT, 0, none⟩) 32 32, .slice (if d = e then B else Option.map (fun x => x.add e) B) 32 (d - e)] W fun x w' => x = .returned (.bool q) ∧ Below W.heap.size W w' := fun W hb => by
        have hby := Whole.bytes (Whole.below H11.out hb (Whole.lt H11.out)) (by have := HlT.out; omega)
        rw [HlT.out] at hby
        have := equal_ _ _ T D _ _ W hby (H8.out.below hb (Nat.le_refl _)) (by have := HlT.out; omega)
        rw [← hq] at this
        exact this
      have HCL := Lib.hid hcl
      have HQ := Lib.hid hq
      clear hcl hq
      go_upto_region 5 with fail
      have hcc : ∀ W, Below wc.heap.size wc W → (fun W : World => True) W := fun W hb => trivial
      have HCC := Lib.hid hcc
      clear hcc
      have hb0 : Below wc.heap.size wc wc.drew := Below.drew (Below.refl _ _)
      refine wp_region_held_drew (S := fun W : World => True) (by kernel_rfl) (HCC.out _ hb0) (fun hHeld => ?_)
      apply wpAnyH_take (i := 0) rfl (by kernel_rfl) (by kernel_rfl) (by kernel_rfl)
      case hQ => exact fun _ _ _ h => h
      case hS => exact hHeld
      case hy => (refine Or.inl ⟨by rfl, ?_⟩; intro w hSw; (try go_split_ands); go_simp; (try with_reducible rfl))
      (try simp only [List.getElem_toArray, List.getElem_cons_zero, Act.put, List.setIfInBounds_toArray, List.set_cons_zero, List.set_cons_succ])
      apply wpAnyH_take (i := 1) rfl (by kernel_rfl) (by kernel_rfl) (by kernel_rfl)
      case hQ => exact fun _ _ _ h => h
      case hS => exact hHeld
      case hy => (refine Or.inl ⟨by rfl, ?_⟩; intro w hSw; (try go_split_ands); go_simp; (try with_reducible rfl))
      (try simp only [List.getElem_toArray, List.getElem_cons_succ, List.getElem_cons_zero, Act.put, List.setIfInBounds_toArray, List.set_cons_zero, List.set_cons_succ])
      apply wpAnyH_take (i := 2) rfl (by kernel_rfl) (by kernel_rfl) (by kernel_rfl)
      case hQ => exact fun _ _ _ h => h
      case hS => exact hHeld
      case hy => (refine Or.inl ⟨by rfl, ?_⟩; intro w hSw; (try go_split_ands); go_simp; (try with_reducible rfl))
      (try simp only [List.getElem_toArray, List.getElem_cons_succ, List.getElem_cons_zero, Act.put, List.setIfInBounds_toArray, List.set_cons_zero, List.set_cons_succ])
      apply wpAnyH_take (i := 3) rfl (by kernel_rfl) (by kernel_rfl) (by kernel_rfl)
      case hQ => exact fun _ _ _ h => h
      case hS => exact hHeld
      case hy => (refine Or.inl ⟨by rfl, ?_⟩; intro w hSw; (try go_split_ands); go_simp; (try with_reducible rfl))
      (try simp only [List.getElem_toArray, List.getElem_cons_succ, List.getElem_cons_zero, Act.put, List.setIfInBounds_toArray, List.set_cons_zero, List.set_cons_succ])
      refine wpAnyH_ready (rs := [4]) (by kernel_rfl) (by simp) ?_
      refine AllReadyH.cons rfl (fun KK hKK => ?_) AllReadyH.nil
      (try simp only [List.getElem_toArray, List.getElem_cons_succ, List.getElem_cons_zero])
      go_simp
      go_at_call 72
      refine (HCL.out _ hb0).mono ?_
      rintro x V1 ⟨rfl, hv1⟩
      have hv1t := Below.trans hb0 (Below.mono hv1 (Below.size hb0))
      clear hv1
      refine hKK.out _ _ (HCC.out _ hv1t) (fun hHeld => ?_)
      clear hKK KK
      (try simp only [List.getElem_toArray, List.getElem_cons_succ, List.getElem_cons_zero, Act.put, List.setIfInBounds_toArray, List.set_cons_zero, List.set_cons_succ])
      apply wpAnyH_take (i := 5) rfl (by kernel_rfl) (by kernel_rfl) (by kernel_rfl)
      case hQ => exact fun _ _ _ h => h
      case hS => exact hHeld
      case hy => (refine Or.inl ⟨by rfl, ?_⟩; intro w hSw; (try go_split_ands); go_simp; (try with_reducible rfl))
      (try simp only [List.getElem_toArray, List.getElem_cons_succ, List.getElem_cons_zero, Act.put, List.setIfInBounds_toArray, List.set_cons_zero, List.set_cons_succ])
      refine wpAnyH_done (by kernel_rfl) ?_ _
      clear hst HCL
      have hsv1 : wc.heap.size ≤ V1.heap.size := Below.size hv1t
      have H12 : Hid (Below w.heap.size w V1) := Lib.hid ((Below.trans H6.out (Below.mono hv1t (Below.size H6.out))))
      have H13 : Hid (TGRow V1 w.heap.size K) := Lib.hid ((Whole.below H7.out hv1t (Whole.lt H7.out)))
      have H14 : Hid (Bytes V1 (fun _ => True) (.slice (if d = e then B else Option.map (fun x => x.add e) B) 32 (d - e)) (D)) := Lib.hid ((Bytes.below H8.out hv1t (Nat.le_refl _)))
      have H15 : Hid (Bytes V1 (fun _ => True) (.slice B 8 d) (N)) := Lib.hid ((Bytes.below H9.out hv1t (Nat.le_refl _)))
      have H16 : Hid (Bytes V1 (fun _ => True) (.slice (if d = 8 then B else Option.map (fun x => x.add 8) B) (e - 8) (d - 8)) (M)) := Lib.hid ((Bytes.below H10.out hv1t (Nat.le_refl _)))
      have H17 : Hid (TGRow V1 GT T) := Lib.hid ((Whole.below H11.out hv1t (Whole.lt H11.out)))
      clear H6 H7 H8 H9 H10 H11
      clear hv1t
      clear H17
      clear H14
      cases q
      · skip
        have hRR : R = ([], 14) := by rw [HR.out]; exact if_neg (by have := HQ.out; simpa using this)
        subst hRR
        clear HR HQ HTT HY
        go_wp2_with fail
        go_ret2
        exact ⟨⟨_, rfl, Bytes.nil _ _⟩, H12.out⟩
      · skip
        have hRR : R = (strm K (beval N) M, 0) := by rw [HR.out]; exact if_pos (by have := HQ.out; simpa using this)
        obtain ⟨Z, hZ⟩ : ∃ Z, Z = strm K (beval N) M := ⟨_, rfl⟩
        have hlK := hK
        have hcl : ∀ W, Below V1.heap.size V1 W → Calls Tryd.prog 69 #[.agg (K.map byt).toArray, .slice B 8 d, .slice (if d = 8 then B else Option.map (fun x => x.add 8) B) (e - 8) (d - 8)] W fun x w' => (∃ v, x = .returned v ∧ Bytes w' (fun g => W.heap.size ≤ g) v Z) ∧ Below W.heap.size W w' := fun W hb => by
          have := hC W _ _ K N M B (if d = 8 then B else Option.map (fun x => x.add 8) B) d (d - 8) hK HNl.out (by rw [HNl.out]; exact H15.out.below hb (Nat.le_refl _)) (by rw [HMl.out]; exact H16.out.below hb (Nat.le_refl _)) (by have := HMl.out; omega) (Tables.below (Tables.below HT.out (Nat.le_refl _) H12.out) (Nat.le_refl _) hb)
          rw [HNl.out, HMl.out, ← hZ] at this
          exact this
        have HCL := Lib.hid hcl
        rw [← hZ] at hRR
        subst hRR
        clear hcl hZ HR HQ HTT HY
        go_upto_region 7 with fail
        have hcc : ∀ W, Below V1.heap.size V1 W → (fun W : World => W.rangeAt w.heap.size 0 (K.map byt)) W := fun W hb => TGRow.range (Whole.below H13.out hb (Whole.lt H13.out))
        have HCC := Lib.hid hcc
        clear hcc
        have hb0 : Below V1.heap.size V1 V1.drew := Below.drew (Below.refl _ _)
        refine wp_region_held_drew (S := fun W : World => W.rangeAt w.heap.size 0 (K.map byt)) (by kernel_rfl) (HCC.out _ hb0) (fun hHeld => ?_)
        apply wpAnyH_take (i := 0) rfl (by kernel_rfl) (by kernel_rfl) (by kernel_rfl)
        case hQ => exact fun _ _ _ h => h
        case hS => exact hHeld
        case hy => exact yieldsIf_load_mid (by rfl) 23 _ rfl w.heap.size (0) rfl ((K.map byt)) _ (fun w hS => hS) Tryd.underlying23 rfl (by rw [tagSize, List.length_map, hlK])
        (try simp only [List.getElem_toArray, List.getElem_cons_zero, Act.put, List.setIfInBounds_toArray, List.set_cons_zero, List.set_cons_succ])
        apply wpAnyH_take (i := 1) rfl (by kernel_rfl) (by kernel_rfl) (by kernel_rfl)
        case hQ => exact fun _ _ _ h => h
        case hS => exact hHeld
        case hy => (refine Or.inl ⟨by rfl, ?_⟩; intro w hSw; (try go_split_ands); go_simp; (try with_reducible rfl))
        (try simp only [List.getElem_toArray, List.getElem_cons_succ, List.getElem_cons_zero, Act.put, List.setIfInBounds_toArray, List.set_cons_zero, List.set_cons_succ])
        apply wpAnyH_take (i := 2) rfl (by kernel_rfl) (by kernel_rfl) (by kernel_rfl)
        case hQ => exact fun _ _ _ h => h
        case hS => exact hHeld
        case hy => (refine Or.inl ⟨by rfl, ?_⟩; intro w hSw; (try go_split_ands); go_simp; (try with_reducible rfl))
        (try simp only [List.getElem_toArray, List.getElem_cons_succ, List.getElem_cons_zero, Act.put, List.setIfInBounds_toArray, List.set_cons_zero, List.set_cons_succ])
        apply wpAnyH_take (i := 3) rfl (by kernel_rfl) (by kernel_rfl) (by kernel_rfl)
        case hQ => exact fun _ _ _ h => h
        case hS => exact hHeld
        case hy => (refine Or.inl ⟨by rfl, ?_⟩; intro w hSw; (try go_split_ands); go_simp; (try with_reducible rfl))
        (try simp only [List.getElem_toArray, List.getElem_cons_succ, List.getElem_cons_zero, Act.put, List.setIfInBounds_toArray, List.set_cons_zero, List.set_cons_succ])
        apply wpAnyH_take (i := 4) rfl (by kernel_rfl) (by kernel_rfl) (by kernel_rfl)
        case hQ => exact fun _ _ _ h => h
        case hS => exact hHeld
        case hy => (refine Or.inl ⟨by rfl, ?_⟩; intro w hSw; (try go_split_ands); go_simp; (try with_reducible rfl))
        (try simp only [List.getElem_toArray, List.getElem_cons_succ, List.getElem_cons_zero, Act.put, List.setIfInBounds_toArray, List.set_cons_zero, List.set_cons_succ])
        apply wpAnyH_take (i := 5) rfl (by kernel_rfl) (by kernel_rfl) (by kernel_rfl)
        case hQ => exact fun _ _ _ h => h
        case hS => exact hHeld
        case hy => (refine Or.inl ⟨by rfl, ?_⟩; intro w hSw; (try go_split_ands); go_simp; (try with_reducible rfl))
        (try simp only [List.getElem_toArray, List.getElem_cons_succ, List.getElem_cons_zero, Act.put, List.setIfInBounds_toArray, List.set_cons_zero, List.set_cons_succ])
        refine wpAnyH_ready (rs := [6]) (by kernel_rfl) (by simp) ?_
        refine AllReadyH.cons rfl (fun KK hKK => ?_) AllReadyH.nil
        (try simp only [List.getElem_toArray, List.getElem_cons_succ, List.getElem_cons_zero])
        go_simp
        go_at_call 69
        refine (HCL.out _ hb0).mono ?_
        rintro x V2 ⟨⟨v2, rfl, hvz⟩, hv2⟩
        have hv2t := Below.trans hb0 (Below.mono hv2 (Below.size hb0))
        have HV := Lib.hid (hvz.mono (Q' := fun g => w.heap.size ≤ g) fun q _ hq => by have := Below.size hb0; omega)
        clear hvz
        clear hv2
        refine hKK.out _ _ (HCC.out _ hv2t) (fun hHeld => ?_)
        clear hKK KK
        (try simp only [List.getElem_toArray, List.getElem_cons_succ, List.getElem_cons_zero, Act.put, List.setIfInBounds_toArray, List.set_cons_zero, List.set_cons_succ])
        apply wpAnyH_take (i := 7) rfl (by kernel_rfl) (by kernel_rfl) (by kernel_rfl)
        case hQ => exact fun _ _ _ h => h
        case hS => exact hHeld
        case hy => (refine Or.inl ⟨by rfl, ?_⟩; intro w hSw; (try go_split_ands); go_simp; (try with_reducible rfl))
        (try simp only [List.getElem_toArray, List.getElem_cons_succ, List.getElem_cons_zero, Act.put, List.setIfInBounds_toArray, List.set_cons_zero, List.set_cons_succ])
        apply wpAnyH_take (i := 8) rfl (by kernel_rfl) (by kernel_rfl) (by kernel_rfl)
        case hQ => exact fun _ _ _ h => h
        case hS => exact hHeld
        case hy => (refine Or.inl ⟨by rfl, ?_⟩; intro w hSw; (try go_split_ands); go_simp; (try with_reducible rfl))
        (try simp only [List.getElem_toArray, List.getElem_cons_succ, List.getElem_cons_zero, Act.put, List.setIfInBounds_toArray, List.set_cons_zero, List.set_cons_succ])
        refine wpAnyH_done (by kernel_rfl) ?_ _
        have H18 : Hid (Below w.heap.size w V2) := Lib.hid ((Below.trans H12.out (Below.mono hv2t (Below.size H12.out))))
        have H19 : Hid (TGRow V2 w.heap.size K) := Lib.hid ((Whole.below H13.out hv2t (Whole.lt H13.out)))
        have H20 : Hid (Bytes V2 (fun _ => True) (.slice B 8 d) (N)) := Lib.hid ((Bytes.below H15.out hv2t (Nat.le_refl _)))
        have H21 : Hid (Bytes V2 (fun _ => True) (.slice (if d = 8 then B else Option.map (fun x => x.add 8) B) (e - 8) (d - 8)) (M)) := Lib.hid ((Bytes.below H16.out hv2t (Nat.le_refl _)))
        clear H12 H13 H15 H16
        clear hv2t
        go_wp2_with fail
        go_ret2
        exact ⟨⟨_, rfl, HV.out⟩, H18.out⟩
end Go.Proofs.YteglmfimgdgchaaDoor
namespace Go.Proofs.YteglmfimgdgchaaDoor
open Go Go.RowKit Sh Leaf
namespace Sh
theorem strm_strm (K : List B8) (n : Nat) (m : List B8) : strm K n (strm K n m) = m := by
  unfold strm
  refine List.ext_getElem? fun i => ?_
  rw [List.getElem?_mapIdx, List.getElem?_mapIdx]
  cases m[i]? with
  | none => rfl
  | some x =>
    simp only [Option.map_some]
    generalize kstr K n i = y
    congr 1
    rw [BitVec.xor_assoc, BitVec.xor_self, BitVec.xor_zero]
theorem fndo_isSome {l : List Bx} {e : Bx} (h : e ∈ l) : ∃ e' ∈ l, e'.key = e.key ∧ e'.box = e.box ∧ fndo l e.key e.box = some e'.plain := by
  unfold fndo
  cases hf : l.find? (fun x => decide (x.key = e.key ∧ x.box = e.box)) with
  | none => exact absurd (List.find?_eq_none.1 hf e h) (by simp)
  | some x =>
    have := List.find?_some hf
    simp at this
    exact ⟨x, List.mem_of_find?_eq_some hf, this.1, this.2, rfl⟩
/-- The box of a computed algebra opens. -/
theorem cOpen_box (K m : List B8) (z : Nat) (hz : z ≤ 281474976710656) (hm : m.length ≤ 256) : cOpen K (boxh K (z : Int) m ++ hmac K (boxw ++ boxh K (z : Int) m)) = (m, 0) := by
  obtain ⟨H, hH⟩ : ∃ H, H = boxh K (z : Int) m := ⟨_, rfl⟩
  rw [← hH]
  obtain ⟨T, hT⟩ : ∃ T, T = hmac K (boxw ++ H) := ⟨_, rfl⟩
  rw [← hT]
  have hHl : H.length = 8 + m.length := by rw [hH]; unfold boxh; rw [List.length_append, be8_length, strm_length]
  have hTl : T.length = 32 := by rw [hT]; exact hmac_length _ _
  have hl : (H ++ T).length = 40 + m.length := by rw [List.length_append]; omega
  have e1 : (H ++ T).take ((H ++ T).length - 32) = H := by rw [hl, show 40 + m.length - 32 = H.length by omega]; exact List.take_left' rfl
  have e2 : (H ++ T).drop ((H ++ T).length - 32) = T := by rw [hl, show 40 + m.length - 32 = H.length by omega]; exact List.drop_left' rfl
  unfold cOpen
  rw [if_neg (by omega), e1, e2, ← hT, if_pos rfl]
  have e3 : (H ++ T).take 8 = be8 z := by
    rw [hH]; unfold boxh
    rw [List.append_assoc, Int.toNat_natCast]
    exact List.take_left' (be8_length z)
  have e4 : H.drop 8 = strm K z m := by
    rw [hH]; unfold boxh
    rw [Int.toNat_natCast]
    exact List.drop_left' (be8_length z)
  rw [e3, e4, beval_be8 (by omega), strm_strm]
/-- What was sealed is opened. -/
theorem box_back {a b : Alg} {K m X U : List B8} {z : Nat} {e f : Int} (hG : GoodA a) (hz : z ≤ 281474976710656) (hm : m.length ≤ 256) (hl : a.boxes.length ≤ 4) (h1 : (b, X, e) = aSeal a K (z : Int) m) (h2 : (U, f) = aOpen b K X) : e = 0 ∧ f = 0 ∧ U = m ∧ X.length = m.length + 40 := by
  have hgb : GoodA (aSeal a K (z : Int) m).1 := good_seal hG
  rw [← h1] at hgb
  have key : e = 0 ∧ ∃ x ∈ b.boxes, x.key = K ∧ x.plain = m ∧ x.box = X := by
    unfold aSeal at h1
    rw [if_neg (by omega), if_neg (by omega)] at h1
    cases hf : fndb a.boxes K (z : Int) m with
    | some t =>
      rw [hf] at h1
      injection h1 with h1 h3
      injection h3 with h3 h4
      obtain ⟨x, hx, k1, -, k3, k4⟩ := fndb_mem hf
      exact ⟨h4, x, by rw [h1]; exact hx, k1, k3, by rw [k4, h3]⟩
    | none =>
      rw [hf] at h1
      simp only [if_neg (show ¬ 65536 ≤ a.boxes.length by omega)] at h1
      injection h1 with h1 h3
      injection h3 with h3 h4
      exact ⟨h4, ⟨K, (z : Int), m, boxb a K (z : Int) m⟩, by rw [h1]; simp, rfl, rfl, h3.symm⟩
  obtain ⟨rfl, x, hx, rfl, rfl, rfl⟩ := key
  by_cases hfr : b.free = true
  · obtain ⟨y, hy, k1, k2, k3⟩ := fndo_isSome hx
    obtain ⟨i, hi, hie⟩ := List.getElem_of_mem hx
    obtain ⟨j, hj, hje⟩ := List.getElem_of_mem hy
    have t1 := hgb.tb hfr i x (by rw [List.getElem?_eq_getElem hi, hie])
    have t2 := hgb.tb hfr j y (by rw [List.getElem?_eq_getElem hj, hje])
    have hbl : b.boxes.length ≤ 5 := by
      have := seal_le a x.key (z : Int) x.plain
      rw [← h1] at this
      simp only at this
      omega
    have hij : i = j := by
      by_cases q : i = j
      · exact q
      · have e1 := congrArg (List.take 32) k2
        rw [t1, t2, List.take_left' (sym_length _ _), List.take_left' (sym_length _ _)] at e1
        exact absurd e1.symm (sym_ne2 (by omega) (by omega) (by omega) (by omega) (by omega))
    subst hij
    have hxy : x = y := hie.symm.trans hje
    rw [aOpen_free hfr, k3, ← hxy] at h2
    simp at h2
    refine ⟨rfl, h2.2, h2.1, ?_⟩
    rw [t1, List.length_append, sym_length, List.length_replicate]
    omega
  · have hfr : b.free = false := by simpa using hfr
    have hb := hgb.cb hfr x hx
    obtain ⟨n, hn⟩ := Int.eq_ofNat_of_zero_le (hgb.nb x hx).1
    have hn2 := (hgb.nb x hx).2
    rw [hn] at hb hn2
    rw [aOpen_comp hfr, hb, cOpen_box _ _ _ (by omega) hm] at h2
    injection h2 with h2 h3
    refine ⟨rfl, h3, h2, ?_⟩
    rw [hb, List.length_append, hmac_length]
    unfold boxh
    rw [List.length_append, be8_length, strm_length]
    omega
end Sh
end Go.Proofs.YteglmfimgdgchaaDoor
