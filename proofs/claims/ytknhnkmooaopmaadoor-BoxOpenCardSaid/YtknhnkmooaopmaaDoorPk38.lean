/-
  The law BoxOpen.
-/
import Derived.Deep.CutBlock
import Derived.Deep.RegionHeld3
import Derived.Deep.DeepCutAuto
import Derived.Test.YtknhnkmooaopmaaDoorPk22
import Derived.Test.YtknhnkmooaopmaaDoorPk29
import Derived.Test.YtknhnkmooaopmaaDoorPk37
import Derived.Test.YtknhnkmooaopmaaDoorPk30
import Derived.Test.YtknhnkmooaopmaaDoorPk15
import Derived.Test.YtknhnkmooaopmaaDoorPk33
import Derived.Test.YtknhnkmooaopmaaDoorPk11
import Derived.Test.YtknhnkmooaopmaaDoorPk25
namespace Go.Proofs.YtknhnkmooaopmaaDoor
open Go Go.RowKit Sh Leaf

/-- Five slices of bytes, in a row at g1. -/
def ElO (S : List Nat) (g1 : Nat) (f : Nat → Option Addr × Nat × List B8) (W : World) : Prop := Off S g1 ∧ g1 < W.heap.size ∧ ∀ i, i < 5 → W.cell? ⟨g1, i, none⟩ = some (.slice (f i).1 (f i).2.2.length (f i).2.1) ∧ Bytes W (Off S) (.slice (f i).1 (f i).2.2.length (f i).2.1) (f i).2.2 ∧ (f i).2.2.length ≤ 5000
theorem ElO.below {S : List Nat} {g1 : Nat} {f : Nat → Option Addr × Nat × List B8} {W W' : World} (h : ElO S g1 f W) (hb : Below W.heap.size W W') : ElO S g1 f W' :=
  ⟨h.1, Nat.lt_of_lt_of_le h.2.1 hb.size, fun i hi => ⟨(hb.cell (p := ⟨g1, i, none⟩) h.2.1).trans (h.2.2 i hi).1, (h.2.2 i hi).2.1.below hb (Nat.le_refl _), (h.2.2 i hi).2.2⟩⟩
theorem ElO.turn {S : List Nat} {g g1 : Nat} {f : Nat → Option Addr × Nat × List B8} {W W' : World} (h : ElO S g1 f W) (ht : Turn g W W') (hg : g ∈ S) : ElO S g1 f W' :=
  ⟨h.1, Nat.lt_of_lt_of_le h.2.1 (Turn.size ht), fun i hi => ⟨ht.2.2.cell (a := ⟨g1, i, none⟩) (h.1 g hg) (h.2.2 i hi).1, Bytes.turn (h.2.2 i hi).2.1 ht hg, (h.2.2 i hi).2.2⟩⟩
/-- Behind the region that makes the list. -/
def LsO (S : List Nat) (P : World) (s : Value) (wx : World) : Prop := ∃ g1 f, s = .slice (some ⟨g1, 0, none⟩) 5 5 ∧ ElO S g1 f wx ∧ Below P.heap.size P wx
theorem LsO.of {S : List Nat} {P W : World} {A0 A1 A2 A3 A4 : Option Addr} {c0 c1 c2 c3 c4 : Nat} {l0 l1 l2 l3 l4 : List B8} (hb : Below P.heap.size P W) (hS : ∀ y ∈ S, y < P.heap.size)
    (h0 : Bytes W (Off S) (.slice A0 l0.length c0) l0) (h1 : Bytes W (Off S) (.slice A1 l1.length c1) l1) (h2 : Bytes W (Off S) (.slice A2 l2.length c2) l2) (h3 : Bytes W (Off S) (.slice A3 l3.length c3) l3) (h4 : Bytes W (Off S) (.slice A4 l4.length c4) l4)
    (k0 : l0.length ≤ 5000) (k1 : l1.length ≤ 5000) (k2 : l2.length ≤ 5000) (k3 : l3.length ≤ 5000) (k4 : l4.length ≤ 5000) :
    LsO S P (.slice (some ⟨W.heap.size, 0, none⟩) 5 5) (W.alloc (.cells #[.slice A0 l0.length c0, .slice A1 l1.length c1, .slice A2 l2.length c2, .slice A3 l3.length c3, .slice A4 l4.length c4] 23)) := by
  have hba : Below W.heap.size W (W.alloc (.cells #[.slice A0 l0.length c0, .slice A1 l1.length c1, .slice A2 l2.length c2, .slice A3 l3.length c3, .slice A4 l4.length c4] 23)) := (Below.refl _ _).alloc (Nat.le_refl _) _
  refine ⟨W.heap.size, fun i => match i with | 0 => (A0, c0, l0) | 1 => (A1, c1, l1) | 2 => (A2, c2, l2) | 3 => (A3, c3, l3) | _ => (A4, c4, l4), rfl, ⟨fun y hy => ?_, by simp, fun i hi => ?_⟩, hb.trans (hba.mono hb.size)⟩
  · have := hS y hy; have := hb.size; omega
  · have hc : ∀ i v, (#[Value.slice A0 l0.length c0, .slice A1 l1.length c1, .slice A2 l2.length c2, .slice A3 l3.length c3, .slice A4 l4.length c4] : Array Value)[i]? = some v → (W.alloc (.cells #[.slice A0 l0.length c0, .slice A1 l1.length c1, .slice A2 l2.length c2, .slice A3 l3.length c3, .slice A4 l4.length c4] 23)).cell? ⟨W.heap.size, i, none⟩ = some v := fun i v hv => by
      rw [cell_of_row _ _ _ _ _ _ (heap_alloc_new W _)]; exact hv
    match i, hi with
    | 0, _ => exact ⟨hc 0 _ rfl, h0.below hba (Nat.le_refl _), k0⟩
    | 1, _ => exact ⟨hc 1 _ rfl, h1.below hba (Nat.le_refl _), k1⟩
    | 2, _ => exact ⟨hc 2 _ rfl, h2.below hba (Nat.le_refl _), k2⟩
    | 3, _ => exact ⟨hc 3 _ rfl, h3.below hba (Nat.le_refl _), k3⟩
    | 4, _ => exact ⟨hc 4 _ rfl, h4.below hba (Nat.le_refl _), k4⟩
theorem open_len {w : World} {Q : Nat → Prop} {x : Value} {a : Alg} {K m : List B8} (h : AlV w Q x a) (hm : m.length ≤ 5000) : (aOpen a K m).1.length ≤ 5000 := by
  obtain ⟨_, _, _, _, _, _, hB, _⟩ := h
  unfold aOpen
  split
  · split
    · rename_i p hp
      unfold fndo at hp
      obtain ⟨e, he, rfl⟩ := Option.map_eq_some_iff.1 hp
      obtain ⟨j, hj⟩ := List.mem_iff_getElem?.1 (List.mem_of_find?_eq_some he)
      obtain ⟨_, _, _, _, _, _, _, _, _, _, _, _, _, _, _, hp5, _⟩ := Bxs.get hB j e hj
      exact hp5
    · simp
  · split
    · simp
    · split
      · show (strm K _ _).length ≤ 5000
        rw [strm_length, List.length_drop, List.length_take]; omega
      · simp
set_option linter.unusedSimpArgs false in
set_option linter.unusedVariables false in
set_option maxRecDepth 100000 in
set_option maxHeartbeats 8000000 in
theorem bopen_law (A0 : Option Addr) (l0 : List Int) (c0 : Nat) {Q1 : Nat → Prop} (A1 : Option Addr) (r : List B8) (c1 : Nat) {Q2 : Nat → Prop} (A2 : Option Addr) (y : List B8) (c2 : Nat) (za : Int) (x0 : B8) (zc : Int) (w : World) (hT : Tables w) (hI0 : Ints w (fun b => b < w.heap.size) A0 c0 l0) (hB1 : Bytes w Q1 (.slice A1 r.length c1) r) (hB2 : Bytes w Q2 (.slice A2 y.length c2) y) (hi3 : i64q za) (hi5 : i64q zc) :
    Calls Tryd.prog 5 #[.slice A0 l0.length c0, .slice A1 r.length c1, .slice A2 y.length c2, .int .i64 za, .int .u8 (bv x0), .int .i64 zc] w fun e w' => e = .returned (.bool true) ∧ Below w.heap.size w w' := by
  have HT := Lib.hid hT
  clear hT
  have H1 : Hid (Below w.heap.size w w) := Lib.hid (Below.refl _ _)
  obtain ⟨n0, hn0⟩ : ∃ n, n = l0.length := ⟨_, rfl⟩
  rw [← hn0]
  have HI0 := Lib.hid hI0
  have HN0 := Lib.hid hn0
  clear hI0 hn0
  have H2 : Hid (Bytes w (Off []) (.slice A1 r.length c1) r) := Lib.hid (hB1.mono fun _ _ _ => by intro y hy; cases hy)
  clear hB1
  have H3 : Hid (Bytes w (Off []) (.slice A2 y.length c2) y) := Lib.hid (hB2.mono fun _ _ _ => by intro y hy; cases hy)
  clear hB2
  have HCX := H2.out.cut 400
  have EX : min (r.length : Int) 400 = ((r.take 400).length : Int) := by rw [List.length_take]; omega
  have hqX : (r.take 400).length ≤ 400 := by simp; omega
  obtain ⟨A9, c9, e9, h1X, h2X, h3X, -⟩ := id HCX
  cases e9
  generalize r.take 400 = X at *
  clear H2 h3X
  have HCY := H3.out.cut 100
  have EY : min (y.length : Int) 100 = ((y.take 100).length : Int) := by rw [List.length_take]; omega
  have hqY : (y.take 100).length ≤ 100 := by simp; omega
  obtain ⟨A9, c9, e9, h1Y, h2Y, h3Y, -⟩ := id HCY
  cases e9
  generalize y.take 100 = Y at *
  clear H3 h3Y
  have H4 : Hid (Bytes w (Off []) (.slice A1 X.length c1) X) := Lib.hid (HCX)
  have H5 : Hid (Bytes w (Off []) (.slice A2 Y.length c2) Y) := Lib.hid (HCY)
  clear HCX HCY
  go_enter Tryd.func5, Tryd.ntmps5
  have c1X : (X.length : Int) ≤ (c1 : Int) := by omega
  have c1Y : (Y.length : Int) ≤ (c2 : Int) := by omega
  go_upto_region 1 with fail
  have hcc : ∀ W, Below w.heap.size w W → (fun W : World => True) W := fun W hb => trivial
  have HCC := Lib.hid hcc
  clear hcc
  have hb0 : Below w.heap.size w w.drew := Below.drew (Below.refl _ _)
  refine wp_region_held_drew (S := fun W : World => True) (by kernel_rfl) (HCC.out _ hb0) (fun hHeld => ?_)
  apply wpAnyH_take (i := 0) rfl (by kernel_rfl) (by kernel_rfl) (by kernel_rfl)
  case hQ => exact fun _ _ _ h => h
  case hS => exact hHeld
  case hy => (refine Or.inl ⟨by rfl, ?_⟩; intro w hSw; (try go_split_ands); go_simp; (try with_reducible rfl))
  (try simp only [List.getElem_toArray, List.getElem_cons_zero, Act.put, List.setIfInBounds_toArray, List.set_cons_zero, List.set_cons_succ])
  apply wpAnyH_take (i := 1) rfl (by kernel_rfl) (by kernel_rfl) (by kernel_rfl)
  case hQ => exact fun _ _ _ h => h
  case hS => exact hHeld
  case hy => (refine Or.inl ⟨by rfl, ?_⟩; intro w hSw; (try go_split_ands); go_simp; (try with_reducible rfl))
  (try simp only [List.getElem_toArray, List.getElem_cons_succ, List.getElem_cons_zero, Act.put, List.setIfInBounds_toArray, List.set_cons_zero, List.set_cons_succ])
  apply wpAnyH_take (i := 2) rfl (by kernel_rfl) (by kernel_rfl) (by kernel_rfl)
  case hQ => exact fun _ _ _ h => h
  case hS => exact hHeld
  case hy => (refine Or.inl ⟨by rfl, ?_⟩; intro w hSw; (try go_split_ands); go_simp; (try with_reducible rfl))
  (try simp only [List.getElem_toArray, List.getElem_cons_succ, List.getElem_cons_zero, Act.put, List.setIfInBounds_toArray, List.set_cons_zero, List.set_cons_succ])
  apply wpAnyH_take (i := 3) rfl (by kernel_rfl) (by kernel_rfl) (by kernel_rfl)
  case hQ => exact fun _ _ _ h => h
  case hS => exact hHeld
  case hy => (refine Or.inl ⟨by rfl, ?_⟩; intro w hSw; (try go_split_ands); go_simp; (try with_reducible rfl))
  (try simp only [List.getElem_toArray, List.getElem_cons_succ, List.getElem_cons_zero, Act.put, List.setIfInBounds_toArray, List.set_cons_zero, List.set_cons_succ])
  apply wpAnyH_take (i := 4) rfl (by kernel_rfl) (by kernel_rfl) (by kernel_rfl)
  case hQ => exact fun _ _ _ h => h
  case hS => exact hHeld
  case hy => (refine Or.inl ⟨by rfl, ?_⟩; intro w hSw; (try go_split_ands); go_simp; (try with_reducible rfl))
  (try simp only [List.getElem_toArray, List.getElem_cons_succ, List.getElem_cons_zero, Act.put, List.setIfInBounds_toArray, List.set_cons_zero, List.set_cons_succ])
  apply wpAnyH_take (i := 5) rfl (by kernel_rfl) (by kernel_rfl) (by kernel_rfl)
  case hQ => exact fun _ _ _ h => h
  case hS => exact hHeld
  case hy => (refine Or.inl ⟨by rfl, ?_⟩; intro w hSw; (try go_split_ands); go_simp; (try with_reducible rfl))
  (try simp only [List.getElem_toArray, List.getElem_cons_succ, List.getElem_cons_zero, Act.put, List.setIfInBounds_toArray, List.set_cons_zero, List.set_cons_succ])
  apply wpAnyH_take (i := 6) rfl (by kernel_rfl) (by kernel_rfl) (by kernel_rfl)
  case hQ => exact fun _ _ _ h => h
  case hS => exact hHeld
  case hy => (refine Or.inl ⟨by rfl, ?_⟩; intro w hSw; (try go_split_ands); go_simp; (try with_reducible rfl))
  (try simp only [List.getElem_toArray, List.getElem_cons_succ, List.getElem_cons_zero, Act.put, List.setIfInBounds_toArray, List.set_cons_zero, List.set_cons_succ])
  apply wpAnyH_take (i := 7) rfl (by kernel_rfl) (by kernel_rfl) (by kernel_rfl)
  case hQ => exact fun _ _ _ h => h
  case hS => exact hHeld
  case hy => (refine Or.inl ⟨by rfl, ?_⟩; intro w hSw; (try go_split_ands); go_simp; (try with_reducible rfl))
  (try simp only [List.getElem_toArray, List.getElem_cons_succ, List.getElem_cons_zero, Act.put, List.setIfInBounds_toArray, List.set_cons_zero, List.set_cons_succ])
  apply wpAnyH_take (i := 8) rfl (by kernel_rfl) (by kernel_rfl) (by kernel_rfl)
  case hQ => exact fun _ _ _ h => h
  case hS => exact hHeld
  case hy => (refine Or.inl ⟨by rfl, ?_⟩; intro w hSw; (try go_split_ands); go_simp; (try with_reducible rfl))
  (try simp only [List.getElem_toArray, List.getElem_cons_succ, List.getElem_cons_zero, Act.put, List.setIfInBounds_toArray, List.set_cons_zero, List.set_cons_succ])
  apply wpAnyH_take (i := 9) rfl (by kernel_rfl) (by kernel_rfl) (by kernel_rfl)
  case hQ => exact fun _ _ _ h => h
  case hS => exact hHeld
  case hy => (refine Or.inl ⟨by rfl, ?_⟩; intro w hSw; (try go_split_ands); go_simp; (try with_reducible rfl))
  (try simp only [List.getElem_toArray, List.getElem_cons_succ, List.getElem_cons_zero, Act.put, List.setIfInBounds_toArray, List.set_cons_zero, List.set_cons_succ])
  apply wpAnyH_take (i := 10) rfl (by kernel_rfl) (by kernel_rfl) (by kernel_rfl)
  case hQ => exact fun _ _ _ h => h
  case hS => exact hHeld
  case hy => (refine Or.inl ⟨by rfl, ?_⟩; intro w hSw; (try go_split_ands); go_simp; (try with_reducible rfl))
  (try simp only [List.getElem_toArray, List.getElem_cons_succ, List.getElem_cons_zero, Act.put, List.setIfInBounds_toArray, List.set_cons_zero, List.set_cons_succ])
  apply wpAnyH_take (i := 11) rfl (by kernel_rfl) (by kernel_rfl) (by kernel_rfl)
  case hQ => exact fun _ _ _ h => h
  case hS => exact hHeld
  case hy => (refine Or.inl ⟨by rfl, ?_⟩; intro w hSw; (try go_split_ands); go_simp; (try with_reducible rfl))
  (try simp only [List.getElem_toArray, List.getElem_cons_succ, List.getElem_cons_zero, Act.put, List.setIfInBounds_toArray, List.set_cons_zero, List.set_cons_succ])
  refine wpAnyH_done (by kernel_rfl) ?_ _
  have H6 : Hid (Below w.heap.size w w.drew) := Lib.hid ((Below.trans H1.out (Below.mono hb0 (Below.size H1.out))))
  have H7 : Hid (Bytes w.drew (Off []) (.slice A1 X.length c1) X) := Lib.hid ((Bytes.below H4.out hb0 (Nat.le_refl _)))
  have H8 : Hid (Bytes w.drew (Off []) (.slice A2 Y.length c2) Y) := Lib.hid ((Bytes.below H5.out hb0 (Nat.le_refl _)))
  clear H1 H4 H5
  obtain ⟨wd0, hwd0⟩ : ∃ q, q = w.drew := ⟨_, rfl⟩
  rw [← hwd0] at H6 H7 H8
  rw [← hwd0]
  have hswd0 : w.heap.size = wd0.heap.size := by rw [hwd0]; rfl
  clear hwd0 hb0 HCC
  clear EX EY h1X h1Y h2X h2Y c1X c1Y
  have hcl := dnew A0 _ c0 l0 wd0 HN0.out ((HI0.out.below H6.out).mono (Below.size H6.out))
  go_wp2_with fail
  refine hcl.mono ?_
  rintro e d0 ⟨rfl, hdk, hbu⟩
  clear hcl
  have hsd0 : wd0.heap.size < d0.heap.size := hdk.lt
  have H9 : Hid (Bytes wd0 (Off [wd0.heap.size]) (.slice A1 X.length c1) X) := Lib.hid (Bytes.grow H7.out (by omega))
  have H10 : Hid (Bytes wd0 (Off [wd0.heap.size]) (.slice A2 Y.length c2) Y) := Lib.hid (Bytes.grow H8.out (by omega))
  clear H7 H8
  have H11 : Hid (Below w.heap.size w d0) := Lib.hid ((Below.trans H6.out (Below.mono hbu (Below.size H6.out))))
  have H12 : Hid (Bytes d0 (Off [wd0.heap.size]) (.slice A1 X.length c1) X) := Lib.hid ((Bytes.below H9.out hbu (Nat.le_refl _)))
  have H13 : Hid (Bytes d0 (Off [wd0.heap.size]) (.slice A2 Y.length c2) Y) := Lib.hid ((Bytes.below H10.out hbu (Nat.le_refl _)))
  clear H6 H9 H10
  have H14 : Hid (Deck wd0.heap.size d0) := Lib.hid (hdk)
  clear hdk hbu HI0 HN0
  have hcl := dalg wd0.heap.size d0 H14.out
  go_wp2_with fail
  refine hcl.mono ?_
  rintro e u1 ⟨⟨v, a, rfl, hv, h4a, hb4a, hf4a, hgd⟩, ht⟩
  clear hcl
  have HGa := Lib.hid hgd
  obtain ⟨Ama, cma, Aba, cba, rfl, hM, hBx, hA⟩ := hv
  have hsla : a.seed.length = 32 := hA.seed
  have hfra : 0 ≤ a.fresh := hA.lo
  have hsu1 : d0.heap.size ≤ u1.heap.size := Turn.size ht
  have H15 : Hid (Below w.heap.size w u1) := Lib.hid ((base_turn H11.out ht (by omega)))
  have H16 : Hid (Bytes u1 (Off [wd0.heap.size]) (.slice A1 X.length c1) X) := Lib.hid ((Bytes.turn H12.out ht (by simp)))
  have H17 : Hid (Bytes u1 (Off [wd0.heap.size]) (.slice A2 Y.length c2) Y) := Lib.hid ((Bytes.turn H13.out ht (by simp)))
  have H18 : Hid (Deck wd0.heap.size u1) := Lib.hid ((ht).1)
  clear H11 H12 H13 H14
  have H19 : Hid (AlV u1 (Off [wd0.heap.size]) (.agg (alc a.free a.seed a.fresh (.slice Ama a.macs.length cma) (.slice Aba a.boxes.length cba))) a) := Lib.hid (AlV.mono ⟨Ama, cma, Aba, cba, rfl, hM, hBx, hA⟩ (fun _ _ h => off_one h))
  clear hM hBx hA ht hgd
  have ks0 : ∀ z0 : Array Value, Whole (u1.alloc (.cells z0 32)) u1.heap.size 32 z0 := fun _ => (Whole.here _ _ _)
  go_upto_region 4 with (with_reducible refine wpList_store_alg rfl _ _ rfl (g := u1.heap.size) rfl rfl (ks0 _) rfl (alc_size _ _ _ _ _) (alc_one _ _ _ _ _ _ _ _ _) ?_)
  clear ks0
  rw [zar_lit]
  obtain ⟨q2, hq⟩ : ∃ q, q = ((u1.alloc (.cells zar 32)).setRow u1.heap.size (alc a.free a.seed a.fresh (.slice Ama a.macs.length cma) (.slice Aba a.boxes.length cba))) := ⟨_, rfl⟩
  rw [← hq]
  have hsq2 : u1.heap.size + 1 ≤ q2.heap.size := by rw [hq]; simp
  have H20 : Hid (Below w.heap.size w q2) := Lib.hid (by rw [hq]; exact (below_setRow (Below.trans H15.out (Below.mono (Below.alloc (Below.refl _ _) (Nat.le_refl _) _) (Below.size H15.out))) (by omega) _))
  have H21 : Hid (Bytes q2 (Off [u1.heap.size, wd0.heap.size]) (.slice A1 X.length c1) X) := Lib.hid (by rw [hq]; exact (Bytes.store (Bytes.below (Bytes.grow H16.out (by omega)) (Below.alloc (Below.refl _ _) (Nat.le_refl _) _) (Nat.le_refl _)) (by simp) _))
  have H22 : Hid (Bytes q2 (Off [u1.heap.size, wd0.heap.size]) (.slice A2 Y.length c2) Y) := Lib.hid (by rw [hq]; exact (Bytes.store (Bytes.below (Bytes.grow H17.out (by omega)) (Below.alloc (Below.refl _ _) (Nat.le_refl _) _) (Nat.le_refl _)) (by simp) _))
  have H23 : Hid (Deck wd0.heap.size q2) := Lib.hid (by rw [hq]; exact (Deck.store (Deck.below H18.out (Below.alloc (Below.refl _ _) (Nat.le_refl _) _) (Deck.lt H18.out)) (by omega) _))
  have H24 : Hid (AlV q2 (Off [u1.heap.size, wd0.heap.size]) (.agg (alc a.free a.seed a.fresh (.slice Ama a.macs.length cma) (.slice Aba a.boxes.length cba))) a) := Lib.hid (by rw [hq]; exact (AlV.store (AlV.below (AlV.grow H19.out (by omega)) (Below.alloc (Below.refl _ _) (Nat.le_refl _) _) (Nat.le_refl _)) (by simp) _))
  clear H15 H16 H17 H18 H19
  have H25 : Hid (ALRow q2 u1.heap.size a.free a.seed a.fresh (.slice Ama a.macs.length cma) (.slice Aba a.boxes.length cba)) := Lib.hid (by rw [hq]; exact (Whole.setRow (Whole.here _ _ _) _))
  clear hq
  have hcl := dknown wd0.heap.size q2 H23.out H24.out (fun b h => h _ (by simp))
  go_wp2_with (with_reducible refine wpList_load_alg rfl _ rfl rfl H25.out (alc_size _ _ _ _ _) ?_)
  refine hcl.mono ?_
  rintro e u3 ⟨⟨K, hlK, rfl⟩, ht⟩
  clear hcl
  have hsu3 : q2.heap.size ≤ u3.heap.size := Turn.size ht
  have H26 : Hid (Below w.heap.size w u3) := Lib.hid ((base_turn H20.out ht (by omega)))
  have H27 : Hid (Bytes u3 (Off [u1.heap.size, wd0.heap.size]) (.slice A1 X.length c1) X) := Lib.hid ((Bytes.turn H21.out ht (by simp)))
  have H28 : Hid (Bytes u3 (Off [u1.heap.size, wd0.heap.size]) (.slice A2 Y.length c2) Y) := Lib.hid ((Bytes.turn H22.out ht (by simp)))
  have H29 : Hid (Deck wd0.heap.size u3) := Lib.hid ((ht).1)
  have H30 : Hid (AlV u3 (Off [u1.heap.size, wd0.heap.size]) (.agg (alc a.free a.seed a.fresh (.slice Ama a.macs.length cma) (.slice Aba a.boxes.length cba))) a) := Lib.hid ((AlV.turn H24.out ht (by simp) (Turn.size ht)))
  have H31 : Hid (ALRow u3 u1.heap.size a.free a.seed a.fresh (.slice Ama a.macs.length cma) (.slice Aba a.boxes.length cba)) := Lib.hid (((ht).2.2.oth _ _ _ (by omega) H25.out))
  clear H20 H21 H22 H23 H24 H25
  clear ht
  have ks0 : ∀ z0 : Array Value, Whole (u3.alloc (.cells z0 28)) u3.heap.size 28 z0 := fun _ => (Whole.here _ _ _)
  go_upto_region 5 with (with_reducible refine wpList_store_tag rfl _ _ rfl (g := u3.heap.size) rfl rfl (ks0 _) rfl (tag_size hlK) (tag_one _) ?_)
  clear ks0
  rw [ztr_lit]
  obtain ⟨q4, hq⟩ : ∃ q, q = ((u3.alloc (.cells ztr 28)).setRow u3.heap.size (K.map byt).toArray) := ⟨_, rfl⟩
  rw [← hq]
  have hsq4 : u3.heap.size + 1 ≤ q4.heap.size := by rw [hq]; simp
  have H32 : Hid (Below w.heap.size w q4) := Lib.hid (by rw [hq]; exact (below_setRow (Below.trans H26.out (Below.mono (Below.alloc (Below.refl _ _) (Nat.le_refl _) _) (Below.size H26.out))) (by omega) _))
  have H33 : Hid (Bytes q4 (Off [u3.heap.size, u1.heap.size, wd0.heap.size]) (.slice A1 X.length c1) X) := Lib.hid (by rw [hq]; exact (Bytes.store (Bytes.below (Bytes.grow H27.out (by omega)) (Below.alloc (Below.refl _ _) (Nat.le_refl _) _) (Nat.le_refl _)) (by simp) _))
  have H34 : Hid (Bytes q4 (Off [u3.heap.size, u1.heap.size, wd0.heap.size]) (.slice A2 Y.length c2) Y) := Lib.hid (by rw [hq]; exact (Bytes.store (Bytes.below (Bytes.grow H28.out (by omega)) (Below.alloc (Below.refl _ _) (Nat.le_refl _) _) (Nat.le_refl _)) (by simp) _))
  have H35 : Hid (Deck wd0.heap.size q4) := Lib.hid (by rw [hq]; exact (Deck.store (Deck.below H29.out (Below.alloc (Below.refl _ _) (Nat.le_refl _) _) (Deck.lt H29.out)) (by omega) _))
  have H36 : Hid (AlV q4 (Off [u3.heap.size, u1.heap.size, wd0.heap.size]) (.agg (alc a.free a.seed a.fresh (.slice Ama a.macs.length cma) (.slice Aba a.boxes.length cba))) a) := Lib.hid (by rw [hq]; exact (AlV.store (AlV.below (AlV.grow H30.out (by omega)) (Below.alloc (Below.refl _ _) (Nat.le_refl _) _) (Nat.le_refl _)) (by simp) _))
  have H37 : Hid (ALRow q4 u1.heap.size a.free a.seed a.fresh (.slice Ama a.macs.length cma) (.slice Aba a.boxes.length cba)) := Lib.hid (by rw [hq]; exact (Whole.setRow_far (Whole.below H31.out (Below.alloc (Below.refl _ _) (Nat.le_refl _) _) (Whole.lt H31.out)) (by omega) _))
  clear H26 H27 H28 H29 H30 H31
  have H38 : Hid (TGRow q4 u3.heap.size K) := Lib.hid (by rw [hq]; exact (Whole.setRow (Whole.here _ _ _) _))
  clear hq
  obtain ⟨hd5a, hd5b⟩ : (0 : Int) < 5 ∧ (5 : Int) ≤ 1152921504606846976 := ⟨by omega, by omega⟩
  go_upto_region 5 with fail
  (try simp only [Act.put])
  go_cut [16, 17] (fun s16 s17 wx => ∃ (z : Nat) (b : Alg) (Z : List B8) (eb : Int) (Amb : Option Addr) (cmb : Nat) (Abb : Option Addr) (cbb : Nat) (AZ : Option Addr) (cZ : Nat), (z : Int) < 5 ∧ (b, Z, eb) = aSeal a K (z : Int) Y ∧ s16 = .slice AZ Z.length cZ ∧ Deck wd0.heap.size wx ∧ Below w.heap.size w wx ∧ q4.heap.size ≤ wx.heap.size ∧ ALRow wx u1.heap.size b.free b.seed b.fresh (.slice Amb b.macs.length cmb) (.slice Abb b.boxes.length cbb) ∧ TGRow wx u3.heap.size K ∧ AlV wx (Off [u3.heap.size, u1.heap.size, wd0.heap.size]) (.agg (alc b.free b.seed b.fresh (.slice Amb b.macs.length cmb) (.slice Abb b.boxes.length cbb))) b ∧ Bytes wx (Off [u3.heap.size, u1.heap.size, wd0.heap.size]) (.slice AZ Z.length cZ) Z ∧ Bytes wx (Off [u3.heap.size, u1.heap.size, wd0.heap.size]) (.slice A1 X.length c1) X)
  case first =>
    have hbd : Below q4.heap.size q4 q4.drew := Below.drew (Below.refl _ _)
    have hsd : q4.drew.heap.size = q4.heap.size := rfl
    have H39 : Hid (Below w.heap.size w q4.drew) := Lib.hid ((Below.trans H32.out (Below.mono hbd (Below.size H32.out))))
    have H40 : Hid (Bytes q4.drew (Off [u3.heap.size, u1.heap.size, wd0.heap.size]) (.slice A1 X.length c1) X) := Lib.hid ((Bytes.below H33.out hbd (Nat.le_refl _)))
    have H41 : Hid (Bytes q4.drew (Off [u3.heap.size, u1.heap.size, wd0.heap.size]) (.slice A2 Y.length c2) Y) := Lib.hid ((Bytes.below H34.out hbd (Nat.le_refl _)))
    have H42 : Hid (Deck wd0.heap.size q4.drew) := Lib.hid ((Deck.below H35.out hbd (Deck.lt H35.out)))
    have H43 : Hid (AlV q4.drew (Off [u3.heap.size, u1.heap.size, wd0.heap.size]) (.agg (alc a.free a.seed a.fresh (.slice Ama a.macs.length cma) (.slice Aba a.boxes.length cba))) a) := Lib.hid ((AlV.below H36.out hbd (Nat.le_refl _)))
    have H44 : Hid (ALRow q4.drew u1.heap.size a.free a.seed a.fresh (.slice Ama a.macs.length cma) (.slice Aba a.boxes.length cba)) := Lib.hid ((Whole.below H37.out hbd (Whole.lt H37.out)))
    have H45 : Hid (TGRow q4.drew u3.heap.size K) := Lib.hid ((Whole.below H38.out hbd (Whole.lt H38.out)))
    clear H32 H33 H34 H35 H36 H37 H38
    refine wp_region_G (fun W : World => W.rangeAt u1.heap.size 0 (alcl a.free a.seed a.fresh (.slice Ama a.macs.length cma) (.slice Aba a.boxes.length cba)) ∧ W.rangeAt u3.heap.size 0 (K.map byt)) (fun _ => True) [10] (by kernel_rfl) ?_
    have hHeld : (fun W : World => W.rangeAt u1.heap.size 0 (alcl a.free a.seed a.fresh (.slice Ama a.macs.length cma) (.slice Aba a.boxes.length cba)) ∧ W.rangeAt u3.heap.size 0 (K.map byt)) q4.drew := ⟨Whole.range H44.out, TGRow.range H45.out⟩
    apply AnyG_take (i := 0) rfl (by kernel_rfl) (by kernel_rfl) (by kernel_rfl) (by kernel_rfl)
    case hQ => exact fun _ _ _ h => h
    case hB => exact trivial
    case hC => exact hHeld
    case hy => exact yieldsIf_load_mid (by rfl) 32 _ rfl u1.heap.size (0) rfl (alcl a.free a.seed a.fresh (.slice Ama a.macs.length cma) (.slice Aba a.boxes.length cba)) _ (fun w hS => hS.1) Tryd.underlying32 rfl (by rw [algSize, alcl_length])
    (try simp only [List.getElem_toArray, List.getElem_cons_zero, Act.put, List.setIfInBounds_toArray, List.set_cons_zero, List.set_cons_succ])
    apply AnyG_take (i := 1) rfl (by kernel_rfl) (by kernel_rfl) (by kernel_rfl) (by kernel_rfl)
    case hQ => exact fun _ _ _ h => h
    case hB => exact trivial
    case hC => exact hHeld
    case hy => exact yieldsIf_load_mid (by rfl) 28 _ rfl u3.heap.size (0) rfl (K.map byt) _ (fun w hS => hS.2) Tryd.underlying28 rfl (by rw [tagSize, List.length_map, hlK])
    (try simp only [List.getElem_toArray, List.getElem_cons_succ, List.getElem_cons_zero, Act.put, List.setIfInBounds_toArray, List.set_cons_zero, List.set_cons_succ])
    apply AnyG_pure (i := 2) rfl (by kernel_rfl) (by kernel_rfl) (by kernel_rfl) (by kernel_rfl)
    case hQ => exact fun _ _ _ h => h
    case hB => exact trivial
    case hC => exact .inr hHeld
    case hy => (refine Or.inl ⟨by rfl, ?_⟩; intro w hSw; (try go_split_ands); go_simp; (try with_reducible rfl))
    (try simp only [List.getElem_toArray, List.getElem_cons_succ, List.getElem_cons_zero, Act.put, List.setIfInBounds_toArray, List.set_cons_zero, List.set_cons_succ])
    apply AnyG_pure (i := 4) rfl (by kernel_rfl) (by kernel_rfl) (by kernel_rfl) (by kernel_rfl)
    case hQ => exact fun _ _ _ h => h
    case hB => exact trivial
    case hC => exact .inr hHeld
    case hy => (refine Or.inl ⟨by rfl, ?_⟩; intro w hSw; (try go_split_ands); go_simp; (try with_reducible rfl))
    (try simp only [List.getElem_toArray, List.getElem_cons_succ, List.getElem_cons_zero, Act.put, List.setIfInBounds_toArray, List.set_cons_zero, List.set_cons_succ])
    refine AnyG_one (i := 3) (by kernel_rfl) rfl (fun KK hKK => ?_)
    (try simp only [List.getElem_toArray, List.getElem_cons_succ, List.getElem_cons_zero])
    go_simp
    go_at_call 20
    refine (dnext 5 hd5a hd5b wd0.heap.size q4.drew H42.out).mono ?_
    rintro e V1 ⟨z, hz1, rfl, ht⟩
    have hsV1 : q4.heap.size ≤ V1.heap.size := (show q4.drew.heap.size ≤ V1.heap.size from Turn.size ht)
    have H46 : Hid (Below w.heap.size w V1) := Lib.hid ((base_turn H39.out ht (by omega)))
    have H47 : Hid (Bytes V1 (Off [u3.heap.size, u1.heap.size, wd0.heap.size]) (.slice A1 X.length c1) X) := Lib.hid ((Bytes.turn H40.out ht (by simp)))
    have H48 : Hid (Bytes V1 (Off [u3.heap.size, u1.heap.size, wd0.heap.size]) (.slice A2 Y.length c2) Y) := Lib.hid ((Bytes.turn H41.out ht (by simp)))
    have H49 : Hid (Deck wd0.heap.size V1) := Lib.hid ((ht).1)
    have H50 : Hid (AlV V1 (Off [u3.heap.size, u1.heap.size, wd0.heap.size]) (.agg (alc a.free a.seed a.fresh (.slice Ama a.macs.length cma) (.slice Aba a.boxes.length cba))) a) := Lib.hid ((AlV.turn H43.out ht (by simp) (Turn.size ht)))
    have H51 : Hid (ALRow V1 u1.heap.size a.free a.seed a.fresh (.slice Ama a.macs.length cma) (.slice Aba a.boxes.length cba)) := Lib.hid (((ht).2.2.oth _ _ _ (by omega) H44.out))
    have H52 : Hid (TGRow V1 u3.heap.size K) := Lib.hid (((ht).2.2.oth _ _ _ (by omega) H45.out))
    clear H39 H40 H41 H42 H43 H44 H45
    clear ht
    clear hHeld
    have hHeld : (fun W : World => W.rangeAt u1.heap.size 0 (alcl a.free a.seed a.fresh (.slice Ama a.macs.length cma) (.slice Aba a.boxes.length cba)) ∧ W.rangeAt u3.heap.size 0 (K.map byt)) V1 := ⟨Whole.range H51.out, TGRow.range H52.out⟩
    refine hKK.out _ _ (.inr hHeld) trivial ?_
    clear hKK KK
    (try simp only [List.getElem_toArray, List.getElem_cons_succ, List.getElem_cons_zero, Act.put, List.setIfInBounds_toArray, List.set_cons_zero, List.set_cons_succ])
    refine AnyG_one (i := 5) (by kernel_rfl) rfl (fun KK hKK => ?_)
    (try simp only [List.getElem_toArray, List.getElem_cons_succ, List.getElem_cons_zero])
    have hcl := rseal (z := (z : Int)) (m := Y) H50.out (by omega) hlK ⟨by omega, by omega⟩ H48.out (by omega)
    obtain ⟨R, hR⟩ : ∃ R, R = aSeal a K (z : Int) Y := ⟨_, rfl⟩
    rw [← hR] at hcl
    obtain ⟨b, Z, eb⟩ := R
    have HEb := Lib.hid hR
    clear hR
    dsimp only [SeR] at hcl
    go_simp
    go_at_call 17
    refine hcl.mono ?_
    rintro e V2 ⟨⟨xv, vv, rfl, hx, hv⟩, hbu⟩
    clear hcl
    obtain ⟨AZ, cZ, rfl, -⟩ := id hv
    obtain ⟨Amb, cmb, Abb, cbb, rfl, hM, hBx, hA⟩ := hx
    have hsV2 : V1.heap.size ≤ V2.heap.size := hbu.size
    have hlast : ∀ y ∈ ([u3.heap.size, u1.heap.size, wd0.heap.size] : List Nat), y < V1.heap.size := by intro y hy; simp at hy; have := (Whole.lt H52.out); omega
    have H53 : Hid (Below w.heap.size w V2) := Lib.hid ((Below.trans H46.out (Below.mono hbu (Below.size H46.out))))
    have H54 : Hid (Bytes V2 (Off [u3.heap.size, u1.heap.size, wd0.heap.size]) (.slice A1 X.length c1) X) := Lib.hid ((Bytes.below H47.out hbu (Nat.le_refl _)))
    have H55 : Hid (Bytes V2 (Off [u3.heap.size, u1.heap.size, wd0.heap.size]) (.slice A2 Y.length c2) Y) := Lib.hid ((Bytes.below H48.out hbu (Nat.le_refl _)))
    have H56 : Hid (Deck wd0.heap.size V2) := Lib.hid ((Deck.below H49.out hbu (Deck.lt H49.out)))
    have H57 : Hid (AlV V2 (Off [u3.heap.size, u1.heap.size, wd0.heap.size]) (.agg (alc a.free a.seed a.fresh (.slice Ama a.macs.length cma) (.slice Aba a.boxes.length cba))) a) := Lib.hid ((AlV.below H50.out hbu (Nat.le_refl _)))
    have H58 : Hid (ALRow V2 u1.heap.size a.free a.seed a.fresh (.slice Ama a.macs.length cma) (.slice Aba a.boxes.length cba)) := Lib.hid ((Whole.below H51.out hbu (Whole.lt H51.out)))
    have H59 : Hid (TGRow V2 u3.heap.size K) := Lib.hid ((Whole.below H52.out hbu (Whole.lt H52.out)))
    clear H46 H47 H48 H49 H50 H51 H52
    have H60 : Hid (AlV V2 (Off [u3.heap.size, u1.heap.size, wd0.heap.size]) (.agg (alc b.free b.seed b.fresh (.slice Amb b.macs.length cmb) (.slice Abb b.boxes.length cbb))) b) := Lib.hid (AlV.fresh ⟨Amb, cmb, Abb, cbb, rfl, hM, hBx, hA⟩ hlast)
    have H61 : Hid (Bytes V2 (Off [u3.heap.size, u1.heap.size, wd0.heap.size]) (.slice AZ Z.length cZ) Z) := Lib.hid (Bytes.fresh hv hlast)
    clear hM hBx hA hbu hlast hv
    clear hHeld
    have hHeld : (fun W : World => W.rangeAt u1.heap.size 0 (alcl a.free a.seed a.fresh (.slice Ama a.macs.length cma) (.slice Aba a.boxes.length cba)) ∧ W.rangeAt u3.heap.size 0 (K.map byt)) V2 := ⟨Whole.range H58.out, TGRow.range H59.out⟩
    refine hKK.out _ _ (.inr hHeld) trivial ?_
    clear hKK KK
    (try simp only [List.getElem_toArray, List.getElem_cons_succ, List.getElem_cons_zero, Act.put, List.setIfInBounds_toArray, List.set_cons_zero, List.set_cons_succ])
    apply AnyG_pure (i := 6) rfl (by kernel_rfl) (by kernel_rfl) (by kernel_rfl) (by kernel_rfl)
    case hQ => exact fun _ _ _ h => h
    case hB => exact trivial
    case hC => exact .inr hHeld
    case hy => (refine Or.inl ⟨by rfl, ?_⟩; intro w hSw; (try go_split_ands); go_simp; (try with_reducible rfl))
    (try simp only [List.getElem_toArray, List.getElem_cons_succ, List.getElem_cons_zero, Act.put, List.setIfInBounds_toArray, List.set_cons_zero, List.set_cons_succ])
    apply AnyG_pure (i := 7) rfl (by kernel_rfl) (by kernel_rfl) (by kernel_rfl) (by kernel_rfl)
    case hQ => exact fun _ _ _ h => h
    case hB => exact trivial
    case hC => exact .inr hHeld
    case hy => (refine Or.inl ⟨by rfl, ?_⟩; intro w hSw; (try go_split_ands); go_simp; (try with_reducible rfl))
    (try simp only [List.getElem_toArray, List.getElem_cons_succ, List.getElem_cons_zero, Act.put, List.setIfInBounds_toArray, List.set_cons_zero, List.set_cons_succ])
    apply AnyG_pure (i := 8) rfl (by kernel_rfl) (by kernel_rfl) (by kernel_rfl) (by kernel_rfl)
    case hQ => exact fun _ _ _ h => h
    case hB => exact trivial
    case hC => exact .inr hHeld
    case hy => (refine Or.inl ⟨by rfl, ?_⟩; intro w hSw; (try go_split_ands); go_simp; (try with_reducible rfl))
    (try simp only [List.getElem_toArray, List.getElem_cons_succ, List.getElem_cons_zero, Act.put, List.setIfInBounds_toArray, List.set_cons_zero, List.set_cons_succ])
    apply AnyG_pure (i := 9) rfl (by kernel_rfl) (by kernel_rfl) (by kernel_rfl) (by kernel_rfl)
    case hQ => exact fun _ _ _ h => h
    case hB => exact trivial
    case hC => exact .inr hHeld
    case hy => (refine Or.inl ⟨by rfl, ?_⟩; intro w hSw; (try go_split_ands); go_simp; (try with_reducible rfl))
    (try simp only [List.getElem_toArray, List.getElem_cons_succ, List.getElem_cons_zero, Act.put, List.setIfInBounds_toArray, List.set_cons_zero, List.set_cons_succ])
    refine AnyG_one (i := 10) (by kernel_rfl) rfl (fun KK hKK => ?_)
    obtain ⟨V3, hV3⟩ : ∃ x, x = V2.setRow (u1.heap.size) (alc b.free b.seed b.fresh (.slice Amb b.macs.length cmb) (.slice Abb b.boxes.length cbb)) := ⟨_, rfl⟩
    have hszV3 : V2.heap.size = V3.heap.size := by rw [hV3]; simp
    have hrow := H58.out
    have H62 : Hid (Below w.heap.size w V3) := Lib.hid (by rw [hV3]; exact (below_setRow H53.out (by omega) _))
    have H63 : Hid (Bytes V3 (Off [u3.heap.size, u1.heap.size, wd0.heap.size]) (.slice A1 X.length c1) X) := Lib.hid (by rw [hV3]; exact (Bytes.store H54.out (by simp) _))
    have H64 : Hid (Bytes V3 (Off [u3.heap.size, u1.heap.size, wd0.heap.size]) (.slice A2 Y.length c2) Y) := Lib.hid (by rw [hV3]; exact (Bytes.store H55.out (by simp) _))
    have H65 : Hid (Deck wd0.heap.size V3) := Lib.hid (by rw [hV3]; exact (Deck.store H56.out (by omega) _))
    have H66 : Hid (TGRow V3 u3.heap.size K) := Lib.hid (by rw [hV3]; exact (Whole.setRow_far H59.out (by omega) _))
    have H67 : Hid (AlV V3 (Off [u3.heap.size, u1.heap.size, wd0.heap.size]) (.agg (alc b.free b.seed b.fresh (.slice Amb b.macs.length cmb) (.slice Abb b.boxes.length cbb))) b) := Lib.hid (by rw [hV3]; exact (AlV.store H60.out (by simp) _))
    have H68 : Hid (Bytes V3 (Off [u3.heap.size, u1.heap.size, wd0.heap.size]) (.slice AZ Z.length cZ) Z) := Lib.hid (by rw [hV3]; exact (Bytes.store H61.out (by simp) _))
    clear H53 H54 H55 H56 H59 H60 H61
    have H69 : Hid (ALRow V3 u1.heap.size b.free b.seed b.fresh (.slice Amb b.macs.length cmb) (.slice Abb b.boxes.length cbb)) := Lib.hid (by rw [hV3]; exact Whole.setRow hrow _)
    rw [if_pos (by kernel_rfl)]
    refine wp_store_row 32 _ _ rfl (u1.heap.size) _ rfl rfl 32 _ hrow (by rw [algSize, alc_size]) (by rw [alc_size, alc_size]) (alc_one _ _ _ _ _ _ _ _ _) ?_
    rw [← hV3]
    clear hV3 hrow
    refine hKK.out _ _ (.inl (by kernel_rfl)) trivial ?_
    clear hKK KK
    (try simp only [List.getElem_toArray, List.getElem_cons_succ, List.getElem_cons_zero, Act.put, List.setIfInBounds_toArray, List.set_cons_zero, List.set_cons_succ])
    apply AnyG_pure (i := 11) rfl (by kernel_rfl) (by kernel_rfl) (by kernel_rfl) (by kernel_rfl)
    case hQ => exact fun _ _ _ h => h
    case hB => exact trivial
    case hC => exact .inl (by kernel_rfl)
    case hy => (refine Or.inl ⟨by rfl, ?_⟩; intro w hSw; (try go_split_ands); go_simp; (try with_reducible rfl))
    (try simp only [List.getElem_toArray, List.getElem_cons_succ, List.getElem_cons_zero, Act.put, List.setIfInBounds_toArray, List.set_cons_zero, List.set_cons_succ])
    apply AnyG_pure (i := 12) rfl (by kernel_rfl) (by kernel_rfl) (by kernel_rfl) (by kernel_rfl)
    case hQ => exact fun _ _ _ h => h
    case hB => exact trivial
    case hC => exact .inl (by kernel_rfl)
    case hy => (refine Or.inl ⟨by rfl, ?_⟩; intro w hSw; (try go_split_ands); go_simp; (try with_reducible rfl))
    (try simp only [List.getElem_toArray, List.getElem_cons_succ, List.getElem_cons_zero, Act.put, List.setIfInBounds_toArray, List.set_cons_zero, List.set_cons_succ])
    refine AnyG_done (by kernel_rfl) ?_ _
    go_wp2_with fail
    go_meet
    exact ⟨z, b, Z, eb, Amb, cmb, Abb, cbb, AZ, cZ, hz1, HEb.out, rfl, H65.out, H62.out, by omega, H69.out, H66.out, H67.out, H68.out, H63.out⟩
  case rest =>
    obtain ⟨z, b, Z, eb, Amb, cmb, Abb, cbb, AZ, cZ, hz1, hEb, rfl, hdk, hbw, hsw, hrb, hrK, hav, hbz, hbX⟩ := hcut
    rename World => wc
    have H39 : Hid (Below w.heap.size w wc) := Lib.hid (hbw)
    have H40 : Hid (Deck wd0.heap.size wc) := Lib.hid (hdk)
    have H41 : Hid (ALRow wc u1.heap.size b.free b.seed b.fresh (.slice Amb b.macs.length cmb) (.slice Abb b.boxes.length cbb)) := Lib.hid (hrb)
    have H42 : Hid (TGRow wc u3.heap.size K) := Lib.hid (hrK)
    have H43 : Hid (AlV wc (Off [u3.heap.size, u1.heap.size, wd0.heap.size]) (.agg (alc b.free b.seed b.fresh (.slice Amb b.macs.length cmb) (.slice Abb b.boxes.length cbb))) b) := Lib.hid (hav)
    have H44 : Hid (Bytes wc (Off [u3.heap.size, u1.heap.size, wd0.heap.size]) (.slice AZ Z.length cZ) Z) := Lib.hid (hbz)
    have H45 : Hid (Bytes wc (Off [u3.heap.size, u1.heap.size, wd0.heap.size]) (.slice A1 X.length c1) X) := Lib.hid (hbX)
    have hZb : Z.length = Y.length + 40 ∧ b.boxes.length ≤ 5 := by
      obtain ⟨⟨U0, f0⟩, hR0⟩ : ∃ r : List B8 × Int, r = aOpen b K Z := ⟨_, rfl⟩
      obtain ⟨-, -, -, h⟩ := box_back HGa.out (by omega) (by omega) hb4a hEb hR0
      have h2 := seal_le a K (z : Int) Y
      rw [← hEb] at h2
      exact ⟨h, by have h2 : b.boxes.length ≤ a.boxes.length + 1 := h2; omega⟩
    obtain ⟨hZl, hb5⟩ := hZb
    have hZ40 : 40 ≤ Z.length := by omega
    have hZ140 : Z.length ≤ 140 := by omega
    obtain ⟨-, -, -, hzc1, hzc2, -, -⟩ : True ∧ True ∧ True ∧ Z.length ≤ cZ ∧ cZ ≤ maxLen ∧ True ∧ True := by
      obtain ⟨A9, c9, e9, q1, q2, -, -⟩ := id hbz
      cases e9
      exact ⟨trivial, trivial, trivial, q1, q2, trivial, trivial⟩
    clear hbw hdk hrb hrK hav hbz hbX hEb hZl
    have hbz := H44.out
    go_upto_region 7 with (at_builtin; go_must (refine wpList_append_bytes rfl _ _ rfl wc.heap.size (.slice (some ⟨wc.heap.size, 0, none⟩) 0 0) [] rfl (own_lit wc wc.heap.size [] (Nat.le_refl _) (by simp)) _ _ Z rfl (hbz.alloc _) (by simp; omega) (by simp) ?_; intro v1 w1 hown hb1; rw [List.nil_append] at hown))
    clear hbz
    have HB1 : Hid (Below wc.heap.size wc w1) := Lib.hid (((Below.refl _ _).alloc (Nat.le_refl _) _).trans hb1)
    clear hb1
    obtain ⟨A2, c2, rfl, q1, q2, -⟩ := id (Bytes.of_own hown)
    have HO := Lib.hid hown
    clear hown
    have hcl := within_ za (Z.length : Int) (by omega) (by omega) hi3 w1
    have hZi : (0 : Int) < (Z.length : Int) := by omega
    go_wp2_with fail
    refine hcl.mono ?_
    rintro e W9 ⟨⟨i, hi, rfl⟩, hw⟩
    subst hw
    clear hcl
    obtain ⟨gC, cap, hve, hge, hcell, hfr, hset⟩ := own_cell HO.out i (by omega)
    injection hve with hv1 hv2 hv3
    subst hv1 hv3
    clear hv2
    obtain ⟨B0, hB0⟩ : ∃ B, B = Z.getD i 0 := ⟨_, rfl⟩
    rw [← hB0] at hcell
    have hxor := bits_xor_bv B0 x0
    have hfin := hset (B0 ^^^ x0)
    obtain ⟨C1, hC1⟩ : ∃ C, C = Z.set i (B0 ^^^ x0) := ⟨_, rfl⟩
    have hC1l : C1.length = Z.length := by rw [hC1, List.length_set]
    rw [← hC1] at hfin
    have hbf : Below wc.heap.size wc (W9.setCell ⟨gC, i, none⟩ (byt (B0 ^^^ x0))) := HB1.out.setCell (p := ⟨gC, i, none⟩) hge _
    have HF := Lib.hid (And.intro hfin hbf)
    have j0 : (0 : Int) ≤ (i : Int) := by omega
    clear hset hfin hbf hB0 hC1 q1 q2
    go_upto_region 8 with fail
    obtain ⟨w7, hw7⟩ : ∃ q, q = W9.setCell ⟨gC, i, none⟩ (byt (B0 ^^^ x0)) := ⟨_, rfl⟩
    rw [← hw7] at HF
    change Code.wp _ _ _ _ (W9.setCell ⟨gC, i, none⟩ (byt (B0 ^^^ x0)))
    rw [← hw7]
    have hb67 := HF.out.2
    have hC := Bytes.of_own HF.out.1
    rw [← hC1l] at hC
    have hsw7 : wc.heap.size ≤ w7.heap.size := hb67.size
    have hlast : ∀ y ∈ ([u3.heap.size, u1.heap.size, wd0.heap.size] : List Nat), y < wc.heap.size := by intro y hy; simp at hy; have := (Whole.lt H42.out); omega
    clear hw7 hcell hfr hxor HO HB1
    have H46 : Hid (Below w.heap.size w w7) := Lib.hid ((Below.trans H39.out (Below.mono hb67 (Below.size H39.out))))
    have H47 : Hid (Deck wd0.heap.size w7) := Lib.hid ((Deck.below H40.out hb67 (Deck.lt H40.out)))
    have H48 : Hid (ALRow w7 u1.heap.size b.free b.seed b.fresh (.slice Amb b.macs.length cmb) (.slice Abb b.boxes.length cbb)) := Lib.hid ((Whole.below H41.out hb67 (Whole.lt H41.out)))
    have H49 : Hid (TGRow w7 u3.heap.size K) := Lib.hid ((Whole.below H42.out hb67 (Whole.lt H42.out)))
    have H50 : Hid (AlV w7 (Off [u3.heap.size, u1.heap.size, wd0.heap.size]) (.agg (alc b.free b.seed b.fresh (.slice Amb b.macs.length cmb) (.slice Abb b.boxes.length cbb))) b) := Lib.hid ((AlV.below H43.out hb67 (Nat.le_refl _)))
    have H51 : Hid (Bytes w7 (Off [u3.heap.size, u1.heap.size, wd0.heap.size]) (.slice AZ Z.length cZ) Z) := Lib.hid ((Bytes.below H44.out hb67 (Nat.le_refl _)))
    have H52 : Hid (Bytes w7 (Off [u3.heap.size, u1.heap.size, wd0.heap.size]) (.slice A1 X.length c1) X) := Lib.hid ((Bytes.below H45.out hb67 (Nat.le_refl _)))
    clear H39 H40 H41 H42 H43 H44 H45
    have H53 : Hid (Bytes w7 (Off [u3.heap.size, u1.heap.size, wd0.heap.size]) (.slice (some ⟨gC, 0, none⟩) C1.length c2) C1) := Lib.hid (Bytes.fresh hC hlast)
    clear hb67 hC HF
    have hlast8 : ∀ y ∈ ([u3.heap.size, u1.heap.size, wd0.heap.size] : List Nat), y < w7.heap.size := fun y hy => Nat.lt_of_lt_of_le (hlast y hy) hsw7
    have hzci : (Z.length : Int) ≤ (cZ : Int) := by omega
    have hZi : (0 : Int) < (Z.length : Int) := by omega
    have HZC := Lib.hid hi5
    clear hlast hi3
    (try simp only [Act.put])
    go_cut [19] (fun s19 wx => LsO [u3.heap.size, u1.heap.size, wd0.heap.size] w7 s19 wx)
    case first =>
      have hb0 : Below w7.heap.size w7 w7.drew := Below.drew (Below.refl _ _)
      have hX0 := H52.out
      have hZ0 := H51.out
      have hC0 := H53.out
      refine wp_region_held_drew (S := fun _ : World => True) (by kernel_rfl) (trivial) (fun hHeld => ?_)
      generalize w7.drew = W0 at hb0 ⊢
      apply wpAnyH_take (i := 0) rfl (by kernel_rfl) (by kernel_rfl) (by kernel_rfl)
      case hQ => exact fun _ _ _ h => h
      case hS => exact hHeld
      case hy => (refine Or.inl ⟨by rfl, ?_⟩; intro w hSw; (try go_split_ands); go_simp; (try with_reducible rfl))
      (try simp only [List.getElem_toArray, List.getElem_cons_zero, Act.put, List.setIfInBounds_toArray, List.set_cons_zero, List.set_cons_succ])
      apply wpAnyH_take (i := 1) rfl (by kernel_rfl) (by kernel_rfl) (by kernel_rfl)
      case hQ => exact fun _ _ _ h => h
      case hS => exact hHeld
      case hy => (refine Or.inl ⟨by rfl, ?_⟩; intro w hSw; (try go_split_ands); go_simp; (try with_reducible rfl))
      (try simp only [List.getElem_toArray, List.getElem_cons_succ, List.getElem_cons_zero, Act.put, List.setIfInBounds_toArray, List.set_cons_zero, List.set_cons_succ])
      apply wpAnyH_take (i := 2) rfl (by kernel_rfl) (by kernel_rfl) (by kernel_rfl)
      case hQ => exact fun _ _ _ h => h
      case hS => exact hHeld
      case hy => (refine Or.inl ⟨by rfl, ?_⟩; intro w hSw; (try go_split_ands); go_simp; (try with_reducible rfl))
      (try simp only [List.getElem_toArray, List.getElem_cons_succ, List.getElem_cons_zero, Act.put, List.setIfInBounds_toArray, List.set_cons_zero, List.set_cons_succ])
      apply wpAnyH_take (i := 3) rfl (by kernel_rfl) (by kernel_rfl) (by kernel_rfl)
      case hQ => exact fun _ _ _ h => h
      case hS => exact hHeld
      case hy => (refine Or.inl ⟨by rfl, ?_⟩; intro w hSw; (try go_split_ands); go_simp; (try with_reducible rfl))
      (try simp only [List.getElem_toArray, List.getElem_cons_succ, List.getElem_cons_zero, Act.put, List.setIfInBounds_toArray, List.set_cons_zero, List.set_cons_succ])
      apply wpAnyH_take (i := 4) rfl (by kernel_rfl) (by kernel_rfl) (by kernel_rfl)
      case hQ => exact fun _ _ _ h => h
      case hS => exact hHeld
      case hy => (refine Or.inl ⟨by rfl, ?_⟩; intro w hSw; (try go_split_ands); go_simp; (try with_reducible rfl))
      (try simp only [List.getElem_toArray, List.getElem_cons_succ, List.getElem_cons_zero, Act.put, List.setIfInBounds_toArray, List.set_cons_zero, List.set_cons_succ])
      apply wpAnyH_take (i := 5) rfl (by kernel_rfl) (by kernel_rfl) (by kernel_rfl)
      case hQ => exact fun _ _ _ h => h
      case hS => exact hHeld
      case hy => (refine Or.inl ⟨by rfl, ?_⟩; intro w hSw; (try go_split_ands); go_simp; (try with_reducible rfl))
      (try simp only [List.getElem_toArray, List.getElem_cons_succ, List.getElem_cons_zero, Act.put, List.setIfInBounds_toArray, List.set_cons_zero, List.set_cons_succ])
      apply wpAnyH_take (i := 6) rfl (by kernel_rfl) (by kernel_rfl) (by kernel_rfl)
      case hQ => exact fun _ _ _ h => h
      case hS => exact hHeld
      case hy => (refine Or.inl ⟨by rfl, ?_⟩; intro w hSw; (try go_split_ands); go_simp; (try with_reducible rfl))
      (try simp only [List.getElem_toArray, List.getElem_cons_succ, List.getElem_cons_zero, Act.put, List.setIfInBounds_toArray, List.set_cons_zero, List.set_cons_succ])
      apply wpAnyH_take (i := 10) rfl (by kernel_rfl) (by kernel_rfl) (by kernel_rfl)
      case hQ => exact fun _ _ _ h => h
      case hS => exact hHeld
      case hy => (refine Or.inl ⟨by rfl, ?_⟩; intro w hSw; (try go_split_ands); go_simp; (try with_reducible rfl))
      (try simp only [List.getElem_toArray, List.getElem_cons_succ, List.getElem_cons_zero, Act.put, List.setIfInBounds_toArray, List.set_cons_zero, List.set_cons_succ])
      apply wpAnyH_take (i := 12) rfl (by kernel_rfl) (by kernel_rfl) (by kernel_rfl)
      case hQ => exact fun _ _ _ h => h
      case hS => exact hHeld
      case hy => (refine Or.inl ⟨by rfl, ?_⟩; intro w hSw; (try go_split_ands); go_simp; (try with_reducible rfl))
      (try simp only [List.getElem_toArray, List.getElem_cons_succ, List.getElem_cons_zero, Act.put, List.setIfInBounds_toArray, List.set_cons_zero, List.set_cons_succ])
      refine wpAnyH_ready (rs := [7, 9, 13]) (by kernel_rfl) (by simp) ?_
      refine AllReadyH.cons rfl (fun KK hKK => ?_) (AllReadyH.cons rfl (fun KK hKK => ?_) (AllReadyH.cons rfl (fun KK hKK => ?_) AllReadyH.nil))
      · (try simp only [List.getElem_toArray, List.getElem_cons_succ, List.getElem_cons_zero])
        go_simp
        go_at_call 15
        refine (within_ zc (Z.length : Int) hZi (by omega) HZC.out W0).mono ?_
        rintro e W9 ⟨⟨j, hj, rfl⟩, hw⟩
        rw [hw]
        clear hw
        have hj0 : (0 : Int) ≤ (j : Int) := by omega
        have hjc : (j : Int) ≤ (cZ : Int) := by omega
        refine hKK.out _ _ (trivial) (fun hHeld => ?_)
        clear hKK KK
        (try simp only [List.getElem_toArray, List.getElem_cons_succ, List.getElem_cons_zero, Act.put, List.setIfInBounds_toArray, List.set_cons_zero, List.set_cons_succ])
        apply wpAnyH_take (i := 8) rfl (by kernel_rfl) (by kernel_rfl) (by kernel_rfl)
        case hQ => exact fun _ _ _ h => h
        case hS => exact hHeld
        case hy => (refine Or.inl ⟨by rfl, ?_⟩; intro w hSw; (try go_split_ands); go_simp; (try with_reducible rfl))
        (try simp only [List.getElem_toArray, List.getElem_cons_succ, List.getElem_cons_zero, Act.put, List.setIfInBounds_toArray, List.set_cons_zero, List.set_cons_succ])
        refine wpAnyH_ready (rs := [9, 13]) (by kernel_rfl) (by simp) ?_
        refine AllReadyH.cons rfl (fun KK hKK => ?_) (AllReadyH.cons rfl (fun KK hKK => ?_) AllReadyH.nil)
        · (try simp only [List.getElem_toArray, List.getElem_cons_succ, List.getElem_cons_zero])
          go_simp
          obtain ⟨g9, hg9⟩ : ∃ g, g = W0.heap.size := ⟨_, rfl⟩
          obtain ⟨V2, hV2⟩ : ∃ x, x = W0.alloc (.cells #[] 5) := ⟨_, rfl⟩
          have hb2 : Below w7.heap.size w7 V2 := by rw [hV2]; exact hb0.alloc hb0.size _
          have h9l : g9 < V2.heap.size := by rw [hV2, hg9]; simp
          have o92 : OwnBf V2 w7.heap.size (.slice (some ⟨g9, 0, none⟩) 0 0) [] := owns_empty (by rw [hV2, hg9]; exact heap_alloc_new _ _) (by rw [hg9]; exact hb0.size)
          rw [← hg9, ← hV2]
          clear hV2 hg9
          refine hKK.out _ _ (trivial) (fun hHeld => ?_)
          clear hKK KK
          (try simp only [List.getElem_toArray, List.getElem_cons_succ, List.getElem_cons_zero, Act.put, List.setIfInBounds_toArray, List.set_cons_zero, List.set_cons_succ])
          refine wpAnyH_ready (rs := [11, 13]) (by kernel_rfl) (by simp) ?_
          refine AllReadyH.cons rfl (fun KK hKK => ?_) (AllReadyH.cons rfl (fun KK hKK => ?_) AllReadyH.nil)
          · skip
            refine step_append_seq (by rfl) _ _ 23 5 (.int .u8 0) 1 (by rfl) Tryd.underlying23 byteInfo byte_size (by omega) (by omega) bf_len bf_one w7.heap.size _ [] (by rfl) o92 _ AZ Z.length cZ Z rfl (by rfl) (seq_bytes (hZ0.below hb2 (Nat.le_refl _))) (by simp only [List.length_nil]; omega) hb2.size ?_
            intro vB V3 oB3 hbn hgn
            rw [List.nil_append] at oB3
            have hb3 := hb2.trans hbn
            clear hbn hgn
            refine hKK.out _ _ (trivial) (fun hHeld => ?_)
            clear hKK KK
            (try simp only [List.getElem_toArray, List.getElem_cons_succ, List.getElem_cons_zero, Act.put, List.setIfInBounds_toArray, List.set_cons_zero, List.set_cons_succ])
            refine wpAnyH_ready (rs := [13]) (by kernel_rfl) (by simp) ?_
            refine AllReadyH.cons rfl (fun KK hKK => ?_) AllReadyH.nil
            (try simp only [List.getElem_toArray, List.getElem_cons_succ, List.getElem_cons_zero])
            go_simp
            obtain ⟨g13, hg13⟩ : ∃ g, g = V3.heap.size := ⟨_, rfl⟩
            obtain ⟨V4, hV4⟩ : ∃ x, x = V3.alloc (.cells #[byt x0] 5) := ⟨_, rfl⟩
            have hb4 : Below w7.heap.size w7 V4 := by rw [hV4]; exact hb3.alloc hb3.size _
            have o94 : OwnBf V4 w7.heap.size vB Z := by rw [hV4]; exact oB3.alloc _
            have r134 : Whole V4 g13 5 #[byt x0] := by rw [hV4, hg13]; exact Whole.here _ _ _
            try rw [show Value.int .u8 (bv x0) = byt x0 from rfl]
            rw [← hg13, ← hV4]
            clear hV4 hg13
            refine hKK.out _ _ (trivial) (fun hHeld => ?_)
            clear hKK KK
            (try simp only [List.getElem_toArray, List.getElem_cons_succ, List.getElem_cons_zero, Act.put, List.setIfInBounds_toArray, List.set_cons_zero, List.set_cons_succ])
            refine wpAnyH_ready (rs := [14]) (by kernel_rfl) (by simp) ?_
            refine AllReadyH.cons rfl (fun KK hKK => ?_) AllReadyH.nil
            have hby := Whole.bytes (l := [x0]) r134 (by simp)
            refine step_append_seq (by rfl) _ _ 23 5 (.int .u8 0) 1 (by rfl) Tryd.underlying23 byteInfo byte_size (by omega) (by omega) bf_len bf_one w7.heap.size _ Z (by rfl) o94 _ (some ⟨g13, 0, none⟩) 1 1 [x0] rfl (by rfl) (seq_bytes hby) (by simp only [List.length_singleton]; omega) hb4.size ?_
            intro vN V5 oN5 hbn hgn
            have hb5 := hb4.trans hbn
            obtain ⟨AN, cN, rfl, hsN⟩ := OwnS.seq (ok := fun _ => True) oN5 (fun _ _ => trivial)
            have hbN := bytes_seq hsN
            clear hbn hgn hsN
            refine hKK.out _ _ (trivial) (fun hHeld => ?_)
            clear hKK KK
            (try simp only [List.getElem_toArray, List.getElem_cons_succ, List.getElem_cons_zero, Act.put, List.setIfInBounds_toArray, List.set_cons_zero, List.set_cons_succ])
            refine wpAnyH_ready (rs := [15]) (by kernel_rfl) (by simp) ?_
            refine AllReadyH.cons rfl (fun KK hKK => ?_) AllReadyH.nil
            (try simp only [List.getElem_toArray, List.getElem_cons_succ, List.getElem_cons_zero])
            have hT : (Z.take j).length = j := by rw [List.length_take]; omega
            have h3 : Bytes V5 (Off [u3.heap.size, u1.heap.size, wd0.heap.size]) (.slice AZ (Z.take j).length cZ) (Z.take j) := by rw [hT]; exact (hZ0.below hb5 (Nat.le_refl _)).take j (by omega)
            have h4 : Bytes V5 (Off [u3.heap.size, u1.heap.size, wd0.heap.size]) (.slice AN (Z ++ [x0]).length cN) (Z ++ [x0]) := Bytes.fresh hbN hlast8
            have hL := LsO.of hb5 hlast8 (hX0.below hb5 (Nat.le_refl _)) (hZ0.below hb5 (Nat.le_refl _)) (hC0.below hb5 (Nat.le_refl _)) h3 h4 (by omega) (by omega) (by omega) (by omega) (by rw [List.length_append]; simp; omega)
            rw [hT, hC1l, show (Z ++ [x0]).length = Z.length + 1 by simp] at hL
            go_simp
            refine hKK.out _ _ (trivial) (fun hHeld => ?_)
            clear hKK KK
            (try simp only [List.getElem_toArray, List.getElem_cons_succ, List.getElem_cons_zero, Act.put, List.setIfInBounds_toArray, List.set_cons_zero, List.set_cons_succ])
            apply wpAnyH_take (i := 16) rfl (by kernel_rfl) (by kernel_rfl) (by kernel_rfl)
            case hQ => exact fun _ _ _ h => h
            case hS => exact hHeld
            case hy => (refine Or.inl ⟨by rfl, ?_⟩; intro w hSw; (try go_split_ands); go_simp; (try with_reducible rfl))
            (try simp only [List.getElem_toArray, List.getElem_cons_succ, List.getElem_cons_zero, Act.put, List.setIfInBounds_toArray, List.set_cons_zero, List.set_cons_succ])
            refine wpAnyH_done (by kernel_rfl) ?_ _
            go_wp2_with fail
            go_meet
            exact hL
          · (try simp only [List.getElem_toArray, List.getElem_cons_succ, List.getElem_cons_zero])
            go_simp
            obtain ⟨g13, hg13⟩ : ∃ g, g = V2.heap.size := ⟨_, rfl⟩
            obtain ⟨V7, hV7⟩ : ∃ x, x = V2.alloc (.cells #[byt x0] 5) := ⟨_, rfl⟩
            have hb7 : Below w7.heap.size w7 V7 := by rw [hV7]; exact hb2.alloc hb2.size _
            have o97 : OwnBf V7 w7.heap.size (.slice (some ⟨g9, 0, none⟩) 0 0) [] := by rw [hV7]; exact o92.alloc _
            have r137 : Whole V7 g13 5 #[byt x0] := by rw [hV7, hg13]; exact Whole.here _ _ _
            have hne : g9 ≠ g13 := by omega
            try rw [show Value.int .u8 (bv x0) = byt x0 from rfl]
            rw [← hg13, ← hV7]
            clear hV7 hg13
            refine hKK.out _ _ (trivial) (fun hHeld => ?_)
            clear hKK KK
            (try simp only [List.getElem_toArray, List.getElem_cons_succ, List.getElem_cons_zero, Act.put, List.setIfInBounds_toArray, List.set_cons_zero, List.set_cons_succ])
            refine wpAnyH_ready (rs := [11]) (by kernel_rfl) (by simp) ?_
            refine AllReadyH.cons rfl (fun KK hKK => ?_) AllReadyH.nil
            refine step_append_seq (by rfl) _ _ 23 5 (.int .u8 0) 1 (by rfl) Tryd.underlying23 byteInfo byte_size (by omega) (by omega) bf_len bf_one w7.heap.size _ [] (by rfl) o97 _ AZ Z.length cZ Z rfl (by rfl) (seq_bytes (hZ0.below hb7 (Nat.le_refl _))) (by simp only [List.length_nil]; omega) hb7.size ?_
            intro vB V8 oB8 hbn hgn
            rw [List.nil_append] at oB8
            have hb8 := hb7.trans hbn
            have r138 : Whole V8 g13 5 #[byt x0] := (hgn.block g13 r137.lt (fun e => by injection e with e; exact hne e.symm)).trans r137
            clear hbn hgn
            refine hKK.out _ _ (trivial) (fun hHeld => ?_)
            clear hKK KK
            (try simp only [List.getElem_toArray, List.getElem_cons_succ, List.getElem_cons_zero, Act.put, List.setIfInBounds_toArray, List.set_cons_zero, List.set_cons_succ])
            refine wpAnyH_ready (rs := [14]) (by kernel_rfl) (by simp) ?_
            refine AllReadyH.cons rfl (fun KK hKK => ?_) AllReadyH.nil
            have hby := Whole.bytes (l := [x0]) r138 (by simp)
            refine step_append_seq (by rfl) _ _ 23 5 (.int .u8 0) 1 (by rfl) Tryd.underlying23 byteInfo byte_size (by omega) (by omega) bf_len bf_one w7.heap.size _ Z (by rfl) oB8 _ (some ⟨g13, 0, none⟩) 1 1 [x0] rfl (by rfl) (seq_bytes hby) (by simp only [List.length_singleton]; omega) hb8.size ?_
            intro vN V9 oN9 hbn hgn
            have hb9 := hb8.trans hbn
            obtain ⟨AN, cN, rfl, hsN⟩ := OwnS.seq (ok := fun _ => True) oN9 (fun _ _ => trivial)
            have hbN := bytes_seq hsN
            clear hbn hgn hsN
            refine hKK.out _ _ (trivial) (fun hHeld => ?_)
            clear hKK KK
            (try simp only [List.getElem_toArray, List.getElem_cons_succ, List.getElem_cons_zero, Act.put, List.setIfInBounds_toArray, List.set_cons_zero, List.set_cons_succ])
            refine wpAnyH_ready (rs := [15]) (by kernel_rfl) (by simp) ?_
            refine AllReadyH.cons rfl (fun KK hKK => ?_) AllReadyH.nil
            (try simp only [List.getElem_toArray, List.getElem_cons_succ, List.getElem_cons_zero])
            have hT : (Z.take j).length = j := by rw [List.length_take]; omega
            have h3 : Bytes V9 (Off [u3.heap.size, u1.heap.size, wd0.heap.size]) (.slice AZ (Z.take j).length cZ) (Z.take j) := by rw [hT]; exact (hZ0.below hb9 (Nat.le_refl _)).take j (by omega)
            have h4 : Bytes V9 (Off [u3.heap.size, u1.heap.size, wd0.heap.size]) (.slice AN (Z ++ [x0]).length cN) (Z ++ [x0]) := Bytes.fresh hbN hlast8
            have hL := LsO.of hb9 hlast8 (hX0.below hb9 (Nat.le_refl _)) (hZ0.below hb9 (Nat.le_refl _)) (hC0.below hb9 (Nat.le_refl _)) h3 h4 (by omega) (by omega) (by omega) (by omega) (by rw [List.length_append]; simp; omega)
            rw [hT, hC1l, show (Z ++ [x0]).length = Z.length + 1 by simp] at hL
            go_simp
            refine hKK.out _ _ (trivial) (fun hHeld => ?_)
            clear hKK KK
            (try simp only [List.getElem_toArray, List.getElem_cons_succ, List.getElem_cons_zero, Act.put, List.setIfInBounds_toArray, List.set_cons_zero, List.set_cons_succ])
            apply wpAnyH_take (i := 16) rfl (by kernel_rfl) (by kernel_rfl) (by kernel_rfl)
            case hQ => exact fun _ _ _ h => h
            case hS => exact hHeld
            case hy => (refine Or.inl ⟨by rfl, ?_⟩; intro w hSw; (try go_split_ands); go_simp; (try with_reducible rfl))
            (try simp only [List.getElem_toArray, List.getElem_cons_succ, List.getElem_cons_zero, Act.put, List.setIfInBounds_toArray, List.set_cons_zero, List.set_cons_succ])
            refine wpAnyH_done (by kernel_rfl) ?_ _
            go_wp2_with fail
            go_meet
            exact hL
        · (try simp only [List.getElem_toArray, List.getElem_cons_succ, List.getElem_cons_zero])
          go_simp
          obtain ⟨g13, hg13⟩ : ∃ g, g = W0.heap.size := ⟨_, rfl⟩
          obtain ⟨V11, hV11⟩ : ∃ x, x = W0.alloc (.cells #[byt x0] 5) := ⟨_, rfl⟩
          have hb11 : Below w7.heap.size w7 V11 := by rw [hV11]; exact hb0.alloc hb0.size _
          have r1311 : Whole V11 g13 5 #[byt x0] := by rw [hV11, hg13]; exact Whole.here _ _ _
          try rw [show Value.int .u8 (bv x0) = byt x0 from rfl]
          rw [← hg13, ← hV11]
          clear hV11 hg13
          refine hKK.out _ _ (trivial) (fun hHeld => ?_)
          clear hKK KK
          (try simp only [List.getElem_toArray, List.getElem_cons_succ, List.getElem_cons_zero, Act.put, List.setIfInBounds_toArray, List.set_cons_zero, List.set_cons_succ])
          refine wpAnyH_ready (rs := [9]) (by kernel_rfl) (by simp) ?_
          refine AllReadyH.cons rfl (fun KK hKK => ?_) AllReadyH.nil
          (try simp only [List.getElem_toArray, List.getElem_cons_succ, List.getElem_cons_zero])
          go_simp
          obtain ⟨g9, hg9⟩ : ∃ g, g = V11.heap.size := ⟨_, rfl⟩
          obtain ⟨V12, hV12⟩ : ∃ x, x = V11.alloc (.cells #[] 5) := ⟨_, rfl⟩
          have hb12 : Below w7.heap.size w7 V12 := by rw [hV12]; exact hb11.alloc hb11.size _
          have h9l : g9 < V12.heap.size := by rw [hV12, hg9]; simp
          have r1312 : Whole V12 g13 5 #[byt x0] := by rw [hV12]; exact r1311.alloc _
          have o912 : OwnBf V12 w7.heap.size (.slice (some ⟨g9, 0, none⟩) 0 0) [] := owns_empty (by rw [hV12, hg9]; exact heap_alloc_new _ _) (by rw [hg9]; exact hb11.size)
          have hne : g9 ≠ g13 := by have := Whole.lt r1311; omega
          rw [← hg9, ← hV12]
          clear hV12 hg9
          refine hKK.out _ _ (trivial) (fun hHeld => ?_)
          clear hKK KK
          (try simp only [List.getElem_toArray, List.getElem_cons_succ, List.getElem_cons_zero, Act.put, List.setIfInBounds_toArray, List.set_cons_zero, List.set_cons_succ])
          refine wpAnyH_ready (rs := [11]) (by kernel_rfl) (by simp) ?_
          refine AllReadyH.cons rfl (fun KK hKK => ?_) AllReadyH.nil
          refine step_append_seq (by rfl) _ _ 23 5 (.int .u8 0) 1 (by rfl) Tryd.underlying23 byteInfo byte_size (by omega) (by omega) bf_len bf_one w7.heap.size _ [] (by rfl) o912 _ AZ Z.length cZ Z rfl (by rfl) (seq_bytes (hZ0.below hb12 (Nat.le_refl _))) (by simp only [List.length_nil]; omega) hb12.size ?_
          intro vB V13 oB13 hbn hgn
          rw [List.nil_append] at oB13
          have hb13 := hb12.trans hbn
          have r1313 : Whole V13 g13 5 #[byt x0] := (hgn.block g13 r1312.lt (fun e => by injection e with e; exact hne e.symm)).trans r1312
          clear hbn hgn
          refine hKK.out _ _ (trivial) (fun hHeld => ?_)
          clear hKK KK
          (try simp only [List.getElem_toArray, List.getElem_cons_succ, List.getElem_cons_zero, Act.put, List.setIfInBounds_toArray, List.set_cons_zero, List.set_cons_succ])
          refine wpAnyH_ready (rs := [14]) (by kernel_rfl) (by simp) ?_
          refine AllReadyH.cons rfl (fun KK hKK => ?_) AllReadyH.nil
          have hby := Whole.bytes (l := [x0]) r1313 (by simp)
          refine step_append_seq (by rfl) _ _ 23 5 (.int .u8 0) 1 (by rfl) Tryd.underlying23 byteInfo byte_size (by omega) (by omega) bf_len bf_one w7.heap.size _ Z (by rfl) oB13 _ (some ⟨g13, 0, none⟩) 1 1 [x0] rfl (by rfl) (seq_bytes hby) (by simp only [List.length_singleton]; omega) hb13.size ?_
          intro vN V14 oN14 hbn hgn
          have hb14 := hb13.trans hbn
          obtain ⟨AN, cN, rfl, hsN⟩ := OwnS.seq (ok := fun _ => True) oN14 (fun _ _ => trivial)
          have hbN := bytes_seq hsN
          clear hbn hgn hsN
          refine hKK.out _ _ (trivial) (fun hHeld => ?_)
          clear hKK KK
          (try simp only [List.getElem_toArray, List.getElem_cons_succ, List.getElem_cons_zero, Act.put, List.setIfInBounds_toArray, List.set_cons_zero, List.set_cons_succ])
          refine wpAnyH_ready (rs := [15]) (by kernel_rfl) (by simp) ?_
          refine AllReadyH.cons rfl (fun KK hKK => ?_) AllReadyH.nil
          (try simp only [List.getElem_toArray, List.getElem_cons_succ, List.getElem_cons_zero])
          have hT : (Z.take j).length = j := by rw [List.length_take]; omega
          have h3 : Bytes V14 (Off [u3.heap.size, u1.heap.size, wd0.heap.size]) (.slice AZ (Z.take j).length cZ) (Z.take j) := by rw [hT]; exact (hZ0.below hb14 (Nat.le_refl _)).take j (by omega)
          have h4 : Bytes V14 (Off [u3.heap.size, u1.heap.size, wd0.heap.size]) (.slice AN (Z ++ [x0]).length cN) (Z ++ [x0]) := Bytes.fresh hbN hlast8
          have hL := LsO.of hb14 hlast8 (hX0.below hb14 (Nat.le_refl _)) (hZ0.below hb14 (Nat.le_refl _)) (hC0.below hb14 (Nat.le_refl _)) h3 h4 (by omega) (by omega) (by omega) (by omega) (by rw [List.length_append]; simp; omega)
          rw [hT, hC1l, show (Z ++ [x0]).length = Z.length + 1 by simp] at hL
          go_simp
          refine hKK.out _ _ (trivial) (fun hHeld => ?_)
          clear hKK KK
          (try simp only [List.getElem_toArray, List.getElem_cons_succ, List.getElem_cons_zero, Act.put, List.setIfInBounds_toArray, List.set_cons_zero, List.set_cons_succ])
          apply wpAnyH_take (i := 16) rfl (by kernel_rfl) (by kernel_rfl) (by kernel_rfl)
          case hQ => exact fun _ _ _ h => h
          case hS => exact hHeld
          case hy => (refine Or.inl ⟨by rfl, ?_⟩; intro w hSw; (try go_split_ands); go_simp; (try with_reducible rfl))
          (try simp only [List.getElem_toArray, List.getElem_cons_succ, List.getElem_cons_zero, Act.put, List.setIfInBounds_toArray, List.set_cons_zero, List.set_cons_succ])
          refine wpAnyH_done (by kernel_rfl) ?_ _
          go_wp2_with fail
          go_meet
          exact hL
      · (try simp only [List.getElem_toArray, List.getElem_cons_succ, List.getElem_cons_zero])
        go_simp
        obtain ⟨g9, hg9⟩ : ∃ g, g = W0.heap.size := ⟨_, rfl⟩
        obtain ⟨V16, hV16⟩ : ∃ x, x = W0.alloc (.cells #[] 5) := ⟨_, rfl⟩
        have hb16 : Below w7.heap.size w7 V16 := by rw [hV16]; exact hb0.alloc hb0.size _
        have h9l : g9 < V16.heap.size := by rw [hV16, hg9]; simp
        have o916 : OwnBf V16 w7.heap.size (.slice (some ⟨g9, 0, none⟩) 0 0) [] := owns_empty (by rw [hV16, hg9]; exact heap_alloc_new _ _) (by rw [hg9]; exact hb0.size)
        rw [← hg9, ← hV16]
        clear hV16 hg9
        refine hKK.out _ _ (trivial) (fun hHeld => ?_)
        clear hKK KK
        (try simp only [List.getElem_toArray, List.getElem_cons_succ, List.getElem_cons_zero, Act.put, List.setIfInBounds_toArray, List.set_cons_zero, List.set_cons_succ])
        refine wpAnyH_ready (rs := [7, 13]) (by kernel_rfl) (by simp) ?_
        refine AllReadyH.cons rfl (fun KK hKK => ?_) (AllReadyH.cons rfl (fun KK hKK => ?_) AllReadyH.nil)
        · (try simp only [List.getElem_toArray, List.getElem_cons_succ, List.getElem_cons_zero])
          go_simp
          go_at_call 15
          refine (within_ zc (Z.length : Int) hZi (by omega) HZC.out V16).mono ?_
          rintro e W9 ⟨⟨j, hj, rfl⟩, hw⟩
          rw [hw]
          clear hw
          have hj0 : (0 : Int) ≤ (j : Int) := by omega
          have hjc : (j : Int) ≤ (cZ : Int) := by omega
          refine hKK.out _ _ (trivial) (fun hHeld => ?_)
          clear hKK KK
          (try simp only [List.getElem_toArray, List.getElem_cons_succ, List.getElem_cons_zero, Act.put, List.setIfInBounds_toArray, List.set_cons_zero, List.set_cons_succ])
          apply wpAnyH_take (i := 8) rfl (by kernel_rfl) (by kernel_rfl) (by kernel_rfl)
          case hQ => exact fun _ _ _ h => h
          case hS => exact hHeld
          case hy => (refine Or.inl ⟨by rfl, ?_⟩; intro w hSw; (try go_split_ands); go_simp; (try with_reducible rfl))
          (try simp only [List.getElem_toArray, List.getElem_cons_succ, List.getElem_cons_zero, Act.put, List.setIfInBounds_toArray, List.set_cons_zero, List.set_cons_succ])
          refine wpAnyH_ready (rs := [11, 13]) (by kernel_rfl) (by simp) ?_
          refine AllReadyH.cons rfl (fun KK hKK => ?_) (AllReadyH.cons rfl (fun KK hKK => ?_) AllReadyH.nil)
          · skip
            refine step_append_seq (by rfl) _ _ 23 5 (.int .u8 0) 1 (by rfl) Tryd.underlying23 byteInfo byte_size (by omega) (by omega) bf_len bf_one w7.heap.size _ [] (by rfl) o916 _ AZ Z.length cZ Z rfl (by rfl) (seq_bytes (hZ0.below hb16 (Nat.le_refl _))) (by simp only [List.length_nil]; omega) hb16.size ?_
            intro vB V18 oB18 hbn hgn
            rw [List.nil_append] at oB18
            have hb18 := hb16.trans hbn
            clear hbn hgn
            refine hKK.out _ _ (trivial) (fun hHeld => ?_)
            clear hKK KK
            (try simp only [List.getElem_toArray, List.getElem_cons_succ, List.getElem_cons_zero, Act.put, List.setIfInBounds_toArray, List.set_cons_zero, List.set_cons_succ])
            refine wpAnyH_ready (rs := [13]) (by kernel_rfl) (by simp) ?_
            refine AllReadyH.cons rfl (fun KK hKK => ?_) AllReadyH.nil
            (try simp only [List.getElem_toArray, List.getElem_cons_succ, List.getElem_cons_zero])
            go_simp
            obtain ⟨g13, hg13⟩ : ∃ g, g = V18.heap.size := ⟨_, rfl⟩
            obtain ⟨V19, hV19⟩ : ∃ x, x = V18.alloc (.cells #[byt x0] 5) := ⟨_, rfl⟩
            have hb19 : Below w7.heap.size w7 V19 := by rw [hV19]; exact hb18.alloc hb18.size _
            have o919 : OwnBf V19 w7.heap.size vB Z := by rw [hV19]; exact oB18.alloc _
            have r1319 : Whole V19 g13 5 #[byt x0] := by rw [hV19, hg13]; exact Whole.here _ _ _
            try rw [show Value.int .u8 (bv x0) = byt x0 from rfl]
            rw [← hg13, ← hV19]
            clear hV19 hg13
            refine hKK.out _ _ (trivial) (fun hHeld => ?_)
            clear hKK KK
            (try simp only [List.getElem_toArray, List.getElem_cons_succ, List.getElem_cons_zero, Act.put, List.setIfInBounds_toArray, List.set_cons_zero, List.set_cons_succ])
            refine wpAnyH_ready (rs := [14]) (by kernel_rfl) (by simp) ?_
            refine AllReadyH.cons rfl (fun KK hKK => ?_) AllReadyH.nil
            have hby := Whole.bytes (l := [x0]) r1319 (by simp)
            refine step_append_seq (by rfl) _ _ 23 5 (.int .u8 0) 1 (by rfl) Tryd.underlying23 byteInfo byte_size (by omega) (by omega) bf_len bf_one w7.heap.size _ Z (by rfl) o919 _ (some ⟨g13, 0, none⟩) 1 1 [x0] rfl (by rfl) (seq_bytes hby) (by simp only [List.length_singleton]; omega) hb19.size ?_
            intro vN V20 oN20 hbn hgn
            have hb20 := hb19.trans hbn
            obtain ⟨AN, cN, rfl, hsN⟩ := OwnS.seq (ok := fun _ => True) oN20 (fun _ _ => trivial)
            have hbN := bytes_seq hsN
            clear hbn hgn hsN
            refine hKK.out _ _ (trivial) (fun hHeld => ?_)
            clear hKK KK
            (try simp only [List.getElem_toArray, List.getElem_cons_succ, List.getElem_cons_zero, Act.put, List.setIfInBounds_toArray, List.set_cons_zero, List.set_cons_succ])
            refine wpAnyH_ready (rs := [15]) (by kernel_rfl) (by simp) ?_
            refine AllReadyH.cons rfl (fun KK hKK => ?_) AllReadyH.nil
            (try simp only [List.getElem_toArray, List.getElem_cons_succ, List.getElem_cons_zero])
            have hT : (Z.take j).length = j := by rw [List.length_take]; omega
            have h3 : Bytes V20 (Off [u3.heap.size, u1.heap.size, wd0.heap.size]) (.slice AZ (Z.take j).length cZ) (Z.take j) := by rw [hT]; exact (hZ0.below hb20 (Nat.le_refl _)).take j (by omega)
            have h4 : Bytes V20 (Off [u3.heap.size, u1.heap.size, wd0.heap.size]) (.slice AN (Z ++ [x0]).length cN) (Z ++ [x0]) := Bytes.fresh hbN hlast8
            have hL := LsO.of hb20 hlast8 (hX0.below hb20 (Nat.le_refl _)) (hZ0.below hb20 (Nat.le_refl _)) (hC0.below hb20 (Nat.le_refl _)) h3 h4 (by omega) (by omega) (by omega) (by omega) (by rw [List.length_append]; simp; omega)
            rw [hT, hC1l, show (Z ++ [x0]).length = Z.length + 1 by simp] at hL
            go_simp
            refine hKK.out _ _ (trivial) (fun hHeld => ?_)
            clear hKK KK
            (try simp only [List.getElem_toArray, List.getElem_cons_succ, List.getElem_cons_zero, Act.put, List.setIfInBounds_toArray, List.set_cons_zero, List.set_cons_succ])
            apply wpAnyH_take (i := 16) rfl (by kernel_rfl) (by kernel_rfl) (by kernel_rfl)
            case hQ => exact fun _ _ _ h => h
            case hS => exact hHeld
            case hy => (refine Or.inl ⟨by rfl, ?_⟩; intro w hSw; (try go_split_ands); go_simp; (try with_reducible rfl))
            (try simp only [List.getElem_toArray, List.getElem_cons_succ, List.getElem_cons_zero, Act.put, List.setIfInBounds_toArray, List.set_cons_zero, List.set_cons_succ])
            refine wpAnyH_done (by kernel_rfl) ?_ _
            go_wp2_with fail
            go_meet
            exact hL
          · (try simp only [List.getElem_toArray, List.getElem_cons_succ, List.getElem_cons_zero])
            go_simp
            obtain ⟨g13, hg13⟩ : ∃ g, g = V16.heap.size := ⟨_, rfl⟩
            obtain ⟨V22, hV22⟩ : ∃ x, x = V16.alloc (.cells #[byt x0] 5) := ⟨_, rfl⟩
            have hb22 : Below w7.heap.size w7 V22 := by rw [hV22]; exact hb16.alloc hb16.size _
            have o922 : OwnBf V22 w7.heap.size (.slice (some ⟨g9, 0, none⟩) 0 0) [] := by rw [hV22]; exact o916.alloc _
            have r1322 : Whole V22 g13 5 #[byt x0] := by rw [hV22, hg13]; exact Whole.here _ _ _
            have hne : g9 ≠ g13 := by omega
            try rw [show Value.int .u8 (bv x0) = byt x0 from rfl]
            rw [← hg13, ← hV22]
            clear hV22 hg13
            refine hKK.out _ _ (trivial) (fun hHeld => ?_)
            clear hKK KK
            (try simp only [List.getElem_toArray, List.getElem_cons_succ, List.getElem_cons_zero, Act.put, List.setIfInBounds_toArray, List.set_cons_zero, List.set_cons_succ])
            refine wpAnyH_ready (rs := [11]) (by kernel_rfl) (by simp) ?_
            refine AllReadyH.cons rfl (fun KK hKK => ?_) AllReadyH.nil
            refine step_append_seq (by rfl) _ _ 23 5 (.int .u8 0) 1 (by rfl) Tryd.underlying23 byteInfo byte_size (by omega) (by omega) bf_len bf_one w7.heap.size _ [] (by rfl) o922 _ AZ Z.length cZ Z rfl (by rfl) (seq_bytes (hZ0.below hb22 (Nat.le_refl _))) (by simp only [List.length_nil]; omega) hb22.size ?_
            intro vB V23 oB23 hbn hgn
            rw [List.nil_append] at oB23
            have hb23 := hb22.trans hbn
            have r1323 : Whole V23 g13 5 #[byt x0] := (hgn.block g13 r1322.lt (fun e => by injection e with e; exact hne e.symm)).trans r1322
            clear hbn hgn
            refine hKK.out _ _ (trivial) (fun hHeld => ?_)
            clear hKK KK
            (try simp only [List.getElem_toArray, List.getElem_cons_succ, List.getElem_cons_zero, Act.put, List.setIfInBounds_toArray, List.set_cons_zero, List.set_cons_succ])
            refine wpAnyH_ready (rs := [14]) (by kernel_rfl) (by simp) ?_
            refine AllReadyH.cons rfl (fun KK hKK => ?_) AllReadyH.nil
            have hby := Whole.bytes (l := [x0]) r1323 (by simp)
            refine step_append_seq (by rfl) _ _ 23 5 (.int .u8 0) 1 (by rfl) Tryd.underlying23 byteInfo byte_size (by omega) (by omega) bf_len bf_one w7.heap.size _ Z (by rfl) oB23 _ (some ⟨g13, 0, none⟩) 1 1 [x0] rfl (by rfl) (seq_bytes hby) (by simp only [List.length_singleton]; omega) hb23.size ?_
            intro vN V24 oN24 hbn hgn
            have hb24 := hb23.trans hbn
            obtain ⟨AN, cN, rfl, hsN⟩ := OwnS.seq (ok := fun _ => True) oN24 (fun _ _ => trivial)
            have hbN := bytes_seq hsN
            clear hbn hgn hsN
            refine hKK.out _ _ (trivial) (fun hHeld => ?_)
            clear hKK KK
            (try simp only [List.getElem_toArray, List.getElem_cons_succ, List.getElem_cons_zero, Act.put, List.setIfInBounds_toArray, List.set_cons_zero, List.set_cons_succ])
            refine wpAnyH_ready (rs := [15]) (by kernel_rfl) (by simp) ?_
            refine AllReadyH.cons rfl (fun KK hKK => ?_) AllReadyH.nil
            (try simp only [List.getElem_toArray, List.getElem_cons_succ, List.getElem_cons_zero])
            have hT : (Z.take j).length = j := by rw [List.length_take]; omega
            have h3 : Bytes V24 (Off [u3.heap.size, u1.heap.size, wd0.heap.size]) (.slice AZ (Z.take j).length cZ) (Z.take j) := by rw [hT]; exact (hZ0.below hb24 (Nat.le_refl _)).take j (by omega)
            have h4 : Bytes V24 (Off [u3.heap.size, u1.heap.size, wd0.heap.size]) (.slice AN (Z ++ [x0]).length cN) (Z ++ [x0]) := Bytes.fresh hbN hlast8
            have hL := LsO.of hb24 hlast8 (hX0.below hb24 (Nat.le_refl _)) (hZ0.below hb24 (Nat.le_refl _)) (hC0.below hb24 (Nat.le_refl _)) h3 h4 (by omega) (by omega) (by omega) (by omega) (by rw [List.length_append]; simp; omega)
            rw [hT, hC1l, show (Z ++ [x0]).length = Z.length + 1 by simp] at hL
            go_simp
            refine hKK.out _ _ (trivial) (fun hHeld => ?_)
            clear hKK KK
            (try simp only [List.getElem_toArray, List.getElem_cons_succ, List.getElem_cons_zero, Act.put, List.setIfInBounds_toArray, List.set_cons_zero, List.set_cons_succ])
            apply wpAnyH_take (i := 16) rfl (by kernel_rfl) (by kernel_rfl) (by kernel_rfl)
            case hQ => exact fun _ _ _ h => h
            case hS => exact hHeld
            case hy => (refine Or.inl ⟨by rfl, ?_⟩; intro w hSw; (try go_split_ands); go_simp; (try with_reducible rfl))
            (try simp only [List.getElem_toArray, List.getElem_cons_succ, List.getElem_cons_zero, Act.put, List.setIfInBounds_toArray, List.set_cons_zero, List.set_cons_succ])
            refine wpAnyH_done (by kernel_rfl) ?_ _
            go_wp2_with fail
            go_meet
            exact hL
        · (try simp only [List.getElem_toArray, List.getElem_cons_succ, List.getElem_cons_zero])
          go_simp
          obtain ⟨g13, hg13⟩ : ∃ g, g = V16.heap.size := ⟨_, rfl⟩
          obtain ⟨V26, hV26⟩ : ∃ x, x = V16.alloc (.cells #[byt x0] 5) := ⟨_, rfl⟩
          have hb26 : Below w7.heap.size w7 V26 := by rw [hV26]; exact hb16.alloc hb16.size _
          have o926 : OwnBf V26 w7.heap.size (.slice (some ⟨g9, 0, none⟩) 0 0) [] := by rw [hV26]; exact o916.alloc _
          have r1326 : Whole V26 g13 5 #[byt x0] := by rw [hV26, hg13]; exact Whole.here _ _ _
          have hne : g9 ≠ g13 := by omega
          try rw [show Value.int .u8 (bv x0) = byt x0 from rfl]
          rw [← hg13, ← hV26]
          clear hV26 hg13
          refine hKK.out _ _ (trivial) (fun hHeld => ?_)
          clear hKK KK
          (try simp only [List.getElem_toArray, List.getElem_cons_succ, List.getElem_cons_zero, Act.put, List.setIfInBounds_toArray, List.set_cons_zero, List.set_cons_succ])
          refine wpAnyH_ready (rs := [7]) (by kernel_rfl) (by simp) ?_
          refine AllReadyH.cons rfl (fun KK hKK => ?_) AllReadyH.nil
          (try simp only [List.getElem_toArray, List.getElem_cons_succ, List.getElem_cons_zero])
          go_simp
          go_at_call 15
          refine (within_ zc (Z.length : Int) hZi (by omega) HZC.out V26).mono ?_
          rintro e W9 ⟨⟨j, hj, rfl⟩, hw⟩
          rw [hw]
          clear hw
          have hj0 : (0 : Int) ≤ (j : Int) := by omega
          have hjc : (j : Int) ≤ (cZ : Int) := by omega
          refine hKK.out _ _ (trivial) (fun hHeld => ?_)
          clear hKK KK
          (try simp only [List.getElem_toArray, List.getElem_cons_succ, List.getElem_cons_zero, Act.put, List.setIfInBounds_toArray, List.set_cons_zero, List.set_cons_succ])
          apply wpAnyH_take (i := 8) rfl (by kernel_rfl) (by kernel_rfl) (by kernel_rfl)
          case hQ => exact fun _ _ _ h => h
          case hS => exact hHeld
          case hy => (refine Or.inl ⟨by rfl, ?_⟩; intro w hSw; (try go_split_ands); go_simp; (try with_reducible rfl))
          (try simp only [List.getElem_toArray, List.getElem_cons_succ, List.getElem_cons_zero, Act.put, List.setIfInBounds_toArray, List.set_cons_zero, List.set_cons_succ])
          refine wpAnyH_ready (rs := [11]) (by kernel_rfl) (by simp) ?_
          refine AllReadyH.cons rfl (fun KK hKK => ?_) AllReadyH.nil
          refine step_append_seq (by rfl) _ _ 23 5 (.int .u8 0) 1 (by rfl) Tryd.underlying23 byteInfo byte_size (by omega) (by omega) bf_len bf_one w7.heap.size _ [] (by rfl) o926 _ AZ Z.length cZ Z rfl (by rfl) (seq_bytes (hZ0.below hb26 (Nat.le_refl _))) (by simp only [List.length_nil]; omega) hb26.size ?_
          intro vB V28 oB28 hbn hgn
          rw [List.nil_append] at oB28
          have hb28 := hb26.trans hbn
          have r1328 : Whole V28 g13 5 #[byt x0] := (hgn.block g13 r1326.lt (fun e => by injection e with e; exact hne e.symm)).trans r1326
          clear hbn hgn
          refine hKK.out _ _ (trivial) (fun hHeld => ?_)
          clear hKK KK
          (try simp only [List.getElem_toArray, List.getElem_cons_succ, List.getElem_cons_zero, Act.put, List.setIfInBounds_toArray, List.set_cons_zero, List.set_cons_succ])
          refine wpAnyH_ready (rs := [14]) (by kernel_rfl) (by simp) ?_
          refine AllReadyH.cons rfl (fun KK hKK => ?_) AllReadyH.nil
          have hby := Whole.bytes (l := [x0]) r1328 (by simp)
          refine step_append_seq (by rfl) _ _ 23 5 (.int .u8 0) 1 (by rfl) Tryd.underlying23 byteInfo byte_size (by omega) (by omega) bf_len bf_one w7.heap.size _ Z (by rfl) oB28 _ (some ⟨g13, 0, none⟩) 1 1 [x0] rfl (by rfl) (seq_bytes hby) (by simp only [List.length_singleton]; omega) hb28.size ?_
          intro vN V29 oN29 hbn hgn
          have hb29 := hb28.trans hbn
          obtain ⟨AN, cN, rfl, hsN⟩ := OwnS.seq (ok := fun _ => True) oN29 (fun _ _ => trivial)
          have hbN := bytes_seq hsN
          clear hbn hgn hsN
          refine hKK.out _ _ (trivial) (fun hHeld => ?_)
          clear hKK KK
          (try simp only [List.getElem_toArray, List.getElem_cons_succ, List.getElem_cons_zero, Act.put, List.setIfInBounds_toArray, List.set_cons_zero, List.set_cons_succ])
          refine wpAnyH_ready (rs := [15]) (by kernel_rfl) (by simp) ?_
          refine AllReadyH.cons rfl (fun KK hKK => ?_) AllReadyH.nil
          (try simp only [List.getElem_toArray, List.getElem_cons_succ, List.getElem_cons_zero])
          have hT : (Z.take j).length = j := by rw [List.length_take]; omega
          have h3 : Bytes V29 (Off [u3.heap.size, u1.heap.size, wd0.heap.size]) (.slice AZ (Z.take j).length cZ) (Z.take j) := by rw [hT]; exact (hZ0.below hb29 (Nat.le_refl _)).take j (by omega)
          have h4 : Bytes V29 (Off [u3.heap.size, u1.heap.size, wd0.heap.size]) (.slice AN (Z ++ [x0]).length cN) (Z ++ [x0]) := Bytes.fresh hbN hlast8
          have hL := LsO.of hb29 hlast8 (hX0.below hb29 (Nat.le_refl _)) (hZ0.below hb29 (Nat.le_refl _)) (hC0.below hb29 (Nat.le_refl _)) h3 h4 (by omega) (by omega) (by omega) (by omega) (by rw [List.length_append]; simp; omega)
          rw [hT, hC1l, show (Z ++ [x0]).length = Z.length + 1 by simp] at hL
          go_simp
          refine hKK.out _ _ (trivial) (fun hHeld => ?_)
          clear hKK KK
          (try simp only [List.getElem_toArray, List.getElem_cons_succ, List.getElem_cons_zero, Act.put, List.setIfInBounds_toArray, List.set_cons_zero, List.set_cons_succ])
          apply wpAnyH_take (i := 16) rfl (by kernel_rfl) (by kernel_rfl) (by kernel_rfl)
          case hQ => exact fun _ _ _ h => h
          case hS => exact hHeld
          case hy => (refine Or.inl ⟨by rfl, ?_⟩; intro w hSw; (try go_split_ands); go_simp; (try with_reducible rfl))
          (try simp only [List.getElem_toArray, List.getElem_cons_succ, List.getElem_cons_zero, Act.put, List.setIfInBounds_toArray, List.set_cons_zero, List.set_cons_succ])
          refine wpAnyH_done (by kernel_rfl) ?_ _
          go_wp2_with fail
          go_meet
          exact hL
      · (try simp only [List.getElem_toArray, List.getElem_cons_succ, List.getElem_cons_zero])
        go_simp
        obtain ⟨g13, hg13⟩ : ∃ g, g = W0.heap.size := ⟨_, rfl⟩
        obtain ⟨V31, hV31⟩ : ∃ x, x = W0.alloc (.cells #[byt x0] 5) := ⟨_, rfl⟩
        have hb31 : Below w7.heap.size w7 V31 := by rw [hV31]; exact hb0.alloc hb0.size _
        have r1331 : Whole V31 g13 5 #[byt x0] := by rw [hV31, hg13]; exact Whole.here _ _ _
        try rw [show Value.int .u8 (bv x0) = byt x0 from rfl]
        rw [← hg13, ← hV31]
        clear hV31 hg13
        refine hKK.out _ _ (trivial) (fun hHeld => ?_)
        clear hKK KK
        (try simp only [List.getElem_toArray, List.getElem_cons_succ, List.getElem_cons_zero, Act.put, List.setIfInBounds_toArray, List.set_cons_zero, List.set_cons_succ])
        refine wpAnyH_ready (rs := [7, 9]) (by kernel_rfl) (by simp) ?_
        refine AllReadyH.cons rfl (fun KK hKK => ?_) (AllReadyH.cons rfl (fun KK hKK => ?_) AllReadyH.nil)
        · (try simp only [List.getElem_toArray, List.getElem_cons_succ, List.getElem_cons_zero])
          go_simp
          go_at_call 15
          refine (within_ zc (Z.length : Int) hZi (by omega) HZC.out V31).mono ?_
          rintro e W9 ⟨⟨j, hj, rfl⟩, hw⟩
          rw [hw]
          clear hw
          have hj0 : (0 : Int) ≤ (j : Int) := by omega
          have hjc : (j : Int) ≤ (cZ : Int) := by omega
          refine hKK.out _ _ (trivial) (fun hHeld => ?_)
          clear hKK KK
          (try simp only [List.getElem_toArray, List.getElem_cons_succ, List.getElem_cons_zero, Act.put, List.setIfInBounds_toArray, List.set_cons_zero, List.set_cons_succ])
          apply wpAnyH_take (i := 8) rfl (by kernel_rfl) (by kernel_rfl) (by kernel_rfl)
          case hQ => exact fun _ _ _ h => h
          case hS => exact hHeld
          case hy => (refine Or.inl ⟨by rfl, ?_⟩; intro w hSw; (try go_split_ands); go_simp; (try with_reducible rfl))
          (try simp only [List.getElem_toArray, List.getElem_cons_succ, List.getElem_cons_zero, Act.put, List.setIfInBounds_toArray, List.set_cons_zero, List.set_cons_succ])
          refine wpAnyH_ready (rs := [9]) (by kernel_rfl) (by simp) ?_
          refine AllReadyH.cons rfl (fun KK hKK => ?_) AllReadyH.nil
          (try simp only [List.getElem_toArray, List.getElem_cons_succ, List.getElem_cons_zero])
          go_simp
          obtain ⟨g9, hg9⟩ : ∃ g, g = V31.heap.size := ⟨_, rfl⟩
          obtain ⟨V33, hV33⟩ : ∃ x, x = V31.alloc (.cells #[] 5) := ⟨_, rfl⟩
          have hb33 : Below w7.heap.size w7 V33 := by rw [hV33]; exact hb31.alloc hb31.size _
          have h9l : g9 < V33.heap.size := by rw [hV33, hg9]; simp
          have r1333 : Whole V33 g13 5 #[byt x0] := by rw [hV33]; exact r1331.alloc _
          have o933 : OwnBf V33 w7.heap.size (.slice (some ⟨g9, 0, none⟩) 0 0) [] := owns_empty (by rw [hV33, hg9]; exact heap_alloc_new _ _) (by rw [hg9]; exact hb31.size)
          have hne : g9 ≠ g13 := by have := Whole.lt r1331; omega
          rw [← hg9, ← hV33]
          clear hV33 hg9
          refine hKK.out _ _ (trivial) (fun hHeld => ?_)
          clear hKK KK
          (try simp only [List.getElem_toArray, List.getElem_cons_succ, List.getElem_cons_zero, Act.put, List.setIfInBounds_toArray, List.set_cons_zero, List.set_cons_succ])
          refine wpAnyH_ready (rs := [11]) (by kernel_rfl) (by simp) ?_
          refine AllReadyH.cons rfl (fun KK hKK => ?_) AllReadyH.nil
          refine step_append_seq (by rfl) _ _ 23 5 (.int .u8 0) 1 (by rfl) Tryd.underlying23 byteInfo byte_size (by omega) (by omega) bf_len bf_one w7.heap.size _ [] (by rfl) o933 _ AZ Z.length cZ Z rfl (by rfl) (seq_bytes (hZ0.below hb33 (Nat.le_refl _))) (by simp only [List.length_nil]; omega) hb33.size ?_
          intro vB V34 oB34 hbn hgn
          rw [List.nil_append] at oB34
          have hb34 := hb33.trans hbn
          have r1334 : Whole V34 g13 5 #[byt x0] := (hgn.block g13 r1333.lt (fun e => by injection e with e; exact hne e.symm)).trans r1333
          clear hbn hgn
          refine hKK.out _ _ (trivial) (fun hHeld => ?_)
          clear hKK KK
          (try simp only [List.getElem_toArray, List.getElem_cons_succ, List.getElem_cons_zero, Act.put, List.setIfInBounds_toArray, List.set_cons_zero, List.set_cons_succ])
          refine wpAnyH_ready (rs := [14]) (by kernel_rfl) (by simp) ?_
          refine AllReadyH.cons rfl (fun KK hKK => ?_) AllReadyH.nil
          have hby := Whole.bytes (l := [x0]) r1334 (by simp)
          refine step_append_seq (by rfl) _ _ 23 5 (.int .u8 0) 1 (by rfl) Tryd.underlying23 byteInfo byte_size (by omega) (by omega) bf_len bf_one w7.heap.size _ Z (by rfl) oB34 _ (some ⟨g13, 0, none⟩) 1 1 [x0] rfl (by rfl) (seq_bytes hby) (by simp only [List.length_singleton]; omega) hb34.size ?_
          intro vN V35 oN35 hbn hgn
          have hb35 := hb34.trans hbn
          obtain ⟨AN, cN, rfl, hsN⟩ := OwnS.seq (ok := fun _ => True) oN35 (fun _ _ => trivial)
          have hbN := bytes_seq hsN
          clear hbn hgn hsN
          refine hKK.out _ _ (trivial) (fun hHeld => ?_)
          clear hKK KK
          (try simp only [List.getElem_toArray, List.getElem_cons_succ, List.getElem_cons_zero, Act.put, List.setIfInBounds_toArray, List.set_cons_zero, List.set_cons_succ])
          refine wpAnyH_ready (rs := [15]) (by kernel_rfl) (by simp) ?_
          refine AllReadyH.cons rfl (fun KK hKK => ?_) AllReadyH.nil
          (try simp only [List.getElem_toArray, List.getElem_cons_succ, List.getElem_cons_zero])
          have hT : (Z.take j).length = j := by rw [List.length_take]; omega
          have h3 : Bytes V35 (Off [u3.heap.size, u1.heap.size, wd0.heap.size]) (.slice AZ (Z.take j).length cZ) (Z.take j) := by rw [hT]; exact (hZ0.below hb35 (Nat.le_refl _)).take j (by omega)
          have h4 : Bytes V35 (Off [u3.heap.size, u1.heap.size, wd0.heap.size]) (.slice AN (Z ++ [x0]).length cN) (Z ++ [x0]) := Bytes.fresh hbN hlast8
          have hL := LsO.of hb35 hlast8 (hX0.below hb35 (Nat.le_refl _)) (hZ0.below hb35 (Nat.le_refl _)) (hC0.below hb35 (Nat.le_refl _)) h3 h4 (by omega) (by omega) (by omega) (by omega) (by rw [List.length_append]; simp; omega)
          rw [hT, hC1l, show (Z ++ [x0]).length = Z.length + 1 by simp] at hL
          go_simp
          refine hKK.out _ _ (trivial) (fun hHeld => ?_)
          clear hKK KK
          (try simp only [List.getElem_toArray, List.getElem_cons_succ, List.getElem_cons_zero, Act.put, List.setIfInBounds_toArray, List.set_cons_zero, List.set_cons_succ])
          apply wpAnyH_take (i := 16) rfl (by kernel_rfl) (by kernel_rfl) (by kernel_rfl)
          case hQ => exact fun _ _ _ h => h
          case hS => exact hHeld
          case hy => (refine Or.inl ⟨by rfl, ?_⟩; intro w hSw; (try go_split_ands); go_simp; (try with_reducible rfl))
          (try simp only [List.getElem_toArray, List.getElem_cons_succ, List.getElem_cons_zero, Act.put, List.setIfInBounds_toArray, List.set_cons_zero, List.set_cons_succ])
          refine wpAnyH_done (by kernel_rfl) ?_ _
          go_wp2_with fail
          go_meet
          exact hL
        · (try simp only [List.getElem_toArray, List.getElem_cons_succ, List.getElem_cons_zero])
          go_simp
          obtain ⟨g9, hg9⟩ : ∃ g, g = V31.heap.size := ⟨_, rfl⟩
          obtain ⟨V37, hV37⟩ : ∃ x, x = V31.alloc (.cells #[] 5) := ⟨_, rfl⟩
          have hb37 : Below w7.heap.size w7 V37 := by rw [hV37]; exact hb31.alloc hb31.size _
          have h9l : g9 < V37.heap.size := by rw [hV37, hg9]; simp
          have r1337 : Whole V37 g13 5 #[byt x0] := by rw [hV37]; exact r1331.alloc _
          have o937 : OwnBf V37 w7.heap.size (.slice (some ⟨g9, 0, none⟩) 0 0) [] := owns_empty (by rw [hV37, hg9]; exact heap_alloc_new _ _) (by rw [hg9]; exact hb31.size)
          have hne : g9 ≠ g13 := by have := Whole.lt r1331; omega
          rw [← hg9, ← hV37]
          clear hV37 hg9
          refine hKK.out _ _ (trivial) (fun hHeld => ?_)
          clear hKK KK
          (try simp only [List.getElem_toArray, List.getElem_cons_succ, List.getElem_cons_zero, Act.put, List.setIfInBounds_toArray, List.set_cons_zero, List.set_cons_succ])
          refine wpAnyH_ready (rs := [7]) (by kernel_rfl) (by simp) ?_
          refine AllReadyH.cons rfl (fun KK hKK => ?_) AllReadyH.nil
          (try simp only [List.getElem_toArray, List.getElem_cons_succ, List.getElem_cons_zero])
          go_simp
          go_at_call 15
          refine (within_ zc (Z.length : Int) hZi (by omega) HZC.out V37).mono ?_
          rintro e W9 ⟨⟨j, hj, rfl⟩, hw⟩
          rw [hw]
          clear hw
          have hj0 : (0 : Int) ≤ (j : Int) := by omega
          have hjc : (j : Int) ≤ (cZ : Int) := by omega
          refine hKK.out _ _ (trivial) (fun hHeld => ?_)
          clear hKK KK
          (try simp only [List.getElem_toArray, List.getElem_cons_succ, List.getElem_cons_zero, Act.put, List.setIfInBounds_toArray, List.set_cons_zero, List.set_cons_succ])
          apply wpAnyH_take (i := 8) rfl (by kernel_rfl) (by kernel_rfl) (by kernel_rfl)
          case hQ => exact fun _ _ _ h => h
          case hS => exact hHeld
          case hy => (refine Or.inl ⟨by rfl, ?_⟩; intro w hSw; (try go_split_ands); go_simp; (try with_reducible rfl))
          (try simp only [List.getElem_toArray, List.getElem_cons_succ, List.getElem_cons_zero, Act.put, List.setIfInBounds_toArray, List.set_cons_zero, List.set_cons_succ])
          refine wpAnyH_ready (rs := [11]) (by kernel_rfl) (by simp) ?_
          refine AllReadyH.cons rfl (fun KK hKK => ?_) AllReadyH.nil
          refine step_append_seq (by rfl) _ _ 23 5 (.int .u8 0) 1 (by rfl) Tryd.underlying23 byteInfo byte_size (by omega) (by omega) bf_len bf_one w7.heap.size _ [] (by rfl) o937 _ AZ Z.length cZ Z rfl (by rfl) (seq_bytes (hZ0.below hb37 (Nat.le_refl _))) (by simp only [List.length_nil]; omega) hb37.size ?_
          intro vB V39 oB39 hbn hgn
          rw [List.nil_append] at oB39
          have hb39 := hb37.trans hbn
          have r1339 : Whole V39 g13 5 #[byt x0] := (hgn.block g13 r1337.lt (fun e => by injection e with e; exact hne e.symm)).trans r1337
          clear hbn hgn
          refine hKK.out _ _ (trivial) (fun hHeld => ?_)
          clear hKK KK
          (try simp only [List.getElem_toArray, List.getElem_cons_succ, List.getElem_cons_zero, Act.put, List.setIfInBounds_toArray, List.set_cons_zero, List.set_cons_succ])
          refine wpAnyH_ready (rs := [14]) (by kernel_rfl) (by simp) ?_
          refine AllReadyH.cons rfl (fun KK hKK => ?_) AllReadyH.nil
          have hby := Whole.bytes (l := [x0]) r1339 (by simp)
          refine step_append_seq (by rfl) _ _ 23 5 (.int .u8 0) 1 (by rfl) Tryd.underlying23 byteInfo byte_size (by omega) (by omega) bf_len bf_one w7.heap.size _ Z (by rfl) oB39 _ (some ⟨g13, 0, none⟩) 1 1 [x0] rfl (by rfl) (seq_bytes hby) (by simp only [List.length_singleton]; omega) hb39.size ?_
          intro vN V40 oN40 hbn hgn
          have hb40 := hb39.trans hbn
          obtain ⟨AN, cN, rfl, hsN⟩ := OwnS.seq (ok := fun _ => True) oN40 (fun _ _ => trivial)
          have hbN := bytes_seq hsN
          clear hbn hgn hsN
          refine hKK.out _ _ (trivial) (fun hHeld => ?_)
          clear hKK KK
          (try simp only [List.getElem_toArray, List.getElem_cons_succ, List.getElem_cons_zero, Act.put, List.setIfInBounds_toArray, List.set_cons_zero, List.set_cons_succ])
          refine wpAnyH_ready (rs := [15]) (by kernel_rfl) (by simp) ?_
          refine AllReadyH.cons rfl (fun KK hKK => ?_) AllReadyH.nil
          (try simp only [List.getElem_toArray, List.getElem_cons_succ, List.getElem_cons_zero])
          have hT : (Z.take j).length = j := by rw [List.length_take]; omega
          have h3 : Bytes V40 (Off [u3.heap.size, u1.heap.size, wd0.heap.size]) (.slice AZ (Z.take j).length cZ) (Z.take j) := by rw [hT]; exact (hZ0.below hb40 (Nat.le_refl _)).take j (by omega)
          have h4 : Bytes V40 (Off [u3.heap.size, u1.heap.size, wd0.heap.size]) (.slice AN (Z ++ [x0]).length cN) (Z ++ [x0]) := Bytes.fresh hbN hlast8
          have hL := LsO.of hb40 hlast8 (hX0.below hb40 (Nat.le_refl _)) (hZ0.below hb40 (Nat.le_refl _)) (hC0.below hb40 (Nat.le_refl _)) h3 h4 (by omega) (by omega) (by omega) (by omega) (by rw [List.length_append]; simp; omega)
          rw [hT, hC1l, show (Z ++ [x0]).length = Z.length + 1 by simp] at hL
          go_simp
          refine hKK.out _ _ (trivial) (fun hHeld => ?_)
          clear hKK KK
          (try simp only [List.getElem_toArray, List.getElem_cons_succ, List.getElem_cons_zero, Act.put, List.setIfInBounds_toArray, List.set_cons_zero, List.set_cons_succ])
          apply wpAnyH_take (i := 16) rfl (by kernel_rfl) (by kernel_rfl) (by kernel_rfl)
          case hQ => exact fun _ _ _ h => h
          case hS => exact hHeld
          case hy => (refine Or.inl ⟨by rfl, ?_⟩; intro w hSw; (try go_split_ands); go_simp; (try with_reducible rfl))
          (try simp only [List.getElem_toArray, List.getElem_cons_succ, List.getElem_cons_zero, Act.put, List.setIfInBounds_toArray, List.set_cons_zero, List.set_cons_succ])
          refine wpAnyH_done (by kernel_rfl) ?_ _
          go_wp2_with fail
          go_meet
          exact hL
    case rest =>
      obtain ⟨g1, f5, rfl, hel, hbu⟩ := hcut
      rename World => wv
      have hswv : w7.heap.size ≤ wv.heap.size := hbu.size
      have H54 : Hid (Below w.heap.size w wv) := Lib.hid ((Below.trans H46.out (Below.mono hbu (Below.size H46.out))))
      have H55 : Hid (Deck wd0.heap.size wv) := Lib.hid ((Deck.below H47.out hbu (Deck.lt H47.out)))
      have H56 : Hid (ALRow wv u1.heap.size b.free b.seed b.fresh (.slice Amb b.macs.length cmb) (.slice Abb b.boxes.length cbb)) := Lib.hid ((Whole.below H48.out hbu (Whole.lt H48.out)))
      have H57 : Hid (TGRow wv u3.heap.size K) := Lib.hid ((Whole.below H49.out hbu (Whole.lt H49.out)))
      have H58 : Hid (AlV wv (Off [u3.heap.size, u1.heap.size, wd0.heap.size]) (.agg (alc b.free b.seed b.fresh (.slice Amb b.macs.length cmb) (.slice Abb b.boxes.length cbb))) b) := Lib.hid ((AlV.below H50.out hbu (Nat.le_refl _)))
      have H59 : Hid (Bytes wv (Off [u3.heap.size, u1.heap.size, wd0.heap.size]) (.slice AZ Z.length cZ) Z) := Lib.hid ((Bytes.below H51.out hbu (Nat.le_refl _)))
      have H60 : Hid (Bytes wv (Off [u3.heap.size, u1.heap.size, wd0.heap.size]) (.slice A1 X.length c1) X) := Lib.hid ((Bytes.below H52.out hbu (Nat.le_refl _)))
      have H61 : Hid (Bytes wv (Off [u3.heap.size, u1.heap.size, wd0.heap.size]) (.slice (some ⟨gC, 0, none⟩) C1.length c2) C1) := Lib.hid ((Bytes.below H53.out hbu (Nat.le_refl _)))
      clear H46 H47 H48 H49 H50 H51 H52 H53
      have H62 : Hid (ElO [u3.heap.size, u1.heap.size, wd0.heap.size] g1 f5 wv) := Lib.hid (hel)
      clear hel hbu hlast8 hzci HZC
      clear H60
      clear H59
      clear H61
      go_wp2_with fail
      go_loopw [20] (fun v wr => ∃ i : Nat, v = .int .i64 i ∧ i ≤ 5 ∧ Turn wd0.heap.size wv wr) (fun v _ => 5 - (intOf v).toNat)
      case atStart => exact ⟨0, rfl, by omega, ⟨H55.out, Below.refl _ _, Oth.refl _ _⟩⟩
      case round =>
        obtain ⟨i, rfl, hi, ht⟩ := hrel
        have hsw2 : wv.heap.size ≤ wr.heap.size := Turn.size ht
        have HTI := Lib.hid ht
        have H63 : Hid (Below w.heap.size w wr) := Lib.hid ((base_turn H54.out ht (by omega)))
        have H64 : Hid (Deck wd0.heap.size wr) := Lib.hid ((ht).1)
        have H65 : Hid (ALRow wr u1.heap.size b.free b.seed b.fresh (.slice Amb b.macs.length cmb) (.slice Abb b.boxes.length cbb)) := Lib.hid (((ht).2.2.oth _ _ _ (by omega) H56.out))
        have H66 : Hid (TGRow wr u3.heap.size K) := Lib.hid (((ht).2.2.oth _ _ _ (by omega) H57.out))
        have H67 : Hid (AlV wr (Off [u3.heap.size, u1.heap.size, wd0.heap.size]) (.agg (alc b.free b.seed b.fresh (.slice Amb b.macs.length cmb) (.slice Abb b.boxes.length cbb))) b) := Lib.hid ((AlV.turn H58.out ht (by simp) (Turn.size ht)))
        have H68 : Hid (ElO [u3.heap.size, u1.heap.size, wd0.heap.size] g1 f5 wr) := Lib.hid ((ElO.turn H62.out ht (by simp)))
        clear H54 H55 H56 H57 H58 H62
        clear ht
        by_cases hlt : i < 5
        case neg =>
          obtain rfl : i = 5 := by omega
          have hcl := bawk wr (Tables.below HT.out (Nat.le_refl _) H63.out)
          clear hlt hi
          go_wp2_with fail
          refine hcl.mono ?_
          rintro e w9 ⟨rfl, hb9⟩
          clear hcl
          have HG := Lib.hid (Below.trans H63.out (Below.mono hb9 (Below.size H63.out)))
          go_wp2
          go_ret
          exact ⟨rfl, HG.out⟩
        case pos =>
          obtain ⟨A3, hA3⟩ : ∃ A, A = (f5 i).1 := ⟨_, rfl⟩
          obtain ⟨c3, hc3⟩ : ∃ c, c = (f5 i).2.1 := ⟨_, rfl⟩
          obtain ⟨M, hM⟩ : ∃ M, M = (f5 i).2.2 := ⟨_, rfl⟩
          have hel : ∀ W, ElO [u3.heap.size, u1.heap.size, wd0.heap.size] g1 f5 W → g1 < W.heap.size ∧ W.cell? ⟨g1, i, none⟩ = some (.slice A3 M.length c3) ∧ Bytes W (Off [u3.heap.size, u1.heap.size, wd0.heap.size]) (.slice A3 M.length c3) M ∧ M.length ≤ 5000 := fun W h => by
            obtain ⟨q1, q2, q3⟩ := h.2.2 i hlt
            rw [hA3, hc3, hM]
            exact ⟨h.2.1, q1, q2, q3⟩
          have hM5 : M.length ≤ 5000 := (hel _ H68.out).2.2.2
          have HEL := Lib.hid hel
          clear hel hA3 hc3 hM
          have i0 : (0 : Int) ≤ (i : Int) := by omega
          have i5 : (i : Int) < 5 := by omega
          go_wp2_with fail
          rename World => w2
          go_loopw [21] (fun v wr => ∃ n : Nat, v = .int .i64 n ∧ n ≤ 2 ∧ Turn wd0.heap.size w2 wr) (fun v _ => 2 - (intOf v).toNat)
          case atStart => exact ⟨0, rfl, by omega, ⟨H64.out, Below.refl _ _, Oth.refl _ _⟩⟩
          case round =>
            obtain ⟨n, rfl, hn, ht⟩ := hrel
            have hsw3 : w2.heap.size ≤ wr.heap.size := Turn.size ht
            have HTN := Lib.hid ht
            have H69 : Hid (Below w.heap.size w wr) := Lib.hid ((base_turn H63.out ht (by omega)))
            have H70 : Hid (Deck wd0.heap.size wr) := Lib.hid ((ht).1)
            have H71 : Hid (ALRow wr u1.heap.size b.free b.seed b.fresh (.slice Amb b.macs.length cmb) (.slice Abb b.boxes.length cbb)) := Lib.hid (((ht).2.2.oth _ _ _ (by omega) H65.out))
            have H72 : Hid (TGRow wr u3.heap.size K) := Lib.hid (((ht).2.2.oth _ _ _ (by omega) H66.out))
            have H73 : Hid (AlV wr (Off [u3.heap.size, u1.heap.size, wd0.heap.size]) (.agg (alc b.free b.seed b.fresh (.slice Amb b.macs.length cmb) (.slice Abb b.boxes.length cbb))) b) := Lib.hid ((AlV.turn H67.out ht (by simp) (Turn.size ht)))
            have H74 : Hid (ElO [u3.heap.size, u1.heap.size, wd0.heap.size] g1 f5 wr) := Lib.hid ((ElO.turn H68.out ht (by simp)))
            clear H63 H64 H65 H66 H67 H68
            clear ht
            by_cases hlt2 : n < 2
            case neg =>
              obtain rfl : n = 2 := by omega
              clear hlt2 hn
              go_wp2_with fail
              go_roundw
              case rel => exact ⟨i + 1, by go_num, by omega, HTI.out.trans HTN.out⟩
              case measure => simp [intOf]; omega
            case pos =>
              have n0 : (0 : Int) ≤ (n : Int) := by omega
              have n2 : (n : Int) < 2 := by omega
              have ks0 : ∀ z0 : Array Value, Whole (wr.alloc (.cells z0 28)) wr.heap.size 28 z0 := fun _ => (Whole.here _ _ _)
              go_upto_region 16 with (first
                | (with_reducible refine wpList_load_tag rfl _ rfl rfl H72.out (tag_size hlK) ?_)
                | (with_reducible refine wpList_store_tag rfl _ _ rfl (g := wr.heap.size) rfl rfl (ks0 _) rfl (tag_size hlK) (tag_one _) ?_))
              clear ks0
              rw [ztr_lit]
              obtain ⟨w5, hw5⟩ : ∃ q, q = (wr.alloc (.cells ztr 28)).setRow wr.heap.size (K.map byt).toArray := ⟨_, rfl⟩
              rw [← hw5]
              have hb5 : Below wr.heap.size wr w5 := by rw [hw5]; exact below_setRow ((Below.refl _ _).alloc (Nat.le_refl _) _) (Nat.le_refl _) _
              have hr5 : TGRow w5 wr.heap.size K := by rw [hw5]; exact Whole.setRow (Whole.here _ _ _) _
              have hsw5 : wr.heap.size + 1 ≤ w5.heap.size := by rw [hw5]; simp
              have ht5 : Turn wd0.heap.size wr w5 := Turn.below (Deck.refl H70.out) hb5 (Deck.lt H70.out) (Nat.le_refl _)
              have hDl : wd0.heap.size < wr.heap.size := Deck.lt H70.out
              have HB5 := Lib.hid hb5
              have HR5 := Lib.hid hr5
              have HT5 := Lib.hid ht5
              clear hw5 hb5 hr5 ht5
              go_upto_if 95 with fail
              go_cut [] (fun wx => ∃ K2 : List B8, K2.length = 32 ∧ TGRow wx wr.heap.size K2 ∧ Turn wd0.heap.size wr wx)
              case first =>
                by_cases hn1 : n = 1
                · have hn2 : (n : Int) = 1 := by omega
                  subst hn1
                  have hdk5 := H70.out.below HB5.out (Deck.lt H70.out)
                  have hvb5 := AlV.below H73.out HB5.out (Nat.le_refl _)
                  have hxb5 := Whole.below H71.out HB5.out (Whole.lt H71.out)
                  have hcl := dknown wd0.heap.size w5 hdk5 hvb5 (fun b h => h _ (by simp))
                  clear hn2 n0 n2 hlt2 hn
                  go_wp2_with (with_reducible refine wpList_load_alg rfl _ rfl rfl hxb5 (alc_size _ _ _ _ _) ?_)
                  refine hcl.mono ?_
                  rintro e u5 ⟨⟨K2, hlK2, rfl⟩, ht⟩
                  clear hcl hdk5 hvb5 hxb5
                  have hr6 : TGRow u5 wr.heap.size K := ht.2.2.oth _ _ _ (by omega) HR5.out
                  have ht6 : Turn wd0.heap.size wr u5 := HT5.out.trans ht
                  have hsu5 : w5.heap.size ≤ u5.heap.size := Turn.size ht
                  clear ht
                  go_wp2_with (with_reducible refine wpList_store_tag rfl _ _ rfl (g := wr.heap.size) rfl rfl hr6 (tag_size hlK) (tag_size hlK2) (tag_one _) ?_)
                  go_meet
                  exact ⟨K2, hlK2, Whole.setRow hr6 _, Turn.below ht6 (below_setRow (Below.refl _ _) (Nat.le_refl _) _) hDl (Nat.le_refl _)⟩
                · have hn2 : ¬ (n : Int) = 1 := by omega
                  clear n0 n2 hlt2 hn
                  go_wp2_with fail
                  go_meet
                  exact ⟨K, hlK, HR5.out, HT5.out⟩
              case rest =>
                obtain ⟨K2, hlK2, hrk, ht⟩ := hcut
                rename World => wk
                have hswk : wr.heap.size ≤ wk.heap.size := Turn.size ht
                clear HB5 HR5 HT5
                have H75 : Hid (Turn wd0.heap.size w2 wr) := Lib.hid (HTN.out)
                have H76 : Hid (Below w.heap.size w wk) := Lib.hid ((base_turn H69.out ht (by omega)))
                have H77 : Hid (Deck wd0.heap.size wk) := Lib.hid ((ht).1)
                have H78 : Hid (ALRow wk u1.heap.size b.free b.seed b.fresh (.slice Amb b.macs.length cmb) (.slice Abb b.boxes.length cbb)) := Lib.hid (((ht).2.2.oth _ _ _ (by omega) H71.out))
                have H79 : Hid (TGRow wk u3.heap.size K) := Lib.hid (((ht).2.2.oth _ _ _ (by omega) H72.out))
                have H80 : Hid (AlV wk (Off [u3.heap.size, u1.heap.size, wd0.heap.size]) (.agg (alc b.free b.seed b.fresh (.slice Amb b.macs.length cmb) (.slice Abb b.boxes.length cbb))) b) := Lib.hid ((AlV.turn H73.out ht (by simp) (Turn.size ht)))
                have H81 : Hid (ElO [u3.heap.size, u1.heap.size, wd0.heap.size] g1 f5 wk) := Lib.hid ((ElO.turn H74.out ht (by simp)))
                have H82 : Hid (Turn wd0.heap.size w2 wk) := Lib.hid ((Turn.trans H75.out ht))
                clear H69 H70 H71 H72 H73 H74 H75
                have H83 : Hid (TGRow wk wr.heap.size K2) := Lib.hid (hrk)
                clear ht hrk HTN HTI hsw5
                obtain ⟨R, hR⟩ : ∃ R, R = aOpen b K2 M := ⟨_, rfl⟩
                have hU5 : R.1.length ≤ 5000 := by rw [hR]; exact open_len H80.out hM5
                obtain ⟨U, f0⟩ := R
                have HRO := Lib.hid hR
                clear hR
                dsimp only at hU5
                have hcl : ∀ W, Below wk.heap.size wk W → Calls Tryd.prog 21 #[.agg (alc b.free b.seed b.fresh (.slice Amb b.macs.length cmb) (.slice Abb b.boxes.length cbb)), .agg (K2.map byt).toArray, .slice A3 M.length c3] W fun x w' => (∃ v, x = .returned (.tuple #[v, .int .i64 f0]) ∧ Bytes w' (fun q => W.heap.size ≤ q) v U) ∧ Below W.heap.size W w' := fun W hb => by
                  have := popen (AlV.below H80.out hb (Nat.le_refl _)) hlK2 (Bytes.below (HEL.out _ H81.out).2.2.1 hb (Nat.le_refl _)) (Tables.below (Tables.below HT.out (Nat.le_refl _) H76.out) (Nat.le_refl _) hb) (fun _ => openc combok hlK2)
                  rw [← HRO.out] at this
                  exact this
                have HCL := Lib.hid hcl
                clear hcl
                obtain ⟨hg1l, hcel, -, -⟩ := HEL.out _ H81.out
                go_upto_region 18 with fail
                have hcc : ∀ W, Below wk.heap.size wk W → (fun W : World => W.rangeAt u1.heap.size 0 (alcl b.free b.seed b.fresh (.slice Amb b.macs.length cmb) (.slice Abb b.boxes.length cbb)) ∧ W.rangeAt wr.heap.size 0 (K2.map byt) ∧ W.cell? ⟨g1, i, none⟩ = some (.slice A3 M.length c3)) W := fun W hb => ⟨Whole.range (Whole.below H78.out hb (Whole.lt H78.out)), TGRow.range (Whole.below H83.out hb (Whole.lt H83.out)), (hb.cell (p := ⟨g1, i, none⟩) hg1l).trans hcel⟩
                have HCC := Lib.hid hcc
                clear hcc
                have hb0 : Below wk.heap.size wk wk.drew := Below.drew (Below.refl _ _)
                refine wp_region_held_drew (S := fun W : World => W.rangeAt u1.heap.size 0 (alcl b.free b.seed b.fresh (.slice Amb b.macs.length cmb) (.slice Abb b.boxes.length cbb)) ∧ W.rangeAt wr.heap.size 0 (K2.map byt) ∧ W.cell? ⟨g1, i, none⟩ = some (.slice A3 M.length c3)) (by kernel_rfl) (HCC.out _ hb0) (fun hHeld => ?_)
                apply wpAnyH_take (i := 0) rfl (by kernel_rfl) (by kernel_rfl) (by kernel_rfl)
                case hQ => exact fun _ _ _ h => h
                case hS => exact hHeld
                case hy => exact yieldsIf_load_mid (by rfl) 32 _ rfl u1.heap.size (0) rfl ((alcl b.free b.seed b.fresh (.slice Amb b.macs.length cmb) (.slice Abb b.boxes.length cbb))) _ (fun w hS => hS.1) Tryd.underlying32 rfl (by rw [algSize, alcl_length])
                (try simp only [List.getElem_toArray, List.getElem_cons_zero, Act.put, List.setIfInBounds_toArray, List.set_cons_zero, List.set_cons_succ])
                apply wpAnyH_take (i := 1) rfl (by kernel_rfl) (by kernel_rfl) (by kernel_rfl)
                case hQ => exact fun _ _ _ h => h
                case hS => exact hHeld
                case hy => exact yieldsIf_load_mid (by rfl) 28 _ rfl wr.heap.size (0) rfl ((K2.map byt)) _ (fun w hS => hS.2.1) Tryd.underlying28 rfl (by rw [tagSize, List.length_map, hlK2])
                (try simp only [List.getElem_toArray, List.getElem_cons_succ, List.getElem_cons_zero, Act.put, List.setIfInBounds_toArray, List.set_cons_zero, List.set_cons_succ])
                apply wpAnyH_take (i := 2) rfl (by kernel_rfl) (by kernel_rfl) (by kernel_rfl)
                case hQ => exact fun _ _ _ h => h
                case hS => exact hHeld
                case hy => (refine Or.inl ⟨by rfl, ?_⟩; intro w hSw; (try go_split_ands); go_simp; (try with_reducible rfl))
                (try simp only [List.getElem_toArray, List.getElem_cons_succ, List.getElem_cons_zero, Act.put, List.setIfInBounds_toArray, List.set_cons_zero, List.set_cons_succ])
                apply wpAnyH_take (i := 3) rfl (by kernel_rfl) (by kernel_rfl) (by kernel_rfl)
                case hQ => exact fun _ _ _ h => h
                case hS => exact hHeld
                case hy => (refine Or.inl ⟨by rfl, ?_⟩; intro w hSw; (try go_split_ands); go_simp; (try with_reducible rfl))
                (try simp only [List.getElem_toArray, List.getElem_cons_succ, List.getElem_cons_zero, Act.put, List.setIfInBounds_toArray, List.set_cons_zero, List.set_cons_succ])
                apply wpAnyH_take (i := 4) rfl (by kernel_rfl) (by kernel_rfl) (by kernel_rfl)
                case hQ => exact fun _ _ _ h => h
                case hS => exact hHeld
                case hy => (refine Or.inl ⟨by rfl, ?_⟩; intro w hSw; (try go_split_ands); go_simp; (try with_reducible rfl))
                (try simp only [List.getElem_toArray, List.getElem_cons_succ, List.getElem_cons_zero, Act.put, List.setIfInBounds_toArray, List.set_cons_zero, List.set_cons_succ])
                apply wpAnyH_take (i := 5) rfl (by kernel_rfl) (by kernel_rfl) (by kernel_rfl)
                case hQ => exact fun _ _ _ h => h
                case hS => exact hHeld
                case hy => (refine Or.inl ⟨by rfl, ?_⟩; intro w hSw; (try go_split_ands); go_simp; (try with_reducible rfl))
                (try simp only [List.getElem_toArray, List.getElem_cons_succ, List.getElem_cons_zero, Act.put, List.setIfInBounds_toArray, List.set_cons_zero, List.set_cons_succ])
                refine wpAnyH_ready (rs := [6]) (by kernel_rfl) (by simp) ?_
                refine AllReadyH.cons rfl (fun KK hKK => ?_) AllReadyH.nil
                (try simp only [List.getElem_toArray, List.getElem_cons_succ, List.getElem_cons_zero])
                go_simp
                go_at_call 21
                refine (HCL.out _ hb0).mono ?_
                rintro x y1 ⟨⟨vy1, rfl, hv⟩, hvy1⟩
                have hvy1t := Below.trans hb0 (Below.mono hvy1 (Below.size hb0))
                obtain ⟨Au, cu, rfl, -⟩ := id hv
                have HUu := Lib.hid (hv.mono (Q' := fun _ => True) fun _ _ _ => trivial)
                clear hv
                clear hvy1
                refine hKK.out _ _ (HCC.out _ hvy1t) (fun hHeld => ?_)
                clear hKK KK
                (try simp only [List.getElem_toArray, List.getElem_cons_succ, List.getElem_cons_zero, Act.put, List.setIfInBounds_toArray, List.set_cons_zero, List.set_cons_succ])
                apply wpAnyH_take (i := 7) rfl (by kernel_rfl) (by kernel_rfl) (by kernel_rfl)
                case hQ => exact fun _ _ _ h => h
                case hS => exact hHeld
                case hy => (refine Or.inl ⟨by rfl, ?_⟩; intro w hSw; (try go_split_ands); go_simp; (try with_reducible rfl))
                (try simp only [List.getElem_toArray, List.getElem_cons_succ, List.getElem_cons_zero, Act.put, List.setIfInBounds_toArray, List.set_cons_zero, List.set_cons_succ])
                apply wpAnyH_take (i := 8) rfl (by kernel_rfl) (by kernel_rfl) (by kernel_rfl)
                case hQ => exact fun _ _ _ h => h
                case hS => exact hHeld
                case hy => (refine Or.inl ⟨by rfl, ?_⟩; intro w hSw; (try go_split_ands); go_simp; (try with_reducible rfl))
                (try simp only [List.getElem_toArray, List.getElem_cons_succ, List.getElem_cons_zero, Act.put, List.setIfInBounds_toArray, List.set_cons_zero, List.set_cons_succ])
                apply wpAnyH_take (i := 9) rfl (by kernel_rfl) (by kernel_rfl) (by kernel_rfl)
                case hQ => exact fun _ _ _ h => h
                case hS => exact hHeld
                case hy => (refine Or.inl ⟨by rfl, ?_⟩; intro w hSw; (try go_split_ands); go_simp; (try with_reducible rfl))
                (try simp only [List.getElem_toArray, List.getElem_cons_succ, List.getElem_cons_zero, Act.put, List.setIfInBounds_toArray, List.set_cons_zero, List.set_cons_succ])
                apply wpAnyH_take (i := 10) rfl (by kernel_rfl) (by kernel_rfl) (by kernel_rfl)
                case hQ => exact fun _ _ _ h => h
                case hS => exact hHeld
                case hy => (refine Or.inl ⟨by rfl, ?_⟩; intro w hSw; (try go_split_ands); go_simp; (try with_reducible rfl))
                (try simp only [List.getElem_toArray, List.getElem_cons_succ, List.getElem_cons_zero, Act.put, List.setIfInBounds_toArray, List.set_cons_zero, List.set_cons_succ])
                apply wpAnyH_take (i := 11) rfl (by kernel_rfl) (by kernel_rfl) (by kernel_rfl)
                case hQ => exact fun _ _ _ h => h
                case hS => exact hHeld
                case hy => (refine Or.inl ⟨by rfl, ?_⟩; intro w hSw; (try go_split_ands); go_simp; (try with_reducible rfl))
                (try simp only [List.getElem_toArray, List.getElem_cons_succ, List.getElem_cons_zero, Act.put, List.setIfInBounds_toArray, List.set_cons_zero, List.set_cons_succ])
                refine wpAnyH_done (by kernel_rfl) ?_ _
                clear HCL HCC hcel hg1l
                have hsy1 : wk.heap.size ≤ y1.heap.size := Below.size hvy1t
                have H84 : Hid (Below w.heap.size w y1) := Lib.hid ((Below.trans H76.out (Below.mono hvy1t (Below.size H76.out))))
                have H85 : Hid (Deck wd0.heap.size y1) := Lib.hid ((Deck.below H77.out hvy1t (Deck.lt H77.out)))
                have H86 : Hid (ALRow y1 u1.heap.size b.free b.seed b.fresh (.slice Amb b.macs.length cmb) (.slice Abb b.boxes.length cbb)) := Lib.hid ((Whole.below H78.out hvy1t (Whole.lt H78.out)))
                have H87 : Hid (TGRow y1 u3.heap.size K) := Lib.hid ((Whole.below H79.out hvy1t (Whole.lt H79.out)))
                have H88 : Hid (AlV y1 (Off [u3.heap.size, u1.heap.size, wd0.heap.size]) (.agg (alc b.free b.seed b.fresh (.slice Amb b.macs.length cmb) (.slice Abb b.boxes.length cbb))) b) := Lib.hid ((AlV.below H80.out hvy1t (Nat.le_refl _)))
                have H89 : Hid (ElO [u3.heap.size, u1.heap.size, wd0.heap.size] g1 f5 y1) := Lib.hid ((ElO.below H81.out hvy1t))
                have H90 : Hid (Turn wd0.heap.size w2 y1) := Lib.hid ((Turn.below H82.out hvy1t (by omega) (Turn.size H82.out)))
                have H91 : Hid (TGRow y1 wr.heap.size K2) := Lib.hid ((Whole.below H83.out hvy1t (Whole.lt H83.out)))
                clear H76 H77 H78 H79 H80 H81 H82 H83
                clear hvy1t
                have H92 : Hid (Bytes y1 (fun _ => True) (.slice Au U.length cu) U) := Lib.hid (HUu.out)
                clear HUu
                have hcl : ∀ W, Below y1.heap.size y1 W → Calls Tryd.prog 22 #[.agg (alc b.free b.seed b.fresh (.slice Amb b.macs.length cmb) (.slice Abb b.boxes.length cbb)), .agg (K2.map byt).toArray, .slice A3 M.length c3] W fun x w' => (∃ v, x = .returned (.tuple #[v, .int .i64 f0]) ∧ Bytes w' (fun q => W.heap.size ≤ q) v U) ∧ Below W.heap.size W w' := fun W hb => by
                  have := ropen (AlV.below H88.out hb (Nat.le_refl _)) (by omega) hlK2 (Bytes.below (HEL.out _ H89.out).2.2.1 hb (Nat.le_refl _)) (by omega)
                  rw [← HRO.out] at this
                  exact this
                have HCL := Lib.hid hcl
                clear hcl
                obtain ⟨hg1l, hcel, -, -⟩ := HEL.out _ H89.out
                go_upto_region 19 with fail
                have hcc : ∀ W, Below y1.heap.size y1 W → (fun W : World => W.rangeAt u1.heap.size 0 (alcl b.free b.seed b.fresh (.slice Amb b.macs.length cmb) (.slice Abb b.boxes.length cbb)) ∧ W.rangeAt wr.heap.size 0 (K2.map byt) ∧ W.cell? ⟨g1, i, none⟩ = some (.slice A3 M.length c3)) W := fun W hb => ⟨Whole.range (Whole.below H86.out hb (Whole.lt H86.out)), TGRow.range (Whole.below H91.out hb (Whole.lt H91.out)), (hb.cell (p := ⟨g1, i, none⟩) hg1l).trans hcel⟩
                have HCC := Lib.hid hcc
                clear hcc
                have hb0 : Below y1.heap.size y1 y1.drew := Below.drew (Below.refl _ _)
                refine wp_region_held_drew (S := fun W : World => W.rangeAt u1.heap.size 0 (alcl b.free b.seed b.fresh (.slice Amb b.macs.length cmb) (.slice Abb b.boxes.length cbb)) ∧ W.rangeAt wr.heap.size 0 (K2.map byt) ∧ W.cell? ⟨g1, i, none⟩ = some (.slice A3 M.length c3)) (by kernel_rfl) (HCC.out _ hb0) (fun hHeld => ?_)
                apply wpAnyH_take (i := 0) rfl (by kernel_rfl) (by kernel_rfl) (by kernel_rfl)
                case hQ => exact fun _ _ _ h => h
                case hS => exact hHeld
                case hy => exact yieldsIf_load_mid (by rfl) 32 _ rfl u1.heap.size (0) rfl ((alcl b.free b.seed b.fresh (.slice Amb b.macs.length cmb) (.slice Abb b.boxes.length cbb))) _ (fun w hS => hS.1) Tryd.underlying32 rfl (by rw [algSize, alcl_length])
                (try simp only [List.getElem_toArray, List.getElem_cons_zero, Act.put, List.setIfInBounds_toArray, List.set_cons_zero, List.set_cons_succ])
                apply wpAnyH_take (i := 1) rfl (by kernel_rfl) (by kernel_rfl) (by kernel_rfl)
                case hQ => exact fun _ _ _ h => h
                case hS => exact hHeld
                case hy => exact yieldsIf_load_mid (by rfl) 28 _ rfl wr.heap.size (0) rfl ((K2.map byt)) _ (fun w hS => hS.2.1) Tryd.underlying28 rfl (by rw [tagSize, List.length_map, hlK2])
                (try simp only [List.getElem_toArray, List.getElem_cons_succ, List.getElem_cons_zero, Act.put, List.setIfInBounds_toArray, List.set_cons_zero, List.set_cons_succ])
                apply wpAnyH_take (i := 2) rfl (by kernel_rfl) (by kernel_rfl) (by kernel_rfl)
                case hQ => exact fun _ _ _ h => h
                case hS => exact hHeld
                case hy => (refine Or.inl ⟨by rfl, ?_⟩; intro w hSw; (try go_split_ands); go_simp; (try with_reducible rfl))
                (try simp only [List.getElem_toArray, List.getElem_cons_succ, List.getElem_cons_zero, Act.put, List.setIfInBounds_toArray, List.set_cons_zero, List.set_cons_succ])
                apply wpAnyH_take (i := 3) rfl (by kernel_rfl) (by kernel_rfl) (by kernel_rfl)
                case hQ => exact fun _ _ _ h => h
                case hS => exact hHeld
                case hy => (refine Or.inl ⟨by rfl, ?_⟩; intro w hSw; (try go_split_ands); go_simp; (try with_reducible rfl))
                (try simp only [List.getElem_toArray, List.getElem_cons_succ, List.getElem_cons_zero, Act.put, List.setIfInBounds_toArray, List.set_cons_zero, List.set_cons_succ])
                apply wpAnyH_take (i := 4) rfl (by kernel_rfl) (by kernel_rfl) (by kernel_rfl)
                case hQ => exact fun _ _ _ h => h
                case hS => exact hHeld
                case hy => (refine Or.inl ⟨by rfl, ?_⟩; intro w hSw; (try go_split_ands); go_simp; (try with_reducible rfl))
                (try simp only [List.getElem_toArray, List.getElem_cons_succ, List.getElem_cons_zero, Act.put, List.setIfInBounds_toArray, List.set_cons_zero, List.set_cons_succ])
                apply wpAnyH_take (i := 5) rfl (by kernel_rfl) (by kernel_rfl) (by kernel_rfl)
                case hQ => exact fun _ _ _ h => h
                case hS => exact hHeld
                case hy => (refine Or.inl ⟨by rfl, ?_⟩; intro w hSw; (try go_split_ands); go_simp; (try with_reducible rfl))
                (try simp only [List.getElem_toArray, List.getElem_cons_succ, List.getElem_cons_zero, Act.put, List.setIfInBounds_toArray, List.set_cons_zero, List.set_cons_succ])
                refine wpAnyH_ready (rs := [6]) (by kernel_rfl) (by simp) ?_
                refine AllReadyH.cons rfl (fun KK hKK => ?_) AllReadyH.nil
                (try simp only [List.getElem_toArray, List.getElem_cons_succ, List.getElem_cons_zero])
                go_simp
                go_at_call 22
                refine (HCL.out _ hb0).mono ?_
                rintro x y2 ⟨⟨vy2, rfl, hv⟩, hvy2⟩
                have hvy2t := Below.trans hb0 (Below.mono hvy2 (Below.size hb0))
                obtain ⟨Av, cv, rfl, -⟩ := id hv
                have HUv := Lib.hid (hv.mono (Q' := fun _ => True) fun _ _ _ => trivial)
                clear hv
                clear hvy2
                refine hKK.out _ _ (HCC.out _ hvy2t) (fun hHeld => ?_)
                clear hKK KK
                (try simp only [List.getElem_toArray, List.getElem_cons_succ, List.getElem_cons_zero, Act.put, List.setIfInBounds_toArray, List.set_cons_zero, List.set_cons_succ])
                apply wpAnyH_take (i := 7) rfl (by kernel_rfl) (by kernel_rfl) (by kernel_rfl)
                case hQ => exact fun _ _ _ h => h
                case hS => exact hHeld
                case hy => (refine Or.inl ⟨by rfl, ?_⟩; intro w hSw; (try go_split_ands); go_simp; (try with_reducible rfl))
                (try simp only [List.getElem_toArray, List.getElem_cons_succ, List.getElem_cons_zero, Act.put, List.setIfInBounds_toArray, List.set_cons_zero, List.set_cons_succ])
                apply wpAnyH_take (i := 8) rfl (by kernel_rfl) (by kernel_rfl) (by kernel_rfl)
                case hQ => exact fun _ _ _ h => h
                case hS => exact hHeld
                case hy => (refine Or.inl ⟨by rfl, ?_⟩; intro w hSw; (try go_split_ands); go_simp; (try with_reducible rfl))
                (try simp only [List.getElem_toArray, List.getElem_cons_succ, List.getElem_cons_zero, Act.put, List.setIfInBounds_toArray, List.set_cons_zero, List.set_cons_succ])
                apply wpAnyH_take (i := 9) rfl (by kernel_rfl) (by kernel_rfl) (by kernel_rfl)
                case hQ => exact fun _ _ _ h => h
                case hS => exact hHeld
                case hy => (refine Or.inl ⟨by rfl, ?_⟩; intro w hSw; (try go_split_ands); go_simp; (try with_reducible rfl))
                (try simp only [List.getElem_toArray, List.getElem_cons_succ, List.getElem_cons_zero, Act.put, List.setIfInBounds_toArray, List.set_cons_zero, List.set_cons_succ])
                apply wpAnyH_take (i := 10) rfl (by kernel_rfl) (by kernel_rfl) (by kernel_rfl)
                case hQ => exact fun _ _ _ h => h
                case hS => exact hHeld
                case hy => (refine Or.inl ⟨by rfl, ?_⟩; intro w hSw; (try go_split_ands); go_simp; (try with_reducible rfl))
                (try simp only [List.getElem_toArray, List.getElem_cons_succ, List.getElem_cons_zero, Act.put, List.setIfInBounds_toArray, List.set_cons_zero, List.set_cons_succ])
                apply wpAnyH_take (i := 11) rfl (by kernel_rfl) (by kernel_rfl) (by kernel_rfl)
                case hQ => exact fun _ _ _ h => h
                case hS => exact hHeld
                case hy => (refine Or.inl ⟨by rfl, ?_⟩; intro w hSw; (try go_split_ands); go_simp; (try with_reducible rfl))
                (try simp only [List.getElem_toArray, List.getElem_cons_succ, List.getElem_cons_zero, Act.put, List.setIfInBounds_toArray, List.set_cons_zero, List.set_cons_succ])
                refine wpAnyH_done (by kernel_rfl) ?_ _
                clear HCL HCC hcel hg1l
                have hsy2 : y1.heap.size ≤ y2.heap.size := Below.size hvy2t
                have H93 : Hid (Below w.heap.size w y2) := Lib.hid ((Below.trans H84.out (Below.mono hvy2t (Below.size H84.out))))
                have H94 : Hid (Deck wd0.heap.size y2) := Lib.hid ((Deck.below H85.out hvy2t (Deck.lt H85.out)))
                have H95 : Hid (ALRow y2 u1.heap.size b.free b.seed b.fresh (.slice Amb b.macs.length cmb) (.slice Abb b.boxes.length cbb)) := Lib.hid ((Whole.below H86.out hvy2t (Whole.lt H86.out)))
                have H96 : Hid (TGRow y2 u3.heap.size K) := Lib.hid ((Whole.below H87.out hvy2t (Whole.lt H87.out)))
                have H97 : Hid (AlV y2 (Off [u3.heap.size, u1.heap.size, wd0.heap.size]) (.agg (alc b.free b.seed b.fresh (.slice Amb b.macs.length cmb) (.slice Abb b.boxes.length cbb))) b) := Lib.hid ((AlV.below H88.out hvy2t (Nat.le_refl _)))
                have H98 : Hid (ElO [u3.heap.size, u1.heap.size, wd0.heap.size] g1 f5 y2) := Lib.hid ((ElO.below H89.out hvy2t))
                have H99 : Hid (Turn wd0.heap.size w2 y2) := Lib.hid ((Turn.below H90.out hvy2t (by omega) (Turn.size H90.out)))
                have H100 : Hid (TGRow y2 wr.heap.size K2) := Lib.hid ((Whole.below H91.out hvy2t (Whole.lt H91.out)))
                have H101 : Hid (Bytes y2 (fun _ => True) (.slice Au U.length cu) U) := Lib.hid ((Bytes.below H92.out hvy2t (Nat.le_refl _)))
                clear H84 H85 H86 H87 H88 H89 H90 H91 H92
                clear hvy2t
                have H102 : Hid (Bytes y2 (fun _ => True) (.slice Av U.length cv) U) := Lib.hid (HUv.out)
                clear HUv
                have hcl := same_ _ _ U U _ _ y2 H101.out H102.out (by omega) (by omega)
                rw [decide_eq_true rfl] at hcl
                have kb : (f0 != f0) = false := by simp
                go_wp2_with fail
                refine hcl.mono ?_
                rintro e y3 ⟨rfl, hbu⟩
                clear hcl
                have hsy3 : y2.heap.size ≤ y3.heap.size := hbu.size
                have H103 : Hid (Below w.heap.size w y3) := Lib.hid ((Below.trans H93.out (Below.mono hbu (Below.size H93.out))))
                have H104 : Hid (Deck wd0.heap.size y3) := Lib.hid ((Deck.below H94.out hbu (Deck.lt H94.out)))
                have H105 : Hid (ALRow y3 u1.heap.size b.free b.seed b.fresh (.slice Amb b.macs.length cmb) (.slice Abb b.boxes.length cbb)) := Lib.hid ((Whole.below H95.out hbu (Whole.lt H95.out)))
                have H106 : Hid (TGRow y3 u3.heap.size K) := Lib.hid ((Whole.below H96.out hbu (Whole.lt H96.out)))
                have H107 : Hid (AlV y3 (Off [u3.heap.size, u1.heap.size, wd0.heap.size]) (.agg (alc b.free b.seed b.fresh (.slice Amb b.macs.length cmb) (.slice Abb b.boxes.length cbb))) b) := Lib.hid ((AlV.below H97.out hbu (Nat.le_refl _)))
                have H108 : Hid (ElO [u3.heap.size, u1.heap.size, wd0.heap.size] g1 f5 y3) := Lib.hid ((ElO.below H98.out hbu))
                have H109 : Hid (Turn wd0.heap.size w2 y3) := Lib.hid ((Turn.below H99.out hbu (by omega) (Turn.size H99.out)))
                have H110 : Hid (TGRow y3 wr.heap.size K2) := Lib.hid ((Whole.below H100.out hbu (Whole.lt H100.out)))
                have H111 : Hid (Bytes y3 (fun _ => True) (.slice Au U.length cu) U) := Lib.hid ((Bytes.below H101.out hbu (Nat.le_refl _)))
                have H112 : Hid (Bytes y3 (fun _ => True) (.slice Av U.length cv) U) := Lib.hid ((Bytes.below H102.out hbu (Nat.le_refl _)))
                clear H93 H94 H95 H96 H97 H98 H99 H100 H101 H102
                clear hbu
                have HTT := Lib.hid H109.out
                go_wp2_with fail
                go_roundw
                case rel => exact ⟨n + 1, by go_num, by omega, HTT.out⟩
                case measure => simp [intOf]; omega
end Go.Proofs.YtknhnkmooaopmaaDoor
