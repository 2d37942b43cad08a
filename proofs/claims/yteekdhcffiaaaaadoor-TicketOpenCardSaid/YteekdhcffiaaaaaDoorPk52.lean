/-
  TOpnLaw
-/
import Derived.Deep.CutBlock
import Derived.Deep.RegionHeld3
import Derived.Deep.DeepCutAuto
import Derived.Test.YteekdhcffiaaaaaDoorPk51
import Derived.Test.YteekdhcffiaaaaaDoorPk32
import Derived.Test.YteekdhcffiaaaaaDoorPk41
import Derived.Test.YteekdhcffiaaaaaDoorPk42
import Derived.Test.YteekdhcffiaaaaaDoorPk50
import Derived.Test.YteekdhcffiaaaaaDoorPk34
import Derived.Test.YteekdhcffiaaaaaDoorPk25
import Derived.Test.YteekdhcffiaaaaaDoorPk27
import Derived.Test.YteekdhcffiaaaaaDoorPk44
import Derived.Test.YteekdhcffiaaaaaDoorPk11
import Derived.Test.YteekdhcffiaaaaaDoorPk36
namespace Go.Proofs.YteekdhcffiaaaaaDoor
open Go Go.RowKit Sh Leaf

def ElO (S : List Nat) (g1 : Nat) (f : Nat → Option Addr × Nat × List B8) (W : World) : Prop := Off S g1 ∧ g1 < W.heap.size ∧ ∀ i, i < 5 → W.cell? ⟨g1, i, none⟩ = some (.slice (f i).1 (f i).2.2.length (f i).2.1) ∧ Bytes W (Off S) (.slice (f i).1 (f i).2.2.length (f i).2.1) (f i).2.2 ∧ (f i).2.2.length ≤ 5000
theorem ElO.below {S : List Nat} {g1 : Nat} {f : Nat → Option Addr × Nat × List B8} {W W' : World} (h : ElO S g1 f W) (hb : Below W.heap.size W W') : ElO S g1 f W' :=
  ⟨h.1, Nat.lt_of_lt_of_le h.2.1 hb.size, fun i hi => ⟨(hb.cell (p := ⟨g1, i, none⟩) h.2.1).trans (h.2.2 i hi).1, (h.2.2 i hi).2.1.below hb (Nat.le_refl _), (h.2.2 i hi).2.2⟩⟩
theorem ElO.turn {S : List Nat} {g g1 : Nat} {f : Nat → Option Addr × Nat × List B8} {W W' : World} (h : ElO S g1 f W) (ht : Turn g W W') (hg : g ∈ S) : ElO S g1 f W' :=
  ⟨h.1, Nat.lt_of_lt_of_le h.2.1 (Turn.size ht), fun i hi => ⟨ht.2.2.cell (a := ⟨g1, i, none⟩) (h.1 g hg) (h.2.2 i hi).1, Bytes.turn (h.2.2 i hi).2.1 ht hg, (h.2.2 i hi).2.2⟩⟩
def LsO (S : List Nat) (P : World) (s : Value) (wx : World) : Prop := ∃ g1 f, s = .slice (some ⟨g1, 0, none⟩) 5 5 ∧ ElO S g1 f wx ∧ Below P.heap.size P wx
theorem LsO.of {S : List Nat} {P W : World} {A0 A1 A2 A3 A4 : Option Addr} {c0 c1 c2 c3 c4 : Nat} {l0 l1 l2 l3 l4 : List B8} (hb : Below P.heap.size P W) (hS : ∀ y ∈ S, y < P.heap.size)
    (h0 : Bytes W (Off S) (.slice A0 l0.length c0) l0) (h1 : Bytes W (Off S) (.slice A1 l1.length c1) l1) (h2 : Bytes W (Off S) (.slice A2 l2.length c2) l2) (h3 : Bytes W (Off S) (.slice A3 l3.length c3) l3) (h4 : Bytes W (Off S) (.slice A4 l4.length c4) l4)
    (k0 : l0.length ≤ 5000) (k1 : l1.length ≤ 5000) (k2 : l2.length ≤ 5000) (k3 : l3.length ≤ 5000) (k4 : l4.length ≤ 5000) :
    LsO S P (.slice (some ⟨W.heap.size, 0, none⟩) 5 5) (W.alloc (.cells #[.slice A0 l0.length c0, .slice A1 l1.length c1, .slice A2 l2.length c2, .slice A3 l3.length c3, .slice A4 l4.length c4] 39)) := by
  have hba : Below W.heap.size W (W.alloc (.cells #[.slice A0 l0.length c0, .slice A1 l1.length c1, .slice A2 l2.length c2, .slice A3 l3.length c3, .slice A4 l4.length c4] 39)) := (Below.refl _ _).alloc (Nat.le_refl _) _
  refine ⟨W.heap.size, fun i => match i with | 0 => (A0, c0, l0) | 1 => (A1, c1, l1) | 2 => (A2, c2, l2) | 3 => (A3, c3, l3) | _ => (A4, c4, l4), rfl, ⟨fun y hy => ?_, by simp, fun i hi => ?_⟩, hb.trans (hba.mono hb.size)⟩
  · have := hS y hy; have := hb.size; omega
  · have hc : ∀ i v, (#[Value.slice A0 l0.length c0, .slice A1 l1.length c1, .slice A2 l2.length c2, .slice A3 l3.length c3, .slice A4 l4.length c4] : Array Value)[i]? = some v → (W.alloc (.cells #[.slice A0 l0.length c0, .slice A1 l1.length c1, .slice A2 l2.length c2, .slice A3 l3.length c3, .slice A4 l4.length c4] 39)).cell? ⟨W.heap.size, i, none⟩ = some v := fun i v hv => by
      rw [cell_of_row _ _ _ _ _ _ (heap_alloc_new W _)]; exact hv
    match i, hi with
    | 0, _ => exact ⟨hc 0 _ rfl, h0.below hba (Nat.le_refl _), k0⟩
    | 1, _ => exact ⟨hc 1 _ rfl, h1.below hba (Nat.le_refl _), k1⟩
    | 2, _ => exact ⟨hc 2 _ rfl, h2.below hba (Nat.le_refl _), k2⟩
    | 3, _ => exact ⟨hc 3 _ rfl, h3.below hba (Nat.le_refl _), k3⟩
    | 4, _ => exact ⟨hc 4 _ rfl, h4.below hba (Nat.le_refl _), k4⟩
theorem ElO.mk {S : List Nat} {P : World} {A0 A1 A2 A3 A4 : Option Addr} {c0 c1 c2 c3 c4 : Nat} {l0 l1 l2 l3 l4 : List B8} (hS : ∀ y ∈ S, y < P.heap.size)
    (h0 : Bytes P (Off S) (.slice A0 l0.length c0) l0) (h1 : Bytes P (Off S) (.slice A1 l1.length c1) l1) (h2 : Bytes P (Off S) (.slice A2 l2.length c2) l2) (h3 : Bytes P (Off S) (.slice A3 l3.length c3) l3) (h4 : Bytes P (Off S) (.slice A4 l4.length c4) l4)
    (k0 : l0.length ≤ 5000) (k1 : l1.length ≤ 5000) (k2 : l2.length ≤ 5000) (k3 : l3.length ≤ 5000) (k4 : l4.length ≤ 5000) :
    ∃ f, ElO S P.heap.size f (P.alloc (.cells #[.slice A0 l0.length c0, .slice A1 l1.length c1, .slice A2 l2.length c2, .slice A3 l3.length c3, .slice A4 l4.length c4] 39)) := by
  obtain ⟨g1, f, hs, he, -⟩ := LsO.of (Below.refl _ _) hS h0 h1 h2 h3 h4 k0 k1 k2 k3 k4
  injection hs with h1; injection h1 with h1; injection h1 with h1
  subst h1
  exact ⟨f, he⟩
theorem built_tms (x y : Int) : Tryd.prog.built 24 [(0, .int .i64 x), (1, .int .i64 y)] = some #[.int .i64 x, .int .i64 y] := by kernel_rfl
theorem yieldsIf_build_tms {ops : Array Oper} {S : World → Prop} {op : Oper} {a : Act} (hw : Region.wanted op (yielded ops a.tmps) = true) (x y : Operand) (ho : op.op = .build 24 #[(0, x), (1, y)])
    {lo hi : Int} (hx : a.eval x = .int .i64 lo) (hy : a.eval y = .int .i64 hi) : YieldsIf Tryd.prog ops S op (.agg #[.int .i64 lo, .int .i64 hi]) a := by
  refine yieldsIf_build_as hw 24 _ ho _ ?_
  have e1 : (#[(0, x), (1, y)].map fun (i, x) => (i, a.eval x)).toList = [(0, .int .i64 lo), (1, .int .i64 hi)] := by simp [hx, hy]
  rw [e1, built_tms]
theorem neq_tms (a b : Int) (w : World) : (binOp .neq 24 (.agg #[.int .i64 a, .int .i64 b]) (.agg #[.int .i64 a, .int .i64 b])).run Tryd.prog w = .ok (.bool false) w := by
  rw [run_neq_struct]
  simp [go_sem]
theorem ElO.store {S : List Nat} {g1 : Nat} {f : Nat → Option Addr × Nat × List B8} {W : World} (h : ElO S g1 f W) {G : Nat} (hG : W.heap.size ≤ G) (cs : Array Value) : ElO S g1 f (W.setRow G cs) := by
  exact h.below (below_setRow (Below.refl _ _) hG _)
theorem byte_of (y : Nat) (h : y < 256) : ∃ x : B8, bv x = (y : Int) := ⟨BitVec.ofNat 8 y, by unfold bv; rw [BitVec.toNat_ofNat]; omega⟩
theorem byte_one (w : World) {x : B8} {y : Nat} (h : bv x = (y : Int)) : Bytes (w.alloc (.cells #[.int .u8 (y : Int)] 5)) (fun _ => True) (.slice (some ⟨w.heap.size, 0, none⟩) 1 1) [x] := by
  rw [← h]
  exact (Whole.bytes (l := [x]) (Whole.here w 5 #[byt x]) (by simp)).mono fun _ _ _ => trivial
theorem blk_key {w : World} {g : Nat} {z : Int} {K : List B8} {vp : Value} (hK : K.length = 32) (h : Whole w g 41 (cnl z K vp).toArray) : Bytes w (fun b => b = g) (.slice (some ⟨g, 1, none⟩) 32 32) K :=
  ⟨some ⟨g, 1, none⟩, 32, by rw [hK], by omega, by unfold maxLen; omega, fun h => (by cases h), fun _ => ⟨g, 1, rfl, rfl, fun j x hj => by
    have h2 := (cnl_at h).2.1
    rw [p32_eq hK] at h2
    exact h2 j (byt x) (by rw [List.getElem?_map, hj]; rfl)⟩⟩
theorem tk_len {a b : Alg} {X : Blk} {e : Int} {K : List B8} {z lo hi : Int} (hG : GoodA a) (h0 : 0 ≤ a.fresh) (hf : a.fresh ≤ 4) (hl : a.boxes.length ≤ 4) (ht : tmok lo hi) (hz : 0 ≤ z ∧ z ≤ 7) (h : (b, X, e) = pBlank a z K lo hi) :
    72 ≤ X.ticket.length ∧ X.ticket.length ≤ 296 ∧ b.boxes.length ≤ 5 ∧ X.key.length = 32 := by
  have hk := key_ok (a := a) (by omega)
  have hcb := key_boxes hk
  have hcf := key_fresh h0 hk
  have hcG := good_key hG
  have hT := key_len a
  unfold pBlank at h
  rw [if_pos ⟨ht, hz⟩, if_neg (by rw [hk]; simp)] at h
  obtain ⟨c, hc⟩ : ∃ c, c = (aKey a).1 := ⟨_, rfl⟩
  obtain ⟨T, hTT⟩ : ∃ T, T = (aKey a).2.1 := ⟨_, rfl⟩
  rw [← hc] at hcb hcf hcG h
  rw [← hTT] at h hT
  clear hc hTT hk
  obtain ⟨n, hn⟩ := Int.eq_ofNat_of_zero_le hcf.1
  have hml : (tjoin T lo hi).length ≤ 256 ∧ 32 ≤ (tjoin T lo hi).length := by
    have e1 := enc_len7 (n := lo.toNat) (by have := ht.1; have := ht.2.1; have := ht.2.2; omega)
    have e2 := enc_len7 (n := hi.toNat) (by have := ht.1; have := ht.2.1; have := ht.2.2; omega)
    unfold tjoin
    simp only [List.length_append]
    omega
  obtain ⟨m, hm⟩ : ∃ m, m = tjoin T lo hi := ⟨_, rfl⟩
  rw [← hm] at h hml
  have hsl := seal_le c K c.fresh m
  obtain ⟨R, hR⟩ : ∃ R, R = aSeal c K c.fresh m := ⟨_, rfl⟩
  rw [← hR] at h hsl
  obtain ⟨d, Z, f⟩ := R
  obtain ⟨S, hS⟩ : ∃ S, S = aOpen d K Z := ⟨_, rfl⟩
  obtain ⟨U, u⟩ := S
  rw [hn] at hR
  obtain ⟨rfl, rfl, rfl, hZ⟩ := box_back hcG (by omega) hml.1 (by rw [hcb]; exact hl) hR hS
  dsimp only at h hsl
  rw [if_neg (by simp)] at h
  injection h with h1 h2
  injection h2 with h2 h3
  subst h1 h2 h3
  exact ⟨by show 72 ≤ Z.length; omega, by show Z.length ≤ 296; omega, by rw [hcb] at hsl; omega, hT⟩
theorem bxs_small2 {w : World} {Q : Nat → Prop} {v : Value} {a : Alg} (h : AlV w Q v a) : ∀ b ∈ a.boxes, b.box.length ≤ 5000 := by
  obtain ⟨Am, cm, Ab, cb, -, -, hB, -⟩ := h
  intro b hb
  obtain ⟨j, hj, hje⟩ := List.getElem_of_mem hb
  obtain ⟨_, _, _, _, _, _, -, -, -, -, -, -, -, -, -, -, h9⟩ := hB.get j b (by rw [List.getElem?_eq_getElem hj, hje])
  exact h9
theorem seal_len2 {w : World} {Q : Nat → Prop} {v : Value} {a : Alg} {K m : List B8} {z : Int} (hv : AlV w Q v a) : (aSeal a K z m).2.1.length ≤ 5000 := by
  have h := bxs_small2 hv
  unfold aSeal
  split
  · simp
  split
  · simp
  split
  · rename_i t ht
    obtain ⟨e, he, -, -, -, h4⟩ := fndb_mem ht
    dsimp only
    rw [← h4]
    exact h e he
  split
  · simp
  · show (boxb a K z m).length ≤ 5000
    rw [boxb_length]; omega
set_option linter.unusedSimpArgs false in
set_option linter.unusedVariables false in
set_option maxRecDepth 100000 in
set_option maxHeartbeats 8000000 in
theorem topen_law (A0 : Option Addr) (l0 : List Int) (c0 : Nat) {Q1 : Nat → Prop} (A1 : Option Addr) (r : List B8) (c1 : Nat) {Q2 : Nat → Prop} (A2 : Option Addr) (y : List B8) (c2 : Nat) (za : Int) (x0 : B8) (w : World) (hT : Tables w) (hI0 : Ints w (fun b => b < w.heap.size) A0 c0 l0) (hB1 : Bytes w Q1 (.slice A1 r.length c1) r) (hB2 : Bytes w Q2 (.slice A2 y.length c2) y) (hi3 : i64q za) :
    Calls Tryd.prog 4 #[.slice A0 l0.length c0, .slice A1 r.length c1, .slice A2 y.length c2, .int .i64 za, .int .u8 (bv x0)] w fun e w' => e = .returned (.bool true) ∧ Below w.heap.size w w' := by
  have HT := Lib.hid hT
  clear hT
  have H1 : Hid (Below w.heap.size w w) := Lib.hid (Below.refl _ _)
  obtain ⟨n0, hn0⟩ : ∃ n, n = l0.length := ⟨_, rfl⟩
  rw [← hn0]
  have HI0 := Lib.hid hI0
  have HN0 := Lib.hid hn0
  clear hI0 hn0
  have H2 : Hid (Bytes w (Off []) (.slice A1 r.length c1) r) := Lib.hid (hB1.mono fun _ _ _ => by intro y hy; cases hy)
  clear hB1
  have H3 : Hid (Bytes w (Off []) (.slice A2 y.length c2) y) := Lib.hid (hB2.mono fun _ _ _ => by intro y hy; cases hy)
  clear hB2
  have HCX := H2.out.cut 200
  have EX : min (r.length : Int) 200 = ((r.take 200).length : Int) := by rw [List.length_take]; omega
  have hqX : (r.take 200).length ≤ 200 := by simp; omega
  obtain ⟨A9, c9, e9, h1X, h2X, h3X, -⟩ := id HCX
  cases e9
  generalize r.take 200 = X at *
  clear H2 h3X
  have HCY := H3.out.cut 60
  have EY : min (y.length : Int) 60 = ((y.take 60).length : Int) := by rw [List.length_take]; omega
  have hqY : (y.take 60).length ≤ 60 := by simp; omega
  obtain ⟨A9, c9, e9, h1Y, h2Y, h3Y, -⟩ := id HCY
  cases e9
  generalize y.take 60 = Y at *
  clear H3 h3Y
  have H4 : Hid (Bytes w (Off []) (.slice A1 X.length c1) X) := Lib.hid (HCX)
  have H5 : Hid (Bytes w (Off []) (.slice A2 Y.length c2) Y) := Lib.hid (HCY)
  clear HCX HCY
  go_enter Tryd.func4, Tryd.ntmps4
  have c1X : (X.length : Int) ≤ (c1 : Int) := by omega
  have c1Y : (Y.length : Int) ≤ (c2 : Int) := by omega
  go_upto_region 1 with fail
  have hcc : ∀ W, Below w.heap.size w W → (fun W : World => True) W := fun W hb => trivial
  have HCC := Lib.hid hcc
  clear hcc
  have hb0 : Below w.heap.size w w.drew := Below.drew (Below.refl _ _)
  refine wp_region_held_drew (S := fun W : World => True) (by kernel_rfl) (HCC.out _ hb0) (fun hHeld => ?_)
  apply wpAnyH_take (i := 0) rfl (by kernel_rfl) (by kernel_rfl) (by kernel_rfl)
  case hQ => exact fun _ _ _ h => h
  case hS => exact hHeld
  case hy => (refine Or.inl ⟨by rfl, ?_⟩; intro w hSw; (try go_split_ands); go_simp; (try with_reducible rfl))
  (try simp only [List.getElem_toArray, List.getElem_cons_zero, Act.put, List.setIfInBounds_toArray, List.set_cons_zero, List.set_cons_succ])
  apply wpAnyH_take (i := 1) rfl (by kernel_rfl) (by kernel_rfl) (by kernel_rfl)
  case hQ => exact fun _ _ _ h => h
  case hS => exact hHeld
  case hy => (refine Or.inl ⟨by rfl, ?_⟩; intro w hSw; (try go_split_ands); go_simp; (try with_reducible rfl))
  (try simp only [List.getElem_toArray, List.getElem_cons_succ, List.getElem_cons_zero, Act.put, List.setIfInBounds_toArray, List.set_cons_zero, List.set_cons_succ])
  apply wpAnyH_take (i := 2) rfl (by kernel_rfl) (by kernel_rfl) (by kernel_rfl)
  case hQ => exact fun _ _ _ h => h
  case hS => exact hHeld
  case hy => (refine Or.inl ⟨by rfl, ?_⟩; intro w hSw; (try go_split_ands); go_simp; (try with_reducible rfl))
  (try simp only [List.getElem_toArray, List.getElem_cons_succ, List.getElem_cons_zero, Act.put, List.setIfInBounds_toArray, List.set_cons_zero, List.set_cons_succ])
  apply wpAnyH_take (i := 3) rfl (by kernel_rfl) (by kernel_rfl) (by kernel_rfl)
  case hQ => exact fun _ _ _ h => h
  case hS => exact hHeld
  case hy => (refine Or.inl ⟨by rfl, ?_⟩; intro w hSw; (try go_split_ands); go_simp; (try with_reducible rfl))
  (try simp only [List.getElem_toArray, List.getElem_cons_succ, List.getElem_cons_zero, Act.put, List.setIfInBounds_toArray, List.set_cons_zero, List.set_cons_succ])
  apply wpAnyH_take (i := 4) rfl (by kernel_rfl) (by kernel_rfl) (by kernel_rfl)
  case hQ => exact fun _ _ _ h => h
  case hS => exact hHeld
  case hy => (refine Or.inl ⟨by rfl, ?_⟩; intro w hSw; (try go_split_ands); go_simp; (try with_reducible rfl))
  (try simp only [List.getElem_toArray, List.getElem_cons_succ, List.getElem_cons_zero, Act.put, List.setIfInBounds_toArray, List.set_cons_zero, List.set_cons_succ])
  apply wpAnyH_take (i := 5) rfl (by kernel_rfl) (by kernel_rfl) (by kernel_rfl)
  case hQ => exact fun _ _ _ h => h
  case hS => exact hHeld
  case hy => (refine Or.inl ⟨by rfl, ?_⟩; intro w hSw; (try go_split_ands); go_simp; (try with_reducible rfl))
  (try simp only [List.getElem_toArray, List.getElem_cons_succ, List.getElem_cons_zero, Act.put, List.setIfInBounds_toArray, List.set_cons_zero, List.set_cons_succ])
  apply wpAnyH_take (i := 6) rfl (by kernel_rfl) (by kernel_rfl) (by kernel_rfl)
  case hQ => exact fun _ _ _ h => h
  case hS => exact hHeld
  case hy => (refine Or.inl ⟨by rfl, ?_⟩; intro w hSw; (try go_split_ands); go_simp; (try with_reducible rfl))
  (try simp only [List.getElem_toArray, List.getElem_cons_succ, List.getElem_cons_zero, Act.put, List.setIfInBounds_toArray, List.set_cons_zero, List.set_cons_succ])
  apply wpAnyH_take (i := 7) rfl (by kernel_rfl) (by kernel_rfl) (by kernel_rfl)
  case hQ => exact fun _ _ _ h => h
  case hS => exact hHeld
  case hy => (refine Or.inl ⟨by rfl, ?_⟩; intro w hSw; (try go_split_ands); go_simp; (try with_reducible rfl))
  (try simp only [List.getElem_toArray, List.getElem_cons_succ, List.getElem_cons_zero, Act.put, List.setIfInBounds_toArray, List.set_cons_zero, List.set_cons_succ])
  apply wpAnyH_take (i := 8) rfl (by kernel_rfl) (by kernel_rfl) (by kernel_rfl)
  case hQ => exact fun _ _ _ h => h
  case hS => exact hHeld
  case hy => (refine Or.inl ⟨by rfl, ?_⟩; intro w hSw; (try go_split_ands); go_simp; (try with_reducible rfl))
  (try simp only [List.getElem_toArray, List.getElem_cons_succ, List.getElem_cons_zero, Act.put, List.setIfInBounds_toArray, List.set_cons_zero, List.set_cons_succ])
  apply wpAnyH_take (i := 9) rfl (by kernel_rfl) (by kernel_rfl) (by kernel_rfl)
  case hQ => exact fun _ _ _ h => h
  case hS => exact hHeld
  case hy => (refine Or.inl ⟨by rfl, ?_⟩; intro w hSw; (try go_split_ands); go_simp; (try with_reducible rfl))
  (try simp only [List.getElem_toArray, List.getElem_cons_succ, List.getElem_cons_zero, Act.put, List.setIfInBounds_toArray, List.set_cons_zero, List.set_cons_succ])
  apply wpAnyH_take (i := 10) rfl (by kernel_rfl) (by kernel_rfl) (by kernel_rfl)
  case hQ => exact fun _ _ _ h => h
  case hS => exact hHeld
  case hy => (refine Or.inl ⟨by rfl, ?_⟩; intro w hSw; (try go_split_ands); go_simp; (try with_reducible rfl))
  (try simp only [List.getElem_toArray, List.getElem_cons_succ, List.getElem_cons_zero, Act.put, List.setIfInBounds_toArray, List.set_cons_zero, List.set_cons_succ])
  apply wpAnyH_take (i := 11) rfl (by kernel_rfl) (by kernel_rfl) (by kernel_rfl)
  case hQ => exact fun _ _ _ h => h
  case hS => exact hHeld
  case hy => (refine Or.inl ⟨by rfl, ?_⟩; intro w hSw; (try go_split_ands); go_simp; (try with_reducible rfl))
  (try simp only [List.getElem_toArray, List.getElem_cons_succ, List.getElem_cons_zero, Act.put, List.setIfInBounds_toArray, List.set_cons_zero, List.set_cons_succ])
  refine wpAnyH_done (by kernel_rfl) ?_ _
  have H6 : Hid (Below w.heap.size w w.drew) := Lib.hid ((Below.trans H1.out (Below.mono hb0 (Below.size H1.out))))
  have H7 : Hid (Bytes w.drew (Off []) (.slice A1 X.length c1) X) := Lib.hid ((Bytes.below H4.out hb0 (Nat.le_refl _)))
  have H8 : Hid (Bytes w.drew (Off []) (.slice A2 Y.length c2) Y) := Lib.hid ((Bytes.below H5.out hb0 (Nat.le_refl _)))
  clear H1 H4 H5
  obtain ⟨wd0, hwd0⟩ : ∃ q, q = w.drew := ⟨_, rfl⟩
  rw [← hwd0] at H6 H7 H8
  rw [← hwd0]
  have hswd0 : w.heap.size = wd0.heap.size := by rw [hwd0]; rfl
  clear hwd0 hb0 HCC
  clear EX EY h1X h1Y h2X h2Y c1X c1Y
  have hcl := dnew A0 _ c0 l0 wd0 HN0.out ((HI0.out.below H6.out).mono (Below.size H6.out))
  go_wp2_with fail
  refine hcl.mono ?_
  rintro e d0 ⟨rfl, hdk, hbu⟩
  clear hcl
  have hsd0 : wd0.heap.size < d0.heap.size := hdk.lt
  have H9 : Hid (Bytes wd0 (Off [wd0.heap.size]) (.slice A1 X.length c1) X) := Lib.hid (Bytes.grow H7.out (by omega))
  have H10 : Hid (Bytes wd0 (Off [wd0.heap.size]) (.slice A2 Y.length c2) Y) := Lib.hid (Bytes.grow H8.out (by omega))
  clear H7 H8
  have H11 : Hid (Below w.heap.size w d0) := Lib.hid ((Below.trans H6.out (Below.mono hbu (Below.size H6.out))))
  have H12 : Hid (Bytes d0 (Off [wd0.heap.size]) (.slice A1 X.length c1) X) := Lib.hid ((Bytes.below H9.out hbu (Nat.le_refl _)))
  have H13 : Hid (Bytes d0 (Off [wd0.heap.size]) (.slice A2 Y.length c2) Y) := Lib.hid ((Bytes.below H10.out hbu (Nat.le_refl _)))
  clear H6 H9 H10
  have H14 : Hid (Deck wd0.heap.size d0) := Lib.hid (hdk)
  clear hdk hbu HI0 HN0
  have hcl := dalg wd0.heap.size d0 H14.out
  go_wp2_with fail
  refine hcl.mono ?_
  rintro e u1 ⟨⟨v, a, rfl, hv, h4a, hb4a, hf4a, hgd⟩, ht⟩
  clear hcl
  have HGa := Lib.hid hgd
  obtain ⟨Ama, cma, Aba, cba, rfl, hM, hBx, hA⟩ := hv
  have hsla : a.seed.length = 32 := hA.seed
  have hfra : 0 ≤ a.fresh := hA.lo
  have hsu1 : d0.heap.size ≤ u1.heap.size := Turn.size ht
  have H15 : Hid (Below w.heap.size w u1) := Lib.hid ((base_turn H11.out ht (by omega)))
  have H16 : Hid (Bytes u1 (Off [wd0.heap.size]) (.slice A1 X.length c1) X) := Lib.hid ((Bytes.turn H12.out ht (by simp)))
  have H17 : Hid (Bytes u1 (Off [wd0.heap.size]) (.slice A2 Y.length c2) Y) := Lib.hid ((Bytes.turn H13.out ht (by simp)))
  have H18 : Hid (Deck wd0.heap.size u1) := Lib.hid ((ht).1)
  clear H11 H12 H13 H14
  have H19 : Hid (AlV u1 (Off [wd0.heap.size]) (.agg (alc a.free a.seed a.fresh (.slice Ama a.macs.length cma) (.slice Aba a.boxes.length cba))) a) := Lib.hid (AlV.mono (Q' := _) ⟨Ama, cma, Aba, cba, rfl, hM, hBx, hA⟩ (fun _ _ h => off_one h))
  clear hM hBx hA ht hgd
  have ks0 : ∀ z0 : Array Value, Whole (u1.alloc (.cells z0 32)) u1.heap.size 32 z0 := fun _ => (Whole.here _ _ _)
  go_upto_region 4 with (with_reducible refine wpList_store_alg rfl _ _ rfl (g := u1.heap.size) rfl rfl (ks0 _) rfl (alc_size _ _ _ _ _) (alc_one _ _ _ _ _ _ _ _ _) ?_)
  clear ks0
  rw [zar_lit]
  obtain ⟨q2, hq⟩ : ∃ q, q = ((u1.alloc (.cells zar 32)).setRow u1.heap.size (alc a.free a.seed a.fresh (.slice Ama a.macs.length cma) (.slice Aba a.boxes.length cba))) := ⟨_, rfl⟩
  rw [← hq]
  have hsq2 : u1.heap.size + 1 ≤ q2.heap.size := by rw [hq]; simp
  have H20 : Hid (Below w.heap.size w q2) := Lib.hid (by rw [hq]; exact (below_setRow (Below.trans H15.out (Below.mono (Below.alloc (Below.refl _ _) (Nat.le_refl _) _) (Below.size H15.out))) (by omega) _))
  have H21 : Hid (Bytes q2 (Off [u1.heap.size, wd0.heap.size]) (.slice A1 X.length c1) X) := Lib.hid (by rw [hq]; exact (Bytes.store (Bytes.below (Bytes.grow H16.out (by omega)) (Below.alloc (Below.refl _ _) (Nat.le_refl _) _) (Nat.le_refl _)) (by simp) _))
  have H22 : Hid (Bytes q2 (Off [u1.heap.size, wd0.heap.size]) (.slice A2 Y.length c2) Y) := Lib.hid (by rw [hq]; exact (Bytes.store (Bytes.below (Bytes.grow H17.out (by omega)) (Below.alloc (Below.refl _ _) (Nat.le_refl _) _) (Nat.le_refl _)) (by simp) _))
  have H23 : Hid (Deck wd0.heap.size q2) := Lib.hid (by rw [hq]; exact (Deck.store (Deck.below H18.out (Below.alloc (Below.refl _ _) (Nat.le_refl _) _) (Deck.lt H18.out)) (by omega) _))
  have H24 : Hid (AlV q2 (Off [u1.heap.size, wd0.heap.size]) (.agg (alc a.free a.seed a.fresh (.slice Ama a.macs.length cma) (.slice Aba a.boxes.length cba))) a) := Lib.hid (by rw [hq]; exact (AlV.store (AlV.below (AlV.grow H19.out (by omega)) (Below.alloc (Below.refl _ _) (Nat.le_refl _) _) (Nat.le_refl _)) (by simp) _))
  clear H15 H16 H17 H18 H19
  have H25 : Hid (ALRow q2 u1.heap.size a.free a.seed a.fresh (.slice Ama a.macs.length cma) (.slice Aba a.boxes.length cba)) := Lib.hid (by rw [hq]; exact (Whole.setRow (Whole.here _ _ _) _))
  clear hq
  have hcl := dtag wd0.heap.size q2 H23.out
  go_wp2_with fail
  refine hcl.mono ?_
  rintro e u3 ⟨⟨K, hlK, rfl⟩, ht⟩
  clear hcl
  have hsu3 : q2.heap.size ≤ u3.heap.size := Turn.size ht
  have H26 : Hid (Below w.heap.size w u3) := Lib.hid ((base_turn H20.out ht (by omega)))
  have H27 : Hid (Bytes u3 (Off [u1.heap.size, wd0.heap.size]) (.slice A1 X.length c1) X) := Lib.hid ((Bytes.turn H21.out ht (by simp)))
  have H28 : Hid (Bytes u3 (Off [u1.heap.size, wd0.heap.size]) (.slice A2 Y.length c2) Y) := Lib.hid ((Bytes.turn H22.out ht (by simp)))
  have H29 : Hid (Deck wd0.heap.size u3) := Lib.hid ((ht).1)
  have H30 : Hid (AlV u3 (Off [u1.heap.size, wd0.heap.size]) (.agg (alc a.free a.seed a.fresh (.slice Ama a.macs.length cma) (.slice Aba a.boxes.length cba))) a) := Lib.hid ((AlV.turn H24.out ht (by simp) (Turn.size ht)))
  have H31 : Hid (ALRow u3 u1.heap.size a.free a.seed a.fresh (.slice Ama a.macs.length cma) (.slice Aba a.boxes.length cba)) := Lib.hid (((ht).2.2.oth _ _ _ (by omega) H25.out))
  clear H20 H21 H22 H23 H24 H25
  clear ht
  have hcl := dcon hlK wd0.heap.size u3 H29.out
  go_wp2_with fail
  refine hcl.mono ?_
  rintro e u4 ⟨⟨z1, Ap, np, cp, hz0, hz7, rfl⟩, ht⟩
  clear hcl
  have hsu4 : u3.heap.size ≤ u4.heap.size := Turn.size ht
  have H32 : Hid (Below w.heap.size w u4) := Lib.hid ((base_turn H26.out ht (by omega)))
  have H33 : Hid (Bytes u4 (Off [u1.heap.size, wd0.heap.size]) (.slice A1 X.length c1) X) := Lib.hid ((Bytes.turn H27.out ht (by simp)))
  have H34 : Hid (Bytes u4 (Off [u1.heap.size, wd0.heap.size]) (.slice A2 Y.length c2) Y) := Lib.hid ((Bytes.turn H28.out ht (by simp)))
  have H35 : Hid (Deck wd0.heap.size u4) := Lib.hid ((ht).1)
  have H36 : Hid (AlV u4 (Off [u1.heap.size, wd0.heap.size]) (.agg (alc a.free a.seed a.fresh (.slice Ama a.macs.length cma) (.slice Aba a.boxes.length cba))) a) := Lib.hid ((AlV.turn H30.out ht (by simp) (Turn.size ht)))
  have H37 : Hid (ALRow u4 u1.heap.size a.free a.seed a.fresh (.slice Ama a.macs.length cma) (.slice Aba a.boxes.length cba)) := Lib.hid (((ht).2.2.oth _ _ _ (by omega) H31.out))
  clear H26 H27 H28 H29 H30 H31
  clear ht
  have ks0 : ∀ z0 : Array Value, Whole (u4.alloc (.cells z0 36)) u4.heap.size 36 z0 := fun _ => (Whole.here _ _ _)
  go_upto_region 5 with (with_reducible refine wpList_store_con rfl _ _ rfl (g := u4.heap.size) rfl rfl (ks0 _) rfl (cnl_size _ _ _) (cnl_one _ _ _ _ _) ?_)
  clear ks0
  rw [zbk_lit]
  obtain ⟨q5, hq⟩ : ∃ q, q = ((u4.alloc (.cells zbk 36)).setRow u4.heap.size (cnl z1 K (.slice Ap np cp)).toArray) := ⟨_, rfl⟩
  rw [← hq]
  have hsq5 : u4.heap.size + 1 ≤ q5.heap.size := by rw [hq]; simp
  have H38 : Hid (Below w.heap.size w q5) := Lib.hid (by rw [hq]; exact (below_setRow (Below.trans H32.out (Below.mono (Below.alloc (Below.refl _ _) (Nat.le_refl _) _) (Below.size H32.out))) (by omega) _))
  have H39 : Hid (Bytes q5 (Off [u4.heap.size, u1.heap.size, wd0.heap.size]) (.slice A1 X.length c1) X) := Lib.hid (by rw [hq]; exact (Bytes.store (Bytes.below (Bytes.grow H33.out (by omega)) (Below.alloc (Below.refl _ _) (Nat.le_refl _) _) (Nat.le_refl _)) (by simp) _))
  have H40 : Hid (Bytes q5 (Off [u4.heap.size, u1.heap.size, wd0.heap.size]) (.slice A2 Y.length c2) Y) := Lib.hid (by rw [hq]; exact (Bytes.store (Bytes.below (Bytes.grow H34.out (by omega)) (Below.alloc (Below.refl _ _) (Nat.le_refl _) _) (Nat.le_refl _)) (by simp) _))
  have H41 : Hid (Deck wd0.heap.size q5) := Lib.hid (by rw [hq]; exact (Deck.store (Deck.below H35.out (Below.alloc (Below.refl _ _) (Nat.le_refl _) _) (Deck.lt H35.out)) (by omega) _))
  have H42 : Hid (AlV q5 (Off [u4.heap.size, u1.heap.size, wd0.heap.size]) (.agg (alc a.free a.seed a.fresh (.slice Ama a.macs.length cma) (.slice Aba a.boxes.length cba))) a) := Lib.hid (by rw [hq]; exact (AlV.store (AlV.below (AlV.grow H36.out (by omega)) (Below.alloc (Below.refl _ _) (Nat.le_refl _) _) (Nat.le_refl _)) (by simp) _))
  have H43 : Hid (ALRow q5 u1.heap.size a.free a.seed a.fresh (.slice Ama a.macs.length cma) (.slice Aba a.boxes.length cba)) := Lib.hid (by rw [hq]; exact (Whole.setRow_far (Whole.below H37.out (Below.alloc (Below.refl _ _) (Nat.le_refl _) _) (Whole.lt H37.out)) (by omega) _))
  clear H32 H33 H34 H35 H36 H37
  have H44 : Hid (Whole q5 u4.heap.size 36 (cnl z1 K (.slice Ap np cp)).toArray) := Lib.hid (by rw [hq]; exact (Whole.setRow (Whole.here _ _ _) _))
  clear hq
  (try simp only [Act.put])
  go_cut [14, 15] (fun s14 s15 wx => ∃ (lo hi : Nat) (b : Alg) (zp : Int) (kx tx : List B8) (eb : Int) (gT : Nat) (Amb : Option Addr) (cmb : Nat) (Abb : Option Addr) (cbb : Nat) (At : Option Addr) (ct : Nat), (lo : Int) < 10 ∧ (hi : Int) < 100 ∧ (b, ⟨zp, kx, tx⟩, eb) = pBlank a z1 K (lo : Int) (10 + (hi : Int)) ∧ s14 = .pointer (some ⟨gT, 0, none⟩) ∧ Below w.heap.size w wx ∧ q5.heap.size ≤ gT ∧ Deck (wd0.heap.size) wx ∧ Whole wx (u1.heap.size) 32 (alc b.free b.seed b.fresh (.slice Amb b.macs.length cmb) (.slice Abb b.boxes.length cbb)) ∧ Whole wx (u4.heap.size) 36 (cnl z1 K (.slice Ap np cp)).toArray ∧ Whole wx gT 41 (cnl zp kx (.slice At tx.length ct)).toArray ∧ AlV wx (fun b => (((Off [u4.heap.size, u1.heap.size, wd0.heap.size]) b ∧ b < q5.heap.size) ∨ q5.heap.size ≤ b) ∧ b ≠ gT) (.agg (alc b.free b.seed b.fresh (.slice Amb b.macs.length cmb) (.slice Abb b.boxes.length cbb))) b ∧ Bytes wx (fun b => q5.heap.size ≤ b ∧ b ≠ gT) (.slice At tx.length ct) tx ∧ Bytes wx (fun b => (Off [u4.heap.size, u1.heap.size, wd0.heap.size]) b ∧ b < q5.heap.size) (.slice A1 X.length c1) X ∧ Bytes wx (fun b => (Off [u4.heap.size, u1.heap.size, wd0.heap.size]) b ∧ b < q5.heap.size) (.slice A2 Y.length c2) Y)
  case first =>
    have hs0 : q5.heap.size ≤ q5.drew.heap.size := Nat.le_refl _
    have base_0 : Below w.heap.size w q5.drew := Below.drew H38.out
    have ra_0 : Whole q5.drew u1.heap.size 32 (alc a.free a.seed a.fresh (.slice Ama a.macs.length cma) (.slice Aba a.boxes.length cba)) := Whole.drew H43.out
    have rc_0 : Whole q5.drew u4.heap.size 36 (cnl z1 K (.slice Ap np cp)).toArray := Whole.drew H44.out
    have dk_0 : Deck wd0.heap.size q5.drew := Deck.below H41.out (Below.drew (Below.refl _ _)) (Deck.lt H41.out)
    have X_0 : Bytes q5.drew (fun b => (Off [u4.heap.size, u1.heap.size, wd0.heap.size]) b ∧ b < q5.heap.size) (.slice A1 X.length c1) X := Bytes.below (Bytes.mono H39.out fun b hb hq => ⟨hq, hb⟩) (Below.drew (Below.refl _ _)) (Nat.le_refl _)
    have Y_0 : Bytes q5.drew (fun b => (Off [u4.heap.size, u1.heap.size, wd0.heap.size]) b ∧ b < q5.heap.size) (.slice A2 Y.length c2) Y := Bytes.below (Bytes.mono H40.out fun b hb hq => ⟨hq, hb⟩) (Below.drew (Below.refl _ _)) (Nat.le_refl _)
    have va_0 : AlV q5.drew (fun b => (Off [u4.heap.size, u1.heap.size, wd0.heap.size]) b ∧ b < q5.heap.size) (.agg (alc a.free a.seed a.fresh (.slice Ama a.macs.length cma) (.slice Aba a.boxes.length cba))) a := AlV.below (AlV.mono H42.out fun b hb hq => ⟨hq, hb⟩) (Below.drew (Below.refl _ _)) (Nat.le_refl _)
    refine wp_region_G (fun W : World => Whole W u1.heap.size 32 (alc a.free a.seed a.fresh (.slice Ama a.macs.length cma) (.slice Aba a.boxes.length cba)) ∧ Whole W u4.heap.size 36 (cnl z1 K (.slice Ap np cp)).toArray) (fun _ => True) [14] (by kernel_rfl) ?_
    have hHeld : (fun W : World => Whole W u1.heap.size 32 (alc a.free a.seed a.fresh (.slice Ama a.macs.length cma) (.slice Aba a.boxes.length cba)) ∧ Whole W u4.heap.size 36 (cnl z1 K (.slice Ap np cp)).toArray) q5.drew := ⟨ra_0, rc_0⟩
    apply AnyG_take (i := 0) rfl (by kernel_rfl) (by kernel_rfl) (by kernel_rfl) (by kernel_rfl)
    case hQ => exact fun _ _ _ h => h
    case hB => exact trivial
    case hC => exact hHeld
    case hy => exact yieldsIf_load_mid (by rfl) 32 _ rfl (u1.heap.size) 0 rfl (alcl a.free a.seed a.fresh (.slice Ama a.macs.length cma) (.slice Aba a.boxes.length cba)) _ (fun w hS => Whole.range hS.1) Tryd.underlying32 rfl (by rw [alcl_length]; exact algSize)
    (try simp only [List.getElem_toArray, List.getElem_cons_zero, Act.put, List.setIfInBounds_toArray, List.set_cons_zero, List.set_cons_succ])
    apply AnyG_take (i := 1) rfl (by kernel_rfl) (by kernel_rfl) (by kernel_rfl) (by kernel_rfl)
    case hQ => exact fun _ _ _ h => h
    case hB => exact trivial
    case hC => exact hHeld
    case hy => exact yieldsIf_load_mid (by rfl) 36 _ rfl (u4.heap.size) 0 rfl (cnl z1 K (.slice Ap np cp)) _ (fun w hS => Whole.range hS.2) Tryd.underlying36 rfl (by rw [cnl_len]; exact cnSize)
    (try simp only [List.getElem_toArray, List.getElem_cons_succ, List.getElem_cons_zero, Act.put, List.setIfInBounds_toArray, List.set_cons_zero, List.set_cons_succ])
    apply AnyG_pure (i := 2) rfl (by kernel_rfl) (by kernel_rfl) (by kernel_rfl) (by kernel_rfl)
    case hQ => exact fun _ _ _ h => h
    case hB => exact trivial
    case hC => exact .inr hHeld
    case hy => (refine Or.inl ⟨by rfl, ?_⟩; intro w hSw; (try go_split_ands); go_simp; (try with_reducible rfl))
    (try simp only [List.getElem_toArray, List.getElem_cons_succ, List.getElem_cons_zero, Act.put, List.setIfInBounds_toArray, List.set_cons_zero, List.set_cons_succ])
    apply AnyG_pure (i := 4) rfl (by kernel_rfl) (by kernel_rfl) (by kernel_rfl) (by kernel_rfl)
    case hQ => exact fun _ _ _ h => h
    case hB => exact trivial
    case hC => exact .inr hHeld
    case hy => (refine Or.inl ⟨by rfl, ?_⟩; intro w hSw; (try go_split_ands); go_simp; (try with_reducible rfl))
    (try simp only [List.getElem_toArray, List.getElem_cons_succ, List.getElem_cons_zero, Act.put, List.setIfInBounds_toArray, List.set_cons_zero, List.set_cons_succ])
    refine AnyG_two (i := 3) (j := 13) (by kernel_rfl) rfl rfl (fun KK hKK => ?_) (fun KK hKK => ?_)
    · skip
      (try simp only [List.getElem_toArray, List.getElem_cons_succ, List.getElem_cons_zero])
      go_simp
      go_at_call 15
      refine (dnext 10 (by omega) (by omega) (wd0.heap.size) q5.drew dk_0).mono ?_
      rintro e V1 ⟨lo, hlo, rfl, hv1⟩
      have hs1 : q5.drew.heap.size ≤ V1.heap.size := Turn.size hv1
      have base_1 : Below w.heap.size w V1 := base_turn base_0 hv1 (by omega)
      have ra_1 : Whole V1 u1.heap.size 32 (alc a.free a.seed a.fresh (.slice Ama a.macs.length cma) (.slice Aba a.boxes.length cba)) := hv1.2.2.oth _ _ _ (by omega) ra_0
      have rc_1 : Whole V1 u4.heap.size 36 (cnl z1 K (.slice Ap np cp)).toArray := hv1.2.2.oth _ _ _ (by omega) rc_0
      have dk_1 : Deck wd0.heap.size V1 := hv1.1
      have X_1 : Bytes V1 (fun b => (Off [u4.heap.size, u1.heap.size, wd0.heap.size]) b ∧ b < q5.heap.size) (.slice A1 X.length c1) X := Bytes.oth X_0 hv1.2.2 fun _ hq => hq.1 _ (by simp)
      have Y_1 : Bytes V1 (fun b => (Off [u4.heap.size, u1.heap.size, wd0.heap.size]) b ∧ b < q5.heap.size) (.slice A2 Y.length c2) Y := Bytes.oth Y_0 hv1.2.2 fun _ hq => hq.1 _ (by simp)
      have va_1 : AlV V1 (fun b => (Off [u4.heap.size, u1.heap.size, wd0.heap.size]) b ∧ b < q5.heap.size) (.agg (alc a.free a.seed a.fresh (.slice Ama a.macs.length cma) (.slice Aba a.boxes.length cba))) a := AlV.oth va_0 hv1.2.2 (Turn.size hv1) fun _ hq => hq.1 _ (by simp)
      clear hHeld
      have hHeld : (fun W : World => Whole W u1.heap.size 32 (alc a.free a.seed a.fresh (.slice Ama a.macs.length cma) (.slice Aba a.boxes.length cba)) ∧ Whole W u4.heap.size 36 (cnl z1 K (.slice Ap np cp)).toArray) V1 := ⟨ra_1, rc_1⟩
      refine hKK.out _ _ (.inr hHeld) trivial ?_
      clear hKK KK
      (try simp only [List.getElem_toArray, List.getElem_cons_succ, List.getElem_cons_zero, Act.put, List.setIfInBounds_toArray, List.set_cons_zero, List.set_cons_succ])
      refine AnyG_two (i := 5) (j := 13) (by kernel_rfl) rfl rfl (fun KK hKK => ?_) (fun KK hKK => ?_)
      · skip
        (try simp only [List.getElem_toArray, List.getElem_cons_succ, List.getElem_cons_zero])
        go_simp
        go_at_call 15
        refine (dnext 100 (by omega) (by omega) (wd0.heap.size) V1 dk_1).mono ?_
        rintro e V2 ⟨hi, hhi, rfl, hv2⟩
        have hs2 : V1.heap.size ≤ V2.heap.size := Turn.size hv2
        have base_2 : Below w.heap.size w V2 := base_turn base_1 hv2 (by omega)
        have ra_2 : Whole V2 u1.heap.size 32 (alc a.free a.seed a.fresh (.slice Ama a.macs.length cma) (.slice Aba a.boxes.length cba)) := hv2.2.2.oth _ _ _ (by omega) ra_1
        have rc_2 : Whole V2 u4.heap.size 36 (cnl z1 K (.slice Ap np cp)).toArray := hv2.2.2.oth _ _ _ (by omega) rc_1
        have dk_2 : Deck wd0.heap.size V2 := hv2.1
        have X_2 : Bytes V2 (fun b => (Off [u4.heap.size, u1.heap.size, wd0.heap.size]) b ∧ b < q5.heap.size) (.slice A1 X.length c1) X := Bytes.oth X_1 hv2.2.2 fun _ hq => hq.1 _ (by simp)
        have Y_2 : Bytes V2 (fun b => (Off [u4.heap.size, u1.heap.size, wd0.heap.size]) b ∧ b < q5.heap.size) (.slice A2 Y.length c2) Y := Bytes.oth Y_1 hv2.2.2 fun _ hq => hq.1 _ (by simp)
        have va_2 : AlV V2 (fun b => (Off [u4.heap.size, u1.heap.size, wd0.heap.size]) b ∧ b < q5.heap.size) (.agg (alc a.free a.seed a.fresh (.slice Ama a.macs.length cma) (.slice Aba a.boxes.length cba))) a := AlV.oth va_1 hv2.2.2 (Turn.size hv2) fun _ hq => hq.1 _ (by simp)
        clear hHeld
        have hHeld : (fun W : World => Whole W u1.heap.size 32 (alc a.free a.seed a.fresh (.slice Ama a.macs.length cma) (.slice Aba a.boxes.length cba)) ∧ Whole W u4.heap.size 36 (cnl z1 K (.slice Ap np cp)).toArray) V2 := ⟨ra_2, rc_2⟩
        refine hKK.out _ _ (.inr hHeld) trivial ?_
        clear hKK KK
        (try simp only [List.getElem_toArray, List.getElem_cons_succ, List.getElem_cons_zero, Act.put, List.setIfInBounds_toArray, List.set_cons_zero, List.set_cons_succ])
        apply AnyG_pure (i := 6) rfl (by kernel_rfl) (by kernel_rfl) (by kernel_rfl) (by kernel_rfl)
        case hQ => exact fun _ _ _ h => h
        case hB => exact trivial
        case hC => exact .inr hHeld
        case hy => (refine Or.inl ⟨by rfl, ?_⟩; intro w hSw; (try go_split_ands); go_simp; (try with_reducible rfl))
        (try simp only [List.getElem_toArray, List.getElem_cons_succ, List.getElem_cons_zero, Act.put, List.setIfInBounds_toArray, List.set_cons_zero, List.set_cons_succ])
        apply AnyG_pure (i := 7) rfl (by kernel_rfl) (by kernel_rfl) (by kernel_rfl) (by kernel_rfl)
        case hQ => exact fun _ _ _ h => h
        case hB => exact trivial
        case hC => exact .inr hHeld
        case hy => exact yieldsIf_build_tms (by rfl) _ _ rfl rfl rfl
        (try simp only [List.getElem_toArray, List.getElem_cons_succ, List.getElem_cons_zero, Act.put, List.setIfInBounds_toArray, List.set_cons_zero, List.set_cons_succ])
        refine AnyG_two (i := 8) (j := 13) (by kernel_rfl) rfl rfl (fun KK hKK => ?_) (fun KK hKK => ?_)
        · skip
          (try simp only [List.getElem_toArray, List.getElem_cons_succ, List.getElem_cons_zero])
          have hwr : IntKind.i64.wrap (10 + (hi : Int)) = 10 + (hi : Int) := by rw [IntKind.wrap_i64]; omega
          (try rw [hwr])
          clear hwr
          obtain ⟨wm, hwm⟩ : ∃ x, x = V2 := ⟨_, rfl⟩
          have hwms : wm.heap.size = V2.heap.size := by rw [hwm]
          clear hwm
          have hsm : q5.heap.size ≤ wm.heap.size := by omega
          have hcl := rblank (vp := (.slice Ap np cp)) z1 (lo : Int) (10 + (hi : Int)) va_2 (by omega) hlK
          obtain ⟨R, hR⟩ : ∃ R, R = pBlank a z1 K (lo : Int) (10 + (hi : Int)) := ⟨_, rfl⟩
          rw [← hR] at hcl
          obtain ⟨b, ⟨zp, kx, tx⟩, eb⟩ := R
          dsimp only [TbR] at hcl
          go_simp
          go_at_call 10
          refine (hcl).mono ?_
          rintro e V3 ⟨⟨x, y, rfl, hx3, hy3⟩, hv3⟩
          have hs3 : V2.heap.size ≤ V3.heap.size := hv3.size
          have base_3 : Below w.heap.size w V3 := Below.trans base_2 (Below.mono hv3 (Below.size base_2))
          have ra_3 : Whole V3 u1.heap.size 32 (alc a.free a.seed a.fresh (.slice Ama a.macs.length cma) (.slice Aba a.boxes.length cba)) := Whole.below ra_2 hv3 (Whole.lt ra_2)
          have rc_3 : Whole V3 u4.heap.size 36 (cnl z1 K (.slice Ap np cp)).toArray := Whole.below rc_2 hv3 (Whole.lt rc_2)
          have dk_3 : Deck wd0.heap.size V3 := Deck.below dk_2 hv3 (Deck.lt dk_2)
          have X_3 : Bytes V3 (fun b => (Off [u4.heap.size, u1.heap.size, wd0.heap.size]) b ∧ b < q5.heap.size) (.slice A1 X.length c1) X := Bytes.below X_2 hv3 (Nat.le_refl _)
          have Y_3 : Bytes V3 (fun b => (Off [u4.heap.size, u1.heap.size, wd0.heap.size]) b ∧ b < q5.heap.size) (.slice A2 Y.length c2) Y := Bytes.below Y_2 hv3 (Nat.le_refl _)
          have va_3 : AlV V3 (fun b => (Off [u4.heap.size, u1.heap.size, wd0.heap.size]) b ∧ b < q5.heap.size) (.agg (alc a.free a.seed a.fresh (.slice Ama a.macs.length cma) (.slice Aba a.boxes.length cba))) a := AlV.below va_2 hv3 (Nat.le_refl _)
          obtain ⟨Amb, cmb, Abb, cbb, rfl, hMb, hBb, hAb⟩ := hx3
          obtain ⟨At, ct, rfl, hX3, hlkx⟩ := hy3
          dsimp only at hX3 hlkx ⊢
          have vb_3 : AlV V3 (fun b => ((Off [u4.heap.size, u1.heap.size, wd0.heap.size]) b ∧ b < q5.heap.size) ∨ wm.heap.size ≤ b ∧ b < V3.heap.size) (.agg (alc b.free b.seed b.fresh (.slice Amb b.macs.length cmb) (.slice Abb b.boxes.length cbb))) b := AlV.mono ⟨Amb, cmb, Abb, cbb, rfl, hMb, hBb, hAb⟩ fun g hg hq => by rcases hq with hq | hq; exact .inl hq; exact .inr ⟨by omega, hg⟩
          have tk_3 : Bytes V3 (fun b => wm.heap.size ≤ b ∧ b < V3.heap.size) (.slice At tx.length ct) tx := Bytes.mono hX3 fun g hg hq => ⟨by have hq : V2.heap.size ≤ g := hq; omega, hg⟩
          clear hHeld
          have hHeld : (fun W : World => Whole W u1.heap.size 32 (alc a.free a.seed a.fresh (.slice Ama a.macs.length cma) (.slice Aba a.boxes.length cba)) ∧ Whole W u4.heap.size 36 (cnl z1 K (.slice Ap np cp)).toArray) V3 := ⟨ra_3, rc_3⟩
          refine hKK.out _ _ (.inr hHeld) trivial ?_
          clear hKK KK
          (try simp only [List.getElem_toArray, List.getElem_cons_succ, List.getElem_cons_zero, Act.put, List.setIfInBounds_toArray, List.set_cons_zero, List.set_cons_succ])
          apply AnyG_pure (i := 9) rfl (by kernel_rfl) (by kernel_rfl) (by kernel_rfl) (by kernel_rfl)
          case hQ => exact fun _ _ _ h => h
          case hB => exact trivial
          case hC => exact .inr hHeld
          case hy => (refine Or.inl ⟨by rfl, ?_⟩; intro w hSw; (try go_split_ands); go_simp; (try with_reducible rfl))
          (try simp only [List.getElem_toArray, List.getElem_cons_succ, List.getElem_cons_zero, Act.put, List.setIfInBounds_toArray, List.set_cons_zero, List.set_cons_succ])
          apply AnyG_pure (i := 10) rfl (by kernel_rfl) (by kernel_rfl) (by kernel_rfl) (by kernel_rfl)
          case hQ => exact fun _ _ _ h => h
          case hB => exact trivial
          case hC => exact .inr hHeld
          case hy => (refine Or.inl ⟨by rfl, ?_⟩; intro w hSw; (try go_split_ands); go_simp; (try with_reducible rfl))
          (try simp only [List.getElem_toArray, List.getElem_cons_succ, List.getElem_cons_zero, Act.put, List.setIfInBounds_toArray, List.set_cons_zero, List.set_cons_succ])
          apply AnyG_pure (i := 11) rfl (by kernel_rfl) (by kernel_rfl) (by kernel_rfl) (by kernel_rfl)
          case hQ => exact fun _ _ _ h => h
          case hB => exact trivial
          case hC => exact .inr hHeld
          case hy => (refine Or.inl ⟨by rfl, ?_⟩; intro w hSw; (try go_split_ands); go_simp; (try with_reducible rfl))
          (try simp only [List.getElem_toArray, List.getElem_cons_succ, List.getElem_cons_zero, Act.put, List.setIfInBounds_toArray, List.set_cons_zero, List.set_cons_succ])
          apply AnyG_pure (i := 12) rfl (by kernel_rfl) (by kernel_rfl) (by kernel_rfl) (by kernel_rfl)
          case hQ => exact fun _ _ _ h => h
          case hB => exact trivial
          case hC => exact .inr hHeld
          case hy => (refine Or.inl ⟨by rfl, ?_⟩; intro w hSw; (try go_split_ands); go_simp; (try with_reducible rfl))
          (try simp only [List.getElem_toArray, List.getElem_cons_succ, List.getElem_cons_zero, Act.put, List.setIfInBounds_toArray, List.set_cons_zero, List.set_cons_succ])
          refine AnyG_one (i := 13) (by kernel_rfl) rfl (fun KK hKK => ?_)
          (try simp only [List.getElem_toArray, List.getElem_cons_succ, List.getElem_cons_zero])
          go_simp
          rw [zbk_lit]
          obtain ⟨V4, hV4⟩ : ∃ x, x = (V3).alloc (.cells zbk 41) := ⟨_, rfl⟩
          have hv4 : Below V3.heap.size V3 V4 := by rw [hV4]; exact Below.alloc (Below.refl _ _) (Nat.le_refl _) _
          have hs4 : V3.heap.size < V4.heap.size := by rw [hV4]; simp
          have base_4 : Below w.heap.size w V4 := Below.trans base_3 (Below.mono hv4 (Below.size base_3))
          have ra_4 : Whole V4 u1.heap.size 32 (alc a.free a.seed a.fresh (.slice Ama a.macs.length cma) (.slice Aba a.boxes.length cba)) := Whole.below ra_3 hv4 (Whole.lt ra_3)
          have rc_4 : Whole V4 u4.heap.size 36 (cnl z1 K (.slice Ap np cp)).toArray := Whole.below rc_3 hv4 (Whole.lt rc_3)
          have dk_4 : Deck wd0.heap.size V4 := Deck.below dk_3 hv4 (Deck.lt dk_3)
          have X_4 : Bytes V4 (fun b => (Off [u4.heap.size, u1.heap.size, wd0.heap.size]) b ∧ b < q5.heap.size) (.slice A1 X.length c1) X := Bytes.below X_3 hv4 (Nat.le_refl _)
          have Y_4 : Bytes V4 (fun b => (Off [u4.heap.size, u1.heap.size, wd0.heap.size]) b ∧ b < q5.heap.size) (.slice A2 Y.length c2) Y := Bytes.below Y_3 hv4 (Nat.le_refl _)
          have va_4 : AlV V4 (fun b => (Off [u4.heap.size, u1.heap.size, wd0.heap.size]) b ∧ b < q5.heap.size) (.agg (alc a.free a.seed a.fresh (.slice Ama a.macs.length cma) (.slice Aba a.boxes.length cba))) a := AlV.below va_3 hv4 (Nat.le_refl _)
          have vb_4 : AlV V4 (fun b => ((Off [u4.heap.size, u1.heap.size, wd0.heap.size]) b ∧ b < q5.heap.size) ∨ wm.heap.size ≤ b ∧ b < V3.heap.size) (.agg (alc b.free b.seed b.fresh (.slice Amb b.macs.length cmb) (.slice Abb b.boxes.length cbb))) b := AlV.below vb_3 hv4 (Nat.le_refl _)
          have tk_4 : Bytes V4 (fun b => wm.heap.size ≤ b ∧ b < V3.heap.size) (.slice At tx.length ct) tx := Bytes.below tk_3 hv4 (Nat.le_refl _)
          have r_x_4 : Whole V4 (V3.heap.size) 41 zbk := by rw [hV4]; exact Whole.here _ _ _
          rw [← hV4]
          clear hV4
          clear hHeld
          have hHeld : (fun W : World => Whole W u1.heap.size 32 (alc a.free a.seed a.fresh (.slice Ama a.macs.length cma) (.slice Aba a.boxes.length cba)) ∧ Whole W u4.heap.size 36 (cnl z1 K (.slice Ap np cp)).toArray) V4 := ⟨ra_4, rc_4⟩
          refine hKK.out _ _ (.inr hHeld) trivial ?_
          clear hKK KK
          (try simp only [List.getElem_toArray, List.getElem_cons_succ, List.getElem_cons_zero, Act.put, List.setIfInBounds_toArray, List.set_cons_zero, List.set_cons_succ])
          refine AnyG_one (i := 14) (by kernel_rfl) rfl (fun KK hKK => ?_)
          obtain ⟨V5, hV5⟩ : ∃ x, x = V4.setRow u1.heap.size (alc b.free b.seed b.fresh (.slice Amb b.macs.length cmb) (.slice Abb b.boxes.length cbb)) := ⟨_, rfl⟩
          have base_5 : Below w.heap.size w V5 := by rw [hV5]; exact below_setRow base_4 (by omega) _
          have rc_5 : Whole V5 u4.heap.size 36 (cnl z1 K (.slice Ap np cp)).toArray := by rw [hV5]; exact Whole.setRow_far rc_4 (by omega) _
          have dk_5 : Deck wd0.heap.size V5 := by rw [hV5]; exact Deck.store dk_4 (by omega) _
          have X_5 : Bytes V5 (fun b => (Off [u4.heap.size, u1.heap.size, wd0.heap.size]) b ∧ b < q5.heap.size) (.slice A1 X.length c1) X := by rw [hV5]; exact Bytes.keep X_4 fun b _ hq => setRow_other _ _ _ _ (hq.1 _ (by simp))
          have Y_5 : Bytes V5 (fun b => (Off [u4.heap.size, u1.heap.size, wd0.heap.size]) b ∧ b < q5.heap.size) (.slice A2 Y.length c2) Y := by rw [hV5]; exact Bytes.keep Y_4 fun b _ hq => setRow_other _ _ _ _ (hq.1 _ (by simp))
          have va_5 : AlV V5 (fun b => (Off [u4.heap.size, u1.heap.size, wd0.heap.size]) b ∧ b < q5.heap.size) (.agg (alc a.free a.seed a.fresh (.slice Ama a.macs.length cma) (.slice Aba a.boxes.length cba))) a := by rw [hV5]; exact AlV.keep va_4 (by simp) fun b _ hq => setRow_other _ _ _ _ (hq.1 _ (by simp))
          have vb_5 : AlV V5 (fun b => ((Off [u4.heap.size, u1.heap.size, wd0.heap.size]) b ∧ b < q5.heap.size) ∨ wm.heap.size ≤ b ∧ b < V3.heap.size) (.agg (alc b.free b.seed b.fresh (.slice Amb b.macs.length cmb) (.slice Abb b.boxes.length cbb))) b := by rw [hV5]; exact AlV.keep vb_4 (by simp) fun b _ hq => setRow_other _ _ _ _ (by rcases hq with hq | hq; exact hq.1 _ (by simp); omega)
          have tk_5 : Bytes V5 (fun b => wm.heap.size ≤ b ∧ b < V3.heap.size) (.slice At tx.length ct) tx := by rw [hV5]; exact Bytes.keep tk_4 fun b _ hq => setRow_other _ _ _ _ (by have hq1 : wm.heap.size ≤ b := hq.1; have hq2 : b < V3.heap.size := hq.2; omega)
          have r_x_5 : Whole V5 (V3.heap.size) 41 zbk := by rw [hV5]; exact Whole.setRow_far r_x_4 (by omega) _
          have ra_5 : Whole V5 u1.heap.size 32 (alc b.free b.seed b.fresh (.slice Amb b.macs.length cmb) (.slice Abb b.boxes.length cbb)) := by rw [hV5]; exact Whole.setRow ra_4 _
          have hs5 : V4.heap.size ≤ V5.heap.size := by rw [hV5]; simp
          rw [if_pos (by kernel_rfl)]
          refine wp_store_row 32 _ _ rfl u1.heap.size _ rfl rfl 32 _ ra_4 (by rw [algSize, alc_size]) (by rw [alc_size, alc_size]) (alc_one _ _ _ _ _ _ _ _ _) ?_
          rw [← hV5]
          clear hV5
          refine hKK.out _ _ (.inl (by kernel_rfl)) trivial ?_
          clear hKK KK
          (try simp only [List.getElem_toArray, List.getElem_cons_succ, List.getElem_cons_zero, Act.put, List.setIfInBounds_toArray, List.set_cons_zero, List.set_cons_succ])
          refine AnyG_one (i := 15) (by kernel_rfl) rfl (fun KK hKK => ?_)
          obtain ⟨V6, hV6⟩ : ∃ x, x = V5.setRow (V3.heap.size) (cnl zp kx (.slice At tx.length ct)).toArray := ⟨_, rfl⟩
          have base_6 : Below w.heap.size w V6 := by rw [hV6]; exact below_setRow base_5 (by omega) _
          have rc_6 : Whole V6 u4.heap.size 36 (cnl z1 K (.slice Ap np cp)).toArray := by rw [hV6]; exact Whole.setRow_far rc_5 (by omega) _
          have dk_6 : Deck wd0.heap.size V6 := by rw [hV6]; exact Deck.store dk_5 (by omega) _
          have X_6 : Bytes V6 (fun b => (Off [u4.heap.size, u1.heap.size, wd0.heap.size]) b ∧ b < q5.heap.size) (.slice A1 X.length c1) X := by rw [hV6]; exact Bytes.keep X_5 fun b _ hq => setRow_other _ _ _ _ (by have hq2 : b < q5.heap.size := hq.2; omega)
          have Y_6 : Bytes V6 (fun b => (Off [u4.heap.size, u1.heap.size, wd0.heap.size]) b ∧ b < q5.heap.size) (.slice A2 Y.length c2) Y := by rw [hV6]; exact Bytes.keep Y_5 fun b _ hq => setRow_other _ _ _ _ (by have hq2 : b < q5.heap.size := hq.2; omega)
          have va_6 : AlV V6 (fun b => (Off [u4.heap.size, u1.heap.size, wd0.heap.size]) b ∧ b < q5.heap.size) (.agg (alc a.free a.seed a.fresh (.slice Ama a.macs.length cma) (.slice Aba a.boxes.length cba))) a := by rw [hV6]; exact AlV.keep va_5 (by simp) fun b _ hq => setRow_other _ _ _ _ (by have hq2 : b < q5.heap.size := hq.2; omega)
          have vb_6 : AlV V6 (fun b => ((Off [u4.heap.size, u1.heap.size, wd0.heap.size]) b ∧ b < q5.heap.size) ∨ wm.heap.size ≤ b ∧ b < V3.heap.size) (.agg (alc b.free b.seed b.fresh (.slice Amb b.macs.length cmb) (.slice Abb b.boxes.length cbb))) b := by rw [hV6]; exact AlV.keep vb_5 (by simp) fun b _ hq => setRow_other _ _ _ _ (by rcases hq with hq | hq; have hq2 : b < q5.heap.size := hq.2; omega; omega)
          have tk_6 : Bytes V6 (fun b => wm.heap.size ≤ b ∧ b < V3.heap.size) (.slice At tx.length ct) tx := by rw [hV6]; exact Bytes.keep tk_5 fun b _ hq => setRow_other _ _ _ _ (by have hq1 : wm.heap.size ≤ b := hq.1; have hq2 : b < V3.heap.size := hq.2; omega)
          have ra_6 : Whole V6 u1.heap.size 32 (alc b.free b.seed b.fresh (.slice Amb b.macs.length cmb) (.slice Abb b.boxes.length cbb)) := by rw [hV6]; exact Whole.setRow_far ra_5 (by omega) _
          have r_x_6 : Whole V6 (V3.heap.size) 41 (cnl zp kx (.slice At tx.length ct)).toArray := by rw [hV6]; exact Whole.setRow r_x_5 _
          have hs6 : V5.heap.size ≤ V6.heap.size := by rw [hV6]; simp
          rw [if_pos (by kernel_rfl)]
          refine wp_store_row 41 _ _ rfl (V3.heap.size) _ rfl rfl 41 _ r_x_5 (by rw [blankSize, cnl_size]) (by rw [zbk_size, cnl_size]) (cnl_one _ _ _ _ _) ?_
          rw [← hV6]
          clear hV6
          refine hKK.out _ _ (.inl (by kernel_rfl)) trivial ?_
          clear hKK KK
          (try simp only [List.getElem_toArray, List.getElem_cons_succ, List.getElem_cons_zero, Act.put, List.setIfInBounds_toArray, List.set_cons_zero, List.set_cons_succ])
          apply AnyG_pure (i := 16) rfl (by kernel_rfl) (by kernel_rfl) (by kernel_rfl) (by kernel_rfl)
          case hQ => exact fun _ _ _ h => h
          case hB => exact trivial
          case hC => exact .inl (by kernel_rfl)
          case hy => (refine Or.inl ⟨by rfl, ?_⟩; intro w hSw; (try go_split_ands); go_simp; (try with_reducible rfl))
          (try simp only [List.getElem_toArray, List.getElem_cons_succ, List.getElem_cons_zero, Act.put, List.setIfInBounds_toArray, List.set_cons_zero, List.set_cons_succ])
          refine AnyG_done (by kernel_rfl) ?_ _
          go_wp2_with fail
          go_meet
          exact ⟨lo, hi, b, zp, kx, tx, eb, _, Amb, cmb, Abb, cbb, At, ct, hlo, hhi, hR, rfl, base_6, by omega, dk_6, ra_6, rc_6, r_x_6, AlV.mono vb_6 fun b _ hq => by rcases hq with hq | hq; exact ⟨.inl hq, by have hq2 : b < q5.heap.size := hq.2; omega⟩; exact ⟨.inr (by omega), by omega⟩, Bytes.mono tk_6 fun b _ hq => by have hq1 := hq.1; have hq2 := hq.2; exact ⟨by omega, by omega⟩, X_6, Y_6⟩
        · skip
          (try simp only [List.getElem_toArray, List.getElem_cons_succ, List.getElem_cons_zero])
          go_simp
          rw [zbk_lit]
          obtain ⟨V7, hV7⟩ : ∃ x, x = (V2).alloc (.cells zbk 41) := ⟨_, rfl⟩
          have hv7 : Below V2.heap.size V2 V7 := by rw [hV7]; exact Below.alloc (Below.refl _ _) (Nat.le_refl _) _
          have hs7 : V2.heap.size < V7.heap.size := by rw [hV7]; simp
          have base_7 : Below w.heap.size w V7 := Below.trans base_2 (Below.mono hv7 (Below.size base_2))
          have ra_7 : Whole V7 u1.heap.size 32 (alc a.free a.seed a.fresh (.slice Ama a.macs.length cma) (.slice Aba a.boxes.length cba)) := Whole.below ra_2 hv7 (Whole.lt ra_2)
          have rc_7 : Whole V7 u4.heap.size 36 (cnl z1 K (.slice Ap np cp)).toArray := Whole.below rc_2 hv7 (Whole.lt rc_2)
          have dk_7 : Deck wd0.heap.size V7 := Deck.below dk_2 hv7 (Deck.lt dk_2)
          have X_7 : Bytes V7 (fun b => (Off [u4.heap.size, u1.heap.size, wd0.heap.size]) b ∧ b < q5.heap.size) (.slice A1 X.length c1) X := Bytes.below X_2 hv7 (Nat.le_refl _)
          have Y_7 : Bytes V7 (fun b => (Off [u4.heap.size, u1.heap.size, wd0.heap.size]) b ∧ b < q5.heap.size) (.slice A2 Y.length c2) Y := Bytes.below Y_2 hv7 (Nat.le_refl _)
          have va_7 : AlV V7 (fun b => (Off [u4.heap.size, u1.heap.size, wd0.heap.size]) b ∧ b < q5.heap.size) (.agg (alc a.free a.seed a.fresh (.slice Ama a.macs.length cma) (.slice Aba a.boxes.length cba))) a := AlV.below va_2 hv7 (Nat.le_refl _)
          have r_x_7 : Whole V7 (V2.heap.size) 41 zbk := by rw [hV7]; exact Whole.here _ _ _
          rw [← hV7]
          clear hV7
          clear hHeld
          have hHeld : (fun W : World => Whole W u1.heap.size 32 (alc a.free a.seed a.fresh (.slice Ama a.macs.length cma) (.slice Aba a.boxes.length cba)) ∧ Whole W u4.heap.size 36 (cnl z1 K (.slice Ap np cp)).toArray) V7 := ⟨ra_7, rc_7⟩
          refine hKK.out _ _ (.inr hHeld) trivial ?_
          clear hKK KK
          (try simp only [List.getElem_toArray, List.getElem_cons_succ, List.getElem_cons_zero, Act.put, List.setIfInBounds_toArray, List.set_cons_zero, List.set_cons_succ])
          refine AnyG_one (i := 8) (by kernel_rfl) rfl (fun KK hKK => ?_)
          (try simp only [List.getElem_toArray, List.getElem_cons_succ, List.getElem_cons_zero])
          have hwr : IntKind.i64.wrap (10 + (hi : Int)) = 10 + (hi : Int) := by rw [IntKind.wrap_i64]; omega
          (try rw [hwr])
          clear hwr
          obtain ⟨wm, hwm⟩ : ∃ x, x = V7 := ⟨_, rfl⟩
          have hwms : wm.heap.size = V7.heap.size := by rw [hwm]
          clear hwm
          have hsm : q5.heap.size ≤ wm.heap.size := by omega
          have hcl := rblank (vp := (.slice Ap np cp)) z1 (lo : Int) (10 + (hi : Int)) va_7 (by omega) hlK
          obtain ⟨R, hR⟩ : ∃ R, R = pBlank a z1 K (lo : Int) (10 + (hi : Int)) := ⟨_, rfl⟩
          rw [← hR] at hcl
          obtain ⟨b, ⟨zp, kx, tx⟩, eb⟩ := R
          dsimp only [TbR] at hcl
          go_simp
          go_at_call 10
          refine (hcl).mono ?_
          rintro e V8 ⟨⟨x, y, rfl, hx8, hy8⟩, hv8⟩
          have hs8 : V7.heap.size ≤ V8.heap.size := hv8.size
          have base_8 : Below w.heap.size w V8 := Below.trans base_7 (Below.mono hv8 (Below.size base_7))
          have ra_8 : Whole V8 u1.heap.size 32 (alc a.free a.seed a.fresh (.slice Ama a.macs.length cma) (.slice Aba a.boxes.length cba)) := Whole.below ra_7 hv8 (Whole.lt ra_7)
          have rc_8 : Whole V8 u4.heap.size 36 (cnl z1 K (.slice Ap np cp)).toArray := Whole.below rc_7 hv8 (Whole.lt rc_7)
          have dk_8 : Deck wd0.heap.size V8 := Deck.below dk_7 hv8 (Deck.lt dk_7)
          have X_8 : Bytes V8 (fun b => (Off [u4.heap.size, u1.heap.size, wd0.heap.size]) b ∧ b < q5.heap.size) (.slice A1 X.length c1) X := Bytes.below X_7 hv8 (Nat.le_refl _)
          have Y_8 : Bytes V8 (fun b => (Off [u4.heap.size, u1.heap.size, wd0.heap.size]) b ∧ b < q5.heap.size) (.slice A2 Y.length c2) Y := Bytes.below Y_7 hv8 (Nat.le_refl _)
          have va_8 : AlV V8 (fun b => (Off [u4.heap.size, u1.heap.size, wd0.heap.size]) b ∧ b < q5.heap.size) (.agg (alc a.free a.seed a.fresh (.slice Ama a.macs.length cma) (.slice Aba a.boxes.length cba))) a := AlV.below va_7 hv8 (Nat.le_refl _)
          have r_x_8 : Whole V8 (V2.heap.size) 41 zbk := Whole.below r_x_7 hv8 (Whole.lt r_x_7)
          obtain ⟨Amb, cmb, Abb, cbb, rfl, hMb, hBb, hAb⟩ := hx8
          obtain ⟨At, ct, rfl, hX8, hlkx⟩ := hy8
          dsimp only at hX8 hlkx ⊢
          have vb_8 : AlV V8 (fun b => ((Off [u4.heap.size, u1.heap.size, wd0.heap.size]) b ∧ b < q5.heap.size) ∨ wm.heap.size ≤ b ∧ b < V8.heap.size) (.agg (alc b.free b.seed b.fresh (.slice Amb b.macs.length cmb) (.slice Abb b.boxes.length cbb))) b := AlV.mono ⟨Amb, cmb, Abb, cbb, rfl, hMb, hBb, hAb⟩ fun g hg hq => by rcases hq with hq | hq; exact .inl hq; exact .inr ⟨by omega, hg⟩
          have tk_8 : Bytes V8 (fun b => wm.heap.size ≤ b ∧ b < V8.heap.size) (.slice At tx.length ct) tx := Bytes.mono hX8 fun g hg hq => ⟨by have hq : V7.heap.size ≤ g := hq; omega, hg⟩
          clear hHeld
          have hHeld : (fun W : World => Whole W u1.heap.size 32 (alc a.free a.seed a.fresh (.slice Ama a.macs.length cma) (.slice Aba a.boxes.length cba)) ∧ Whole W u4.heap.size 36 (cnl z1 K (.slice Ap np cp)).toArray) V8 := ⟨ra_8, rc_8⟩
          refine hKK.out _ _ (.inr hHeld) trivial ?_
          clear hKK KK
          (try simp only [List.getElem_toArray, List.getElem_cons_succ, List.getElem_cons_zero, Act.put, List.setIfInBounds_toArray, List.set_cons_zero, List.set_cons_succ])
          apply AnyG_pure (i := 9) rfl (by kernel_rfl) (by kernel_rfl) (by kernel_rfl) (by kernel_rfl)
          case hQ => exact fun _ _ _ h => h
          case hB => exact trivial
          case hC => exact .inr hHeld
          case hy => (refine Or.inl ⟨by rfl, ?_⟩; intro w hSw; (try go_split_ands); go_simp; (try with_reducible rfl))
          (try simp only [List.getElem_toArray, List.getElem_cons_succ, List.getElem_cons_zero, Act.put, List.setIfInBounds_toArray, List.set_cons_zero, List.set_cons_succ])
          apply AnyG_pure (i := 10) rfl (by kernel_rfl) (by kernel_rfl) (by kernel_rfl) (by kernel_rfl)
          case hQ => exact fun _ _ _ h => h
          case hB => exact trivial
          case hC => exact .inr hHeld
          case hy => (refine Or.inl ⟨by rfl, ?_⟩; intro w hSw; (try go_split_ands); go_simp; (try with_reducible rfl))
          (try simp only [List.getElem_toArray, List.getElem_cons_succ, List.getElem_cons_zero, Act.put, List.setIfInBounds_toArray, List.set_cons_zero, List.set_cons_succ])
          apply AnyG_pure (i := 11) rfl (by kernel_rfl) (by kernel_rfl) (by kernel_rfl) (by kernel_rfl)
          case hQ => exact fun _ _ _ h => h
          case hB => exact trivial
          case hC => exact .inr hHeld
          case hy => (refine Or.inl ⟨by rfl, ?_⟩; intro w hSw; (try go_split_ands); go_simp; (try with_reducible rfl))
          (try simp only [List.getElem_toArray, List.getElem_cons_succ, List.getElem_cons_zero, Act.put, List.setIfInBounds_toArray, List.set_cons_zero, List.set_cons_succ])
          apply AnyG_pure (i := 12) rfl (by kernel_rfl) (by kernel_rfl) (by kernel_rfl) (by kernel_rfl)
          case hQ => exact fun _ _ _ h => h
          case hB => exact trivial
          case hC => exact .inr hHeld
          case hy => (refine Or.inl ⟨by rfl, ?_⟩; intro w hSw; (try go_split_ands); go_simp; (try with_reducible rfl))
          (try simp only [List.getElem_toArray, List.getElem_cons_succ, List.getElem_cons_zero, Act.put, List.setIfInBounds_toArray, List.set_cons_zero, List.set_cons_succ])
          refine AnyG_one (i := 14) (by kernel_rfl) rfl (fun KK hKK => ?_)
          obtain ⟨V9, hV9⟩ : ∃ x, x = V8.setRow u1.heap.size (alc b.free b.seed b.fresh (.slice Amb b.macs.length cmb) (.slice Abb b.boxes.length cbb)) := ⟨_, rfl⟩
          have base_9 : Below w.heap.size w V9 := by rw [hV9]; exact below_setRow base_8 (by omega) _
          have rc_9 : Whole V9 u4.heap.size 36 (cnl z1 K (.slice Ap np cp)).toArray := by rw [hV9]; exact Whole.setRow_far rc_8 (by omega) _
          have dk_9 : Deck wd0.heap.size V9 := by rw [hV9]; exact Deck.store dk_8 (by omega) _
          have X_9 : Bytes V9 (fun b => (Off [u4.heap.size, u1.heap.size, wd0.heap.size]) b ∧ b < q5.heap.size) (.slice A1 X.length c1) X := by rw [hV9]; exact Bytes.keep X_8 fun b _ hq => setRow_other _ _ _ _ (hq.1 _ (by simp))
          have Y_9 : Bytes V9 (fun b => (Off [u4.heap.size, u1.heap.size, wd0.heap.size]) b ∧ b < q5.heap.size) (.slice A2 Y.length c2) Y := by rw [hV9]; exact Bytes.keep Y_8 fun b _ hq => setRow_other _ _ _ _ (hq.1 _ (by simp))
          have va_9 : AlV V9 (fun b => (Off [u4.heap.size, u1.heap.size, wd0.heap.size]) b ∧ b < q5.heap.size) (.agg (alc a.free a.seed a.fresh (.slice Ama a.macs.length cma) (.slice Aba a.boxes.length cba))) a := by rw [hV9]; exact AlV.keep va_8 (by simp) fun b _ hq => setRow_other _ _ _ _ (hq.1 _ (by simp))
          have r_x_9 : Whole V9 (V2.heap.size) 41 zbk := by rw [hV9]; exact Whole.setRow_far r_x_8 (by omega) _
          have vb_9 : AlV V9 (fun b => ((Off [u4.heap.size, u1.heap.size, wd0.heap.size]) b ∧ b < q5.heap.size) ∨ wm.heap.size ≤ b ∧ b < V8.heap.size) (.agg (alc b.free b.seed b.fresh (.slice Amb b.macs.length cmb) (.slice Abb b.boxes.length cbb))) b := by rw [hV9]; exact AlV.keep vb_8 (by simp) fun b _ hq => setRow_other _ _ _ _ (by rcases hq with hq | hq; exact hq.1 _ (by simp); omega)
          have tk_9 : Bytes V9 (fun b => wm.heap.size ≤ b ∧ b < V8.heap.size) (.slice At tx.length ct) tx := by rw [hV9]; exact Bytes.keep tk_8 fun b _ hq => setRow_other _ _ _ _ (by have hq1 : wm.heap.size ≤ b := hq.1; have hq2 : b < V8.heap.size := hq.2; omega)
          have ra_9 : Whole V9 u1.heap.size 32 (alc b.free b.seed b.fresh (.slice Amb b.macs.length cmb) (.slice Abb b.boxes.length cbb)) := by rw [hV9]; exact Whole.setRow ra_8 _
          have hs9 : V8.heap.size ≤ V9.heap.size := by rw [hV9]; simp
          rw [if_pos (by kernel_rfl)]
          refine wp_store_row 32 _ _ rfl u1.heap.size _ rfl rfl 32 _ ra_8 (by rw [algSize, alc_size]) (by rw [alc_size, alc_size]) (alc_one _ _ _ _ _ _ _ _ _) ?_
          rw [← hV9]
          clear hV9
          refine hKK.out _ _ (.inl (by kernel_rfl)) trivial ?_
          clear hKK KK
          (try simp only [List.getElem_toArray, List.getElem_cons_succ, List.getElem_cons_zero, Act.put, List.setIfInBounds_toArray, List.set_cons_zero, List.set_cons_succ])
          refine AnyG_one (i := 15) (by kernel_rfl) rfl (fun KK hKK => ?_)
          obtain ⟨V10, hV10⟩ : ∃ x, x = V9.setRow (V2.heap.size) (cnl zp kx (.slice At tx.length ct)).toArray := ⟨_, rfl⟩
          have base_10 : Below w.heap.size w V10 := by rw [hV10]; exact below_setRow base_9 (by omega) _
          have rc_10 : Whole V10 u4.heap.size 36 (cnl z1 K (.slice Ap np cp)).toArray := by rw [hV10]; exact Whole.setRow_far rc_9 (by omega) _
          have dk_10 : Deck wd0.heap.size V10 := by rw [hV10]; exact Deck.store dk_9 (by omega) _
          have X_10 : Bytes V10 (fun b => (Off [u4.heap.size, u1.heap.size, wd0.heap.size]) b ∧ b < q5.heap.size) (.slice A1 X.length c1) X := by rw [hV10]; exact Bytes.keep X_9 fun b _ hq => setRow_other _ _ _ _ (by have hq2 : b < q5.heap.size := hq.2; omega)
          have Y_10 : Bytes V10 (fun b => (Off [u4.heap.size, u1.heap.size, wd0.heap.size]) b ∧ b < q5.heap.size) (.slice A2 Y.length c2) Y := by rw [hV10]; exact Bytes.keep Y_9 fun b _ hq => setRow_other _ _ _ _ (by have hq2 : b < q5.heap.size := hq.2; omega)
          have va_10 : AlV V10 (fun b => (Off [u4.heap.size, u1.heap.size, wd0.heap.size]) b ∧ b < q5.heap.size) (.agg (alc a.free a.seed a.fresh (.slice Ama a.macs.length cma) (.slice Aba a.boxes.length cba))) a := by rw [hV10]; exact AlV.keep va_9 (by simp) fun b _ hq => setRow_other _ _ _ _ (by have hq2 : b < q5.heap.size := hq.2; omega)
          have vb_10 : AlV V10 (fun b => ((Off [u4.heap.size, u1.heap.size, wd0.heap.size]) b ∧ b < q5.heap.size) ∨ wm.heap.size ≤ b ∧ b < V8.heap.size) (.agg (alc b.free b.seed b.fresh (.slice Amb b.macs.length cmb) (.slice Abb b.boxes.length cbb))) b := by rw [hV10]; exact AlV.keep vb_9 (by simp) fun b _ hq => setRow_other _ _ _ _ (by rcases hq with hq | hq; have hq2 : b < q5.heap.size := hq.2; omega; omega)
          have tk_10 : Bytes V10 (fun b => wm.heap.size ≤ b ∧ b < V8.heap.size) (.slice At tx.length ct) tx := by rw [hV10]; exact Bytes.keep tk_9 fun b _ hq => setRow_other _ _ _ _ (by have hq1 : wm.heap.size ≤ b := hq.1; have hq2 : b < V8.heap.size := hq.2; omega)
          have ra_10 : Whole V10 u1.heap.size 32 (alc b.free b.seed b.fresh (.slice Amb b.macs.length cmb) (.slice Abb b.boxes.length cbb)) := by rw [hV10]; exact Whole.setRow_far ra_9 (by omega) _
          have r_x_10 : Whole V10 (V2.heap.size) 41 (cnl zp kx (.slice At tx.length ct)).toArray := by rw [hV10]; exact Whole.setRow r_x_9 _
          have hs10 : V9.heap.size ≤ V10.heap.size := by rw [hV10]; simp
          rw [if_pos (by kernel_rfl)]
          refine wp_store_row 41 _ _ rfl (V2.heap.size) _ rfl rfl 41 _ r_x_9 (by rw [blankSize, cnl_size]) (by rw [zbk_size, cnl_size]) (cnl_one _ _ _ _ _) ?_
          rw [← hV10]
          clear hV10
          refine hKK.out _ _ (.inl (by kernel_rfl)) trivial ?_
          clear hKK KK
          (try simp only [List.getElem_toArray, List.getElem_cons_succ, List.getElem_cons_zero, Act.put, List.setIfInBounds_toArray, List.set_cons_zero, List.set_cons_succ])
          apply AnyG_pure (i := 16) rfl (by kernel_rfl) (by kernel_rfl) (by kernel_rfl) (by kernel_rfl)
          case hQ => exact fun _ _ _ h => h
          case hB => exact trivial
          case hC => exact .inl (by kernel_rfl)
          case hy => (refine Or.inl ⟨by rfl, ?_⟩; intro w hSw; (try go_split_ands); go_simp; (try with_reducible rfl))
          (try simp only [List.getElem_toArray, List.getElem_cons_succ, List.getElem_cons_zero, Act.put, List.setIfInBounds_toArray, List.set_cons_zero, List.set_cons_succ])
          refine AnyG_done (by kernel_rfl) ?_ _
          go_wp2_with fail
          go_meet
          exact ⟨lo, hi, b, zp, kx, tx, eb, _, Amb, cmb, Abb, cbb, At, ct, hlo, hhi, hR, rfl, base_10, by omega, dk_10, ra_10, rc_10, r_x_10, AlV.mono vb_10 fun b _ hq => by rcases hq with hq | hq; exact ⟨.inl hq, by have hq2 : b < q5.heap.size := hq.2; omega⟩; exact ⟨.inr (by omega), by omega⟩, Bytes.mono tk_10 fun b _ hq => by have hq1 := hq.1; have hq2 := hq.2; exact ⟨by omega, by omega⟩, X_10, Y_10⟩
      · skip
        (try simp only [List.getElem_toArray, List.getElem_cons_succ, List.getElem_cons_zero])
        go_simp
        rw [zbk_lit]
        obtain ⟨V11, hV11⟩ : ∃ x, x = (V1).alloc (.cells zbk 41) := ⟨_, rfl⟩
        have hv11 : Below V1.heap.size V1 V11 := by rw [hV11]; exact Below.alloc (Below.refl _ _) (Nat.le_refl _) _
        have hs11 : V1.heap.size < V11.heap.size := by rw [hV11]; simp
        have base_11 : Below w.heap.size w V11 := Below.trans base_1 (Below.mono hv11 (Below.size base_1))
        have ra_11 : Whole V11 u1.heap.size 32 (alc a.free a.seed a.fresh (.slice Ama a.macs.length cma) (.slice Aba a.boxes.length cba)) := Whole.below ra_1 hv11 (Whole.lt ra_1)
        have rc_11 : Whole V11 u4.heap.size 36 (cnl z1 K (.slice Ap np cp)).toArray := Whole.below rc_1 hv11 (Whole.lt rc_1)
        have dk_11 : Deck wd0.heap.size V11 := Deck.below dk_1 hv11 (Deck.lt dk_1)
        have X_11 : Bytes V11 (fun b => (Off [u4.heap.size, u1.heap.size, wd0.heap.size]) b ∧ b < q5.heap.size) (.slice A1 X.length c1) X := Bytes.below X_1 hv11 (Nat.le_refl _)
        have Y_11 : Bytes V11 (fun b => (Off [u4.heap.size, u1.heap.size, wd0.heap.size]) b ∧ b < q5.heap.size) (.slice A2 Y.length c2) Y := Bytes.below Y_1 hv11 (Nat.le_refl _)
        have va_11 : AlV V11 (fun b => (Off [u4.heap.size, u1.heap.size, wd0.heap.size]) b ∧ b < q5.heap.size) (.agg (alc a.free a.seed a.fresh (.slice Ama a.macs.length cma) (.slice Aba a.boxes.length cba))) a := AlV.below va_1 hv11 (Nat.le_refl _)
        have r_x_11 : Whole V11 (V1.heap.size) 41 zbk := by rw [hV11]; exact Whole.here _ _ _
        rw [← hV11]
        clear hV11
        clear hHeld
        have hHeld : (fun W : World => Whole W u1.heap.size 32 (alc a.free a.seed a.fresh (.slice Ama a.macs.length cma) (.slice Aba a.boxes.length cba)) ∧ Whole W u4.heap.size 36 (cnl z1 K (.slice Ap np cp)).toArray) V11 := ⟨ra_11, rc_11⟩
        refine hKK.out _ _ (.inr hHeld) trivial ?_
        clear hKK KK
        (try simp only [List.getElem_toArray, List.getElem_cons_succ, List.getElem_cons_zero, Act.put, List.setIfInBounds_toArray, List.set_cons_zero, List.set_cons_succ])
        refine AnyG_one (i := 5) (by kernel_rfl) rfl (fun KK hKK => ?_)
        (try simp only [List.getElem_toArray, List.getElem_cons_succ, List.getElem_cons_zero])
        go_simp
        go_at_call 15
        refine (dnext 100 (by omega) (by omega) (wd0.heap.size) V11 dk_11).mono ?_
        rintro e V12 ⟨hi, hhi, rfl, hv12⟩
        have hs12 : V11.heap.size ≤ V12.heap.size := Turn.size hv12
        have base_12 : Below w.heap.size w V12 := base_turn base_11 hv12 (by omega)
        have ra_12 : Whole V12 u1.heap.size 32 (alc a.free a.seed a.fresh (.slice Ama a.macs.length cma) (.slice Aba a.boxes.length cba)) := hv12.2.2.oth _ _ _ (by omega) ra_11
        have rc_12 : Whole V12 u4.heap.size 36 (cnl z1 K (.slice Ap np cp)).toArray := hv12.2.2.oth _ _ _ (by omega) rc_11
        have dk_12 : Deck wd0.heap.size V12 := hv12.1
        have X_12 : Bytes V12 (fun b => (Off [u4.heap.size, u1.heap.size, wd0.heap.size]) b ∧ b < q5.heap.size) (.slice A1 X.length c1) X := Bytes.oth X_11 hv12.2.2 fun _ hq => hq.1 _ (by simp)
        have Y_12 : Bytes V12 (fun b => (Off [u4.heap.size, u1.heap.size, wd0.heap.size]) b ∧ b < q5.heap.size) (.slice A2 Y.length c2) Y := Bytes.oth Y_11 hv12.2.2 fun _ hq => hq.1 _ (by simp)
        have va_12 : AlV V12 (fun b => (Off [u4.heap.size, u1.heap.size, wd0.heap.size]) b ∧ b < q5.heap.size) (.agg (alc a.free a.seed a.fresh (.slice Ama a.macs.length cma) (.slice Aba a.boxes.length cba))) a := AlV.oth va_11 hv12.2.2 (Turn.size hv12) fun _ hq => hq.1 _ (by simp)
        have r_x_12 : Whole V12 (V1.heap.size) 41 zbk := hv12.2.2.oth _ _ _ (by omega) r_x_11
        clear hHeld
        have hHeld : (fun W : World => Whole W u1.heap.size 32 (alc a.free a.seed a.fresh (.slice Ama a.macs.length cma) (.slice Aba a.boxes.length cba)) ∧ Whole W u4.heap.size 36 (cnl z1 K (.slice Ap np cp)).toArray) V12 := ⟨ra_12, rc_12⟩
        refine hKK.out _ _ (.inr hHeld) trivial ?_
        clear hKK KK
        (try simp only [List.getElem_toArray, List.getElem_cons_succ, List.getElem_cons_zero, Act.put, List.setIfInBounds_toArray, List.set_cons_zero, List.set_cons_succ])
        apply AnyG_pure (i := 6) rfl (by kernel_rfl) (by kernel_rfl) (by kernel_rfl) (by kernel_rfl)
        case hQ => exact fun _ _ _ h => h
        case hB => exact trivial
        case hC => exact .inr hHeld
        case hy => (refine Or.inl ⟨by rfl, ?_⟩; intro w hSw; (try go_split_ands); go_simp; (try with_reducible rfl))
        (try simp only [List.getElem_toArray, List.getElem_cons_succ, List.getElem_cons_zero, Act.put, List.setIfInBounds_toArray, List.set_cons_zero, List.set_cons_succ])
        apply AnyG_pure (i := 7) rfl (by kernel_rfl) (by kernel_rfl) (by kernel_rfl) (by kernel_rfl)
        case hQ => exact fun _ _ _ h => h
        case hB => exact trivial
        case hC => exact .inr hHeld
        case hy => exact yieldsIf_build_tms (by rfl) _ _ rfl rfl rfl
        (try simp only [List.getElem_toArray, List.getElem_cons_succ, List.getElem_cons_zero, Act.put, List.setIfInBounds_toArray, List.set_cons_zero, List.set_cons_succ])
        refine AnyG_one (i := 8) (by kernel_rfl) rfl (fun KK hKK => ?_)
        (try simp only [List.getElem_toArray, List.getElem_cons_succ, List.getElem_cons_zero])
        have hwr : IntKind.i64.wrap (10 + (hi : Int)) = 10 + (hi : Int) := by rw [IntKind.wrap_i64]; omega
        (try rw [hwr])
        clear hwr
        obtain ⟨wm, hwm⟩ : ∃ x, x = V12 := ⟨_, rfl⟩
        have hwms : wm.heap.size = V12.heap.size := by rw [hwm]
        clear hwm
        have hsm : q5.heap.size ≤ wm.heap.size := by omega
        have hcl := rblank (vp := (.slice Ap np cp)) z1 (lo : Int) (10 + (hi : Int)) va_12 (by omega) hlK
        obtain ⟨R, hR⟩ : ∃ R, R = pBlank a z1 K (lo : Int) (10 + (hi : Int)) := ⟨_, rfl⟩
        rw [← hR] at hcl
        obtain ⟨b, ⟨zp, kx, tx⟩, eb⟩ := R
        dsimp only [TbR] at hcl
        go_simp
        go_at_call 10
        refine (hcl).mono ?_
        rintro e V13 ⟨⟨x, y, rfl, hx13, hy13⟩, hv13⟩
        have hs13 : V12.heap.size ≤ V13.heap.size := hv13.size
        have base_13 : Below w.heap.size w V13 := Below.trans base_12 (Below.mono hv13 (Below.size base_12))
        have ra_13 : Whole V13 u1.heap.size 32 (alc a.free a.seed a.fresh (.slice Ama a.macs.length cma) (.slice Aba a.boxes.length cba)) := Whole.below ra_12 hv13 (Whole.lt ra_12)
        have rc_13 : Whole V13 u4.heap.size 36 (cnl z1 K (.slice Ap np cp)).toArray := Whole.below rc_12 hv13 (Whole.lt rc_12)
        have dk_13 : Deck wd0.heap.size V13 := Deck.below dk_12 hv13 (Deck.lt dk_12)
        have X_13 : Bytes V13 (fun b => (Off [u4.heap.size, u1.heap.size, wd0.heap.size]) b ∧ b < q5.heap.size) (.slice A1 X.length c1) X := Bytes.below X_12 hv13 (Nat.le_refl _)
        have Y_13 : Bytes V13 (fun b => (Off [u4.heap.size, u1.heap.size, wd0.heap.size]) b ∧ b < q5.heap.size) (.slice A2 Y.length c2) Y := Bytes.below Y_12 hv13 (Nat.le_refl _)
        have va_13 : AlV V13 (fun b => (Off [u4.heap.size, u1.heap.size, wd0.heap.size]) b ∧ b < q5.heap.size) (.agg (alc a.free a.seed a.fresh (.slice Ama a.macs.length cma) (.slice Aba a.boxes.length cba))) a := AlV.below va_12 hv13 (Nat.le_refl _)
        have r_x_13 : Whole V13 (V1.heap.size) 41 zbk := Whole.below r_x_12 hv13 (Whole.lt r_x_12)
        obtain ⟨Amb, cmb, Abb, cbb, rfl, hMb, hBb, hAb⟩ := hx13
        obtain ⟨At, ct, rfl, hX13, hlkx⟩ := hy13
        dsimp only at hX13 hlkx ⊢
        have vb_13 : AlV V13 (fun b => ((Off [u4.heap.size, u1.heap.size, wd0.heap.size]) b ∧ b < q5.heap.size) ∨ wm.heap.size ≤ b ∧ b < V13.heap.size) (.agg (alc b.free b.seed b.fresh (.slice Amb b.macs.length cmb) (.slice Abb b.boxes.length cbb))) b := AlV.mono ⟨Amb, cmb, Abb, cbb, rfl, hMb, hBb, hAb⟩ fun g hg hq => by rcases hq with hq | hq; exact .inl hq; exact .inr ⟨by omega, hg⟩
        have tk_13 : Bytes V13 (fun b => wm.heap.size ≤ b ∧ b < V13.heap.size) (.slice At tx.length ct) tx := Bytes.mono hX13 fun g hg hq => ⟨by have hq : V12.heap.size ≤ g := hq; omega, hg⟩
        clear hHeld
        have hHeld : (fun W : World => Whole W u1.heap.size 32 (alc a.free a.seed a.fresh (.slice Ama a.macs.length cma) (.slice Aba a.boxes.length cba)) ∧ Whole W u4.heap.size 36 (cnl z1 K (.slice Ap np cp)).toArray) V13 := ⟨ra_13, rc_13⟩
        refine hKK.out _ _ (.inr hHeld) trivial ?_
        clear hKK KK
        (try simp only [List.getElem_toArray, List.getElem_cons_succ, List.getElem_cons_zero, Act.put, List.setIfInBounds_toArray, List.set_cons_zero, List.set_cons_succ])
        apply AnyG_pure (i := 9) rfl (by kernel_rfl) (by kernel_rfl) (by kernel_rfl) (by kernel_rfl)
        case hQ => exact fun _ _ _ h => h
        case hB => exact trivial
        case hC => exact .inr hHeld
        case hy => (refine Or.inl ⟨by rfl, ?_⟩; intro w hSw; (try go_split_ands); go_simp; (try with_reducible rfl))
        (try simp only [List.getElem_toArray, List.getElem_cons_succ, List.getElem_cons_zero, Act.put, List.setIfInBounds_toArray, List.set_cons_zero, List.set_cons_succ])
        apply AnyG_pure (i := 10) rfl (by kernel_rfl) (by kernel_rfl) (by kernel_rfl) (by kernel_rfl)
        case hQ => exact fun _ _ _ h => h
        case hB => exact trivial
        case hC => exact .inr hHeld
        case hy => (refine Or.inl ⟨by rfl, ?_⟩; intro w hSw; (try go_split_ands); go_simp; (try with_reducible rfl))
        (try simp only [List.getElem_toArray, List.getElem_cons_succ, List.getElem_cons_zero, Act.put, List.setIfInBounds_toArray, List.set_cons_zero, List.set_cons_succ])
        apply AnyG_pure (i := 11) rfl (by kernel_rfl) (by kernel_rfl) (by kernel_rfl) (by kernel_rfl)
        case hQ => exact fun _ _ _ h => h
        case hB => exact trivial
        case hC => exact .inr hHeld
        case hy => (refine Or.inl ⟨by rfl, ?_⟩; intro w hSw; (try go_split_ands); go_simp; (try with_reducible rfl))
        (try simp only [List.getElem_toArray, List.getElem_cons_succ, List.getElem_cons_zero, Act.put, List.setIfInBounds_toArray, List.set_cons_zero, List.set_cons_succ])
        apply AnyG_pure (i := 12) rfl (by kernel_rfl) (by kernel_rfl) (by kernel_rfl) (by kernel_rfl)
        case hQ => exact fun _ _ _ h => h
        case hB => exact trivial
        case hC => exact .inr hHeld
        case hy => (refine Or.inl ⟨by rfl, ?_⟩; intro w hSw; (try go_split_ands); go_simp; (try with_reducible rfl))
        (try simp only [List.getElem_toArray, List.getElem_cons_succ, List.getElem_cons_zero, Act.put, List.setIfInBounds_toArray, List.set_cons_zero, List.set_cons_succ])
        refine AnyG_one (i := 14) (by kernel_rfl) rfl (fun KK hKK => ?_)
        obtain ⟨V14, hV14⟩ : ∃ x, x = V13.setRow u1.heap.size (alc b.free b.seed b.fresh (.slice Amb b.macs.length cmb) (.slice Abb b.boxes.length cbb)) := ⟨_, rfl⟩
        have base_14 : Below w.heap.size w V14 := by rw [hV14]; exact below_setRow base_13 (by omega) _
        have rc_14 : Whole V14 u4.heap.size 36 (cnl z1 K (.slice Ap np cp)).toArray := by rw [hV14]; exact Whole.setRow_far rc_13 (by omega) _
        have dk_14 : Deck wd0.heap.size V14 := by rw [hV14]; exact Deck.store dk_13 (by omega) _
        have X_14 : Bytes V14 (fun b => (Off [u4.heap.size, u1.heap.size, wd0.heap.size]) b ∧ b < q5.heap.size) (.slice A1 X.length c1) X := by rw [hV14]; exact Bytes.keep X_13 fun b _ hq => setRow_other _ _ _ _ (hq.1 _ (by simp))
        have Y_14 : Bytes V14 (fun b => (Off [u4.heap.size, u1.heap.size, wd0.heap.size]) b ∧ b < q5.heap.size) (.slice A2 Y.length c2) Y := by rw [hV14]; exact Bytes.keep Y_13 fun b _ hq => setRow_other _ _ _ _ (hq.1 _ (by simp))
        have va_14 : AlV V14 (fun b => (Off [u4.heap.size, u1.heap.size, wd0.heap.size]) b ∧ b < q5.heap.size) (.agg (alc a.free a.seed a.fresh (.slice Ama a.macs.length cma) (.slice Aba a.boxes.length cba))) a := by rw [hV14]; exact AlV.keep va_13 (by simp) fun b _ hq => setRow_other _ _ _ _ (hq.1 _ (by simp))
        have r_x_14 : Whole V14 (V1.heap.size) 41 zbk := by rw [hV14]; exact Whole.setRow_far r_x_13 (by omega) _
        have vb_14 : AlV V14 (fun b => ((Off [u4.heap.size, u1.heap.size, wd0.heap.size]) b ∧ b < q5.heap.size) ∨ wm.heap.size ≤ b ∧ b < V13.heap.size) (.agg (alc b.free b.seed b.fresh (.slice Amb b.macs.length cmb) (.slice Abb b.boxes.length cbb))) b := by rw [hV14]; exact AlV.keep vb_13 (by simp) fun b _ hq => setRow_other _ _ _ _ (by rcases hq with hq | hq; exact hq.1 _ (by simp); omega)
        have tk_14 : Bytes V14 (fun b => wm.heap.size ≤ b ∧ b < V13.heap.size) (.slice At tx.length ct) tx := by rw [hV14]; exact Bytes.keep tk_13 fun b _ hq => setRow_other _ _ _ _ (by have hq1 : wm.heap.size ≤ b := hq.1; have hq2 : b < V13.heap.size := hq.2; omega)
        have ra_14 : Whole V14 u1.heap.size 32 (alc b.free b.seed b.fresh (.slice Amb b.macs.length cmb) (.slice Abb b.boxes.length cbb)) := by rw [hV14]; exact Whole.setRow ra_13 _
        have hs14 : V13.heap.size ≤ V14.heap.size := by rw [hV14]; simp
        rw [if_pos (by kernel_rfl)]
        refine wp_store_row 32 _ _ rfl u1.heap.size _ rfl rfl 32 _ ra_13 (by rw [algSize, alc_size]) (by rw [alc_size, alc_size]) (alc_one _ _ _ _ _ _ _ _ _) ?_
        rw [← hV14]
        clear hV14
        refine hKK.out _ _ (.inl (by kernel_rfl)) trivial ?_
        clear hKK KK
        (try simp only [List.getElem_toArray, List.getElem_cons_succ, List.getElem_cons_zero, Act.put, List.setIfInBounds_toArray, List.set_cons_zero, List.set_cons_succ])
        refine AnyG_one (i := 15) (by kernel_rfl) rfl (fun KK hKK => ?_)
        obtain ⟨V15, hV15⟩ : ∃ x, x = V14.setRow (V1.heap.size) (cnl zp kx (.slice At tx.length ct)).toArray := ⟨_, rfl⟩
        have base_15 : Below w.heap.size w V15 := by rw [hV15]; exact below_setRow base_14 (by omega) _
        have rc_15 : Whole V15 u4.heap.size 36 (cnl z1 K (.slice Ap np cp)).toArray := by rw [hV15]; exact Whole.setRow_far rc_14 (by omega) _
        have dk_15 : Deck wd0.heap.size V15 := by rw [hV15]; exact Deck.store dk_14 (by omega) _
        have X_15 : Bytes V15 (fun b => (Off [u4.heap.size, u1.heap.size, wd0.heap.size]) b ∧ b < q5.heap.size) (.slice A1 X.length c1) X := by rw [hV15]; exact Bytes.keep X_14 fun b _ hq => setRow_other _ _ _ _ (by have hq2 : b < q5.heap.size := hq.2; omega)
        have Y_15 : Bytes V15 (fun b => (Off [u4.heap.size, u1.heap.size, wd0.heap.size]) b ∧ b < q5.heap.size) (.slice A2 Y.length c2) Y := by rw [hV15]; exact Bytes.keep Y_14 fun b _ hq => setRow_other _ _ _ _ (by have hq2 : b < q5.heap.size := hq.2; omega)
        have va_15 : AlV V15 (fun b => (Off [u4.heap.size, u1.heap.size, wd0.heap.size]) b ∧ b < q5.heap.size) (.agg (alc a.free a.seed a.fresh (.slice Ama a.macs.length cma) (.slice Aba a.boxes.length cba))) a := by rw [hV15]; exact AlV.keep va_14 (by simp) fun b _ hq => setRow_other _ _ _ _ (by have hq2 : b < q5.heap.size := hq.2; omega)
        have vb_15 : AlV V15 (fun b => ((Off [u4.heap.size, u1.heap.size, wd0.heap.size]) b ∧ b < q5.heap.size) ∨ wm.heap.size ≤ b ∧ b < V13.heap.size) (.agg (alc b.free b.seed b.fresh (.slice Amb b.macs.length cmb) (.slice Abb b.boxes.length cbb))) b := by rw [hV15]; exact AlV.keep vb_14 (by simp) fun b _ hq => setRow_other _ _ _ _ (by rcases hq with hq | hq; have hq2 : b < q5.heap.size := hq.2; omega; omega)
        have tk_15 : Bytes V15 (fun b => wm.heap.size ≤ b ∧ b < V13.heap.size) (.slice At tx.length ct) tx := by rw [hV15]; exact Bytes.keep tk_14 fun b _ hq => setRow_other _ _ _ _ (by have hq1 : wm.heap.size ≤ b := hq.1; have hq2 : b < V13.heap.size := hq.2; omega)
        have ra_15 : Whole V15 u1.heap.size 32 (alc b.free b.seed b.fresh (.slice Amb b.macs.length cmb) (.slice Abb b.boxes.length cbb)) := by rw [hV15]; exact Whole.setRow_far ra_14 (by omega) _
        have r_x_15 : Whole V15 (V1.heap.size) 41 (cnl zp kx (.slice At tx.length ct)).toArray := by rw [hV15]; exact Whole.setRow r_x_14 _
        have hs15 : V14.heap.size ≤ V15.heap.size := by rw [hV15]; simp
        rw [if_pos (by kernel_rfl)]
        refine wp_store_row 41 _ _ rfl (V1.heap.size) _ rfl rfl 41 _ r_x_14 (by rw [blankSize, cnl_size]) (by rw [zbk_size, cnl_size]) (cnl_one _ _ _ _ _) ?_
        rw [← hV15]
        clear hV15
        refine hKK.out _ _ (.inl (by kernel_rfl)) trivial ?_
        clear hKK KK
        (try simp only [List.getElem_toArray, List.getElem_cons_succ, List.getElem_cons_zero, Act.put, List.setIfInBounds_toArray, List.set_cons_zero, List.set_cons_succ])
        apply AnyG_pure (i := 16) rfl (by kernel_rfl) (by kernel_rfl) (by kernel_rfl) (by kernel_rfl)
        case hQ => exact fun _ _ _ h => h
        case hB => exact trivial
        case hC => exact .inl (by kernel_rfl)
        case hy => (refine Or.inl ⟨by rfl, ?_⟩; intro w hSw; (try go_split_ands); go_simp; (try with_reducible rfl))
        (try simp only [List.getElem_toArray, List.getElem_cons_succ, List.getElem_cons_zero, Act.put, List.setIfInBounds_toArray, List.set_cons_zero, List.set_cons_succ])
        refine AnyG_done (by kernel_rfl) ?_ _
        go_wp2_with fail
        go_meet
        exact ⟨lo, hi, b, zp, kx, tx, eb, _, Amb, cmb, Abb, cbb, At, ct, hlo, hhi, hR, rfl, base_15, by omega, dk_15, ra_15, rc_15, r_x_15, AlV.mono vb_15 fun b _ hq => by rcases hq with hq | hq; exact ⟨.inl hq, by have hq2 : b < q5.heap.size := hq.2; omega⟩; exact ⟨.inr (by omega), by omega⟩, Bytes.mono tk_15 fun b _ hq => by have hq1 := hq.1; have hq2 := hq.2; exact ⟨by omega, by omega⟩, X_15, Y_15⟩
    · skip
      (try simp only [List.getElem_toArray, List.getElem_cons_succ, List.getElem_cons_zero])
      go_simp
      rw [zbk_lit]
      obtain ⟨V16, hV16⟩ : ∃ x, x = (q5.alloc (.cells zbk 41)).drew := ⟨_, rfl⟩
      have hv16 : Below q5.drew.heap.size q5.drew V16 := by rw [hV16]; exact Below.alloc (Below.refl _ _) (Nat.le_refl _) _
      have hs16 : q5.heap.size < V16.heap.size := by rw [hV16]; simp
      have base_16 : Below w.heap.size w V16 := Below.trans base_0 (Below.mono hv16 (Below.size base_0))
      have ra_16 : Whole V16 u1.heap.size 32 (alc a.free a.seed a.fresh (.slice Ama a.macs.length cma) (.slice Aba a.boxes.length cba)) := Whole.below ra_0 hv16 (Whole.lt ra_0)
      have rc_16 : Whole V16 u4.heap.size 36 (cnl z1 K (.slice Ap np cp)).toArray := Whole.below rc_0 hv16 (Whole.lt rc_0)
      have dk_16 : Deck wd0.heap.size V16 := Deck.below dk_0 hv16 (Deck.lt dk_0)
      have X_16 : Bytes V16 (fun b => (Off [u4.heap.size, u1.heap.size, wd0.heap.size]) b ∧ b < q5.heap.size) (.slice A1 X.length c1) X := Bytes.below X_0 hv16 (Nat.le_refl _)
      have Y_16 : Bytes V16 (fun b => (Off [u4.heap.size, u1.heap.size, wd0.heap.size]) b ∧ b < q5.heap.size) (.slice A2 Y.length c2) Y := Bytes.below Y_0 hv16 (Nat.le_refl _)
      have va_16 : AlV V16 (fun b => (Off [u4.heap.size, u1.heap.size, wd0.heap.size]) b ∧ b < q5.heap.size) (.agg (alc a.free a.seed a.fresh (.slice Ama a.macs.length cma) (.slice Aba a.boxes.length cba))) a := AlV.below va_0 hv16 (Nat.le_refl _)
      have r_x_16 : Whole V16 (q5.heap.size) 41 zbk := by rw [hV16]; exact Whole.here _ _ _
      rw [← hV16]
      clear hV16
      clear hHeld
      have hHeld : (fun W : World => Whole W u1.heap.size 32 (alc a.free a.seed a.fresh (.slice Ama a.macs.length cma) (.slice Aba a.boxes.length cba)) ∧ Whole W u4.heap.size 36 (cnl z1 K (.slice Ap np cp)).toArray) V16 := ⟨ra_16, rc_16⟩
      refine hKK.out _ _ (.inr hHeld) trivial ?_
      clear hKK KK
      (try simp only [List.getElem_toArray, List.getElem_cons_succ, List.getElem_cons_zero, Act.put, List.setIfInBounds_toArray, List.set_cons_zero, List.set_cons_succ])
      refine AnyG_one (i := 3) (by kernel_rfl) rfl (fun KK hKK => ?_)
      (try simp only [List.getElem_toArray, List.getElem_cons_succ, List.getElem_cons_zero])
      go_simp
      go_at_call 15
      refine (dnext 10 (by omega) (by omega) (wd0.heap.size) V16 dk_16).mono ?_
      rintro e V17 ⟨lo, hlo, rfl, hv17⟩
      have hs17 : V16.heap.size ≤ V17.heap.size := Turn.size hv17
      have base_17 : Below w.heap.size w V17 := base_turn base_16 hv17 (by omega)
      have ra_17 : Whole V17 u1.heap.size 32 (alc a.free a.seed a.fresh (.slice Ama a.macs.length cma) (.slice Aba a.boxes.length cba)) := hv17.2.2.oth _ _ _ (by omega) ra_16
      have rc_17 : Whole V17 u4.heap.size 36 (cnl z1 K (.slice Ap np cp)).toArray := hv17.2.2.oth _ _ _ (by omega) rc_16
      have dk_17 : Deck wd0.heap.size V17 := hv17.1
      have X_17 : Bytes V17 (fun b => (Off [u4.heap.size, u1.heap.size, wd0.heap.size]) b ∧ b < q5.heap.size) (.slice A1 X.length c1) X := Bytes.oth X_16 hv17.2.2 fun _ hq => hq.1 _ (by simp)
      have Y_17 : Bytes V17 (fun b => (Off [u4.heap.size, u1.heap.size, wd0.heap.size]) b ∧ b < q5.heap.size) (.slice A2 Y.length c2) Y := Bytes.oth Y_16 hv17.2.2 fun _ hq => hq.1 _ (by simp)
      have va_17 : AlV V17 (fun b => (Off [u4.heap.size, u1.heap.size, wd0.heap.size]) b ∧ b < q5.heap.size) (.agg (alc a.free a.seed a.fresh (.slice Ama a.macs.length cma) (.slice Aba a.boxes.length cba))) a := AlV.oth va_16 hv17.2.2 (Turn.size hv17) fun _ hq => hq.1 _ (by simp)
      have r_x_17 : Whole V17 (q5.heap.size) 41 zbk := hv17.2.2.oth _ _ _ (by omega) r_x_16
      clear hHeld
      have hHeld : (fun W : World => Whole W u1.heap.size 32 (alc a.free a.seed a.fresh (.slice Ama a.macs.length cma) (.slice Aba a.boxes.length cba)) ∧ Whole W u4.heap.size 36 (cnl z1 K (.slice Ap np cp)).toArray) V17 := ⟨ra_17, rc_17⟩
      refine hKK.out _ _ (.inr hHeld) trivial ?_
      clear hKK KK
      (try simp only [List.getElem_toArray, List.getElem_cons_succ, List.getElem_cons_zero, Act.put, List.setIfInBounds_toArray, List.set_cons_zero, List.set_cons_succ])
      refine AnyG_one (i := 5) (by kernel_rfl) rfl (fun KK hKK => ?_)
      (try simp only [List.getElem_toArray, List.getElem_cons_succ, List.getElem_cons_zero])
      go_simp
      go_at_call 15
      refine (dnext 100 (by omega) (by omega) (wd0.heap.size) V17 dk_17).mono ?_
      rintro e V18 ⟨hi, hhi, rfl, hv18⟩
      have hs18 : V17.heap.size ≤ V18.heap.size := Turn.size hv18
      have base_18 : Below w.heap.size w V18 := base_turn base_17 hv18 (by omega)
      have ra_18 : Whole V18 u1.heap.size 32 (alc a.free a.seed a.fresh (.slice Ama a.macs.length cma) (.slice Aba a.boxes.length cba)) := hv18.2.2.oth _ _ _ (by omega) ra_17
      have rc_18 : Whole V18 u4.heap.size 36 (cnl z1 K (.slice Ap np cp)).toArray := hv18.2.2.oth _ _ _ (by omega) rc_17
      have dk_18 : Deck wd0.heap.size V18 := hv18.1
      have X_18 : Bytes V18 (fun b => (Off [u4.heap.size, u1.heap.size, wd0.heap.size]) b ∧ b < q5.heap.size) (.slice A1 X.length c1) X := Bytes.oth X_17 hv18.2.2 fun _ hq => hq.1 _ (by simp)
      have Y_18 : Bytes V18 (fun b => (Off [u4.heap.size, u1.heap.size, wd0.heap.size]) b ∧ b < q5.heap.size) (.slice A2 Y.length c2) Y := Bytes.oth Y_17 hv18.2.2 fun _ hq => hq.1 _ (by simp)
      have va_18 : AlV V18 (fun b => (Off [u4.heap.size, u1.heap.size, wd0.heap.size]) b ∧ b < q5.heap.size) (.agg (alc a.free a.seed a.fresh (.slice Ama a.macs.length cma) (.slice Aba a.boxes.length cba))) a := AlV.oth va_17 hv18.2.2 (Turn.size hv18) fun _ hq => hq.1 _ (by simp)
      have r_x_18 : Whole V18 (q5.heap.size) 41 zbk := hv18.2.2.oth _ _ _ (by omega) r_x_17
      clear hHeld
      have hHeld : (fun W : World => Whole W u1.heap.size 32 (alc a.free a.seed a.fresh (.slice Ama a.macs.length cma) (.slice Aba a.boxes.length cba)) ∧ Whole W u4.heap.size 36 (cnl z1 K (.slice Ap np cp)).toArray) V18 := ⟨ra_18, rc_18⟩
      refine hKK.out _ _ (.inr hHeld) trivial ?_
      clear hKK KK
      (try simp only [List.getElem_toArray, List.getElem_cons_succ, List.getElem_cons_zero, Act.put, List.setIfInBounds_toArray, List.set_cons_zero, List.set_cons_succ])
      apply AnyG_pure (i := 6) rfl (by kernel_rfl) (by kernel_rfl) (by kernel_rfl) (by kernel_rfl)
      case hQ => exact fun _ _ _ h => h
      case hB => exact trivial
      case hC => exact .inr hHeld
      case hy => (refine Or.inl ⟨by rfl, ?_⟩; intro w hSw; (try go_split_ands); go_simp; (try with_reducible rfl))
      (try simp only [List.getElem_toArray, List.getElem_cons_succ, List.getElem_cons_zero, Act.put, List.setIfInBounds_toArray, List.set_cons_zero, List.set_cons_succ])
      apply AnyG_pure (i := 7) rfl (by kernel_rfl) (by kernel_rfl) (by kernel_rfl) (by kernel_rfl)
      case hQ => exact fun _ _ _ h => h
      case hB => exact trivial
      case hC => exact .inr hHeld
      case hy => exact yieldsIf_build_tms (by rfl) _ _ rfl rfl rfl
      (try simp only [List.getElem_toArray, List.getElem_cons_succ, List.getElem_cons_zero, Act.put, List.setIfInBounds_toArray, List.set_cons_zero, List.set_cons_succ])
      refine AnyG_one (i := 8) (by kernel_rfl) rfl (fun KK hKK => ?_)
      (try simp only [List.getElem_toArray, List.getElem_cons_succ, List.getElem_cons_zero])
      have hwr : IntKind.i64.wrap (10 + (hi : Int)) = 10 + (hi : Int) := by rw [IntKind.wrap_i64]; omega
      (try rw [hwr])
      clear hwr
      obtain ⟨wm, hwm⟩ : ∃ x, x = V18 := ⟨_, rfl⟩
      have hwms : wm.heap.size = V18.heap.size := by rw [hwm]
      clear hwm
      have hsm : q5.heap.size ≤ wm.heap.size := by omega
      have hcl := rblank (vp := (.slice Ap np cp)) z1 (lo : Int) (10 + (hi : Int)) va_18 (by omega) hlK
      obtain ⟨R, hR⟩ : ∃ R, R = pBlank a z1 K (lo : Int) (10 + (hi : Int)) := ⟨_, rfl⟩
      rw [← hR] at hcl
      obtain ⟨b, ⟨zp, kx, tx⟩, eb⟩ := R
      dsimp only [TbR] at hcl
      go_simp
      go_at_call 10
      refine (hcl).mono ?_
      rintro e V19 ⟨⟨x, y, rfl, hx19, hy19⟩, hv19⟩
      have hs19 : V18.heap.size ≤ V19.heap.size := hv19.size
      have base_19 : Below w.heap.size w V19 := Below.trans base_18 (Below.mono hv19 (Below.size base_18))
      have ra_19 : Whole V19 u1.heap.size 32 (alc a.free a.seed a.fresh (.slice Ama a.macs.length cma) (.slice Aba a.boxes.length cba)) := Whole.below ra_18 hv19 (Whole.lt ra_18)
      have rc_19 : Whole V19 u4.heap.size 36 (cnl z1 K (.slice Ap np cp)).toArray := Whole.below rc_18 hv19 (Whole.lt rc_18)
      have dk_19 : Deck wd0.heap.size V19 := Deck.below dk_18 hv19 (Deck.lt dk_18)
      have X_19 : Bytes V19 (fun b => (Off [u4.heap.size, u1.heap.size, wd0.heap.size]) b ∧ b < q5.heap.size) (.slice A1 X.length c1) X := Bytes.below X_18 hv19 (Nat.le_refl _)
      have Y_19 : Bytes V19 (fun b => (Off [u4.heap.size, u1.heap.size, wd0.heap.size]) b ∧ b < q5.heap.size) (.slice A2 Y.length c2) Y := Bytes.below Y_18 hv19 (Nat.le_refl _)
      have va_19 : AlV V19 (fun b => (Off [u4.heap.size, u1.heap.size, wd0.heap.size]) b ∧ b < q5.heap.size) (.agg (alc a.free a.seed a.fresh (.slice Ama a.macs.length cma) (.slice Aba a.boxes.length cba))) a := AlV.below va_18 hv19 (Nat.le_refl _)
      have r_x_19 : Whole V19 (q5.heap.size) 41 zbk := Whole.below r_x_18 hv19 (Whole.lt r_x_18)
      obtain ⟨Amb, cmb, Abb, cbb, rfl, hMb, hBb, hAb⟩ := hx19
      obtain ⟨At, ct, rfl, hX19, hlkx⟩ := hy19
      dsimp only at hX19 hlkx ⊢
      have vb_19 : AlV V19 (fun b => ((Off [u4.heap.size, u1.heap.size, wd0.heap.size]) b ∧ b < q5.heap.size) ∨ wm.heap.size ≤ b ∧ b < V19.heap.size) (.agg (alc b.free b.seed b.fresh (.slice Amb b.macs.length cmb) (.slice Abb b.boxes.length cbb))) b := AlV.mono ⟨Amb, cmb, Abb, cbb, rfl, hMb, hBb, hAb⟩ fun g hg hq => by rcases hq with hq | hq; exact .inl hq; exact .inr ⟨by omega, hg⟩
      have tk_19 : Bytes V19 (fun b => wm.heap.size ≤ b ∧ b < V19.heap.size) (.slice At tx.length ct) tx := Bytes.mono hX19 fun g hg hq => ⟨by have hq : V18.heap.size ≤ g := hq; omega, hg⟩
      clear hHeld
      have hHeld : (fun W : World => Whole W u1.heap.size 32 (alc a.free a.seed a.fresh (.slice Ama a.macs.length cma) (.slice Aba a.boxes.length cba)) ∧ Whole W u4.heap.size 36 (cnl z1 K (.slice Ap np cp)).toArray) V19 := ⟨ra_19, rc_19⟩
      refine hKK.out _ _ (.inr hHeld) trivial ?_
      clear hKK KK
      (try simp only [List.getElem_toArray, List.getElem_cons_succ, List.getElem_cons_zero, Act.put, List.setIfInBounds_toArray, List.set_cons_zero, List.set_cons_succ])
      apply AnyG_pure (i := 9) rfl (by kernel_rfl) (by kernel_rfl) (by kernel_rfl) (by kernel_rfl)
      case hQ => exact fun _ _ _ h => h
      case hB => exact trivial
      case hC => exact .inr hHeld
      case hy => (refine Or.inl ⟨by rfl, ?_⟩; intro w hSw; (try go_split_ands); go_simp; (try with_reducible rfl))
      (try simp only [List.getElem_toArray, List.getElem_cons_succ, List.getElem_cons_zero, Act.put, List.setIfInBounds_toArray, List.set_cons_zero, List.set_cons_succ])
      apply AnyG_pure (i := 10) rfl (by kernel_rfl) (by kernel_rfl) (by kernel_rfl) (by kernel_rfl)
      case hQ => exact fun _ _ _ h => h
      case hB => exact trivial
      case hC => exact .inr hHeld
      case hy => (refine Or.inl ⟨by rfl, ?_⟩; intro w hSw; (try go_split_ands); go_simp; (try with_reducible rfl))
      (try simp only [List.getElem_toArray, List.getElem_cons_succ, List.getElem_cons_zero, Act.put, List.setIfInBounds_toArray, List.set_cons_zero, List.set_cons_succ])
      apply AnyG_pure (i := 11) rfl (by kernel_rfl) (by kernel_rfl) (by kernel_rfl) (by kernel_rfl)
      case hQ => exact fun _ _ _ h => h
      case hB => exact trivial
      case hC => exact .inr hHeld
      case hy => (refine Or.inl ⟨by rfl, ?_⟩; intro w hSw; (try go_split_ands); go_simp; (try with_reducible rfl))
      (try simp only [List.getElem_toArray, List.getElem_cons_succ, List.getElem_cons_zero, Act.put, List.setIfInBounds_toArray, List.set_cons_zero, List.set_cons_succ])
      apply AnyG_pure (i := 12) rfl (by kernel_rfl) (by kernel_rfl) (by kernel_rfl) (by kernel_rfl)
      case hQ => exact fun _ _ _ h => h
      case hB => exact trivial
      case hC => exact .inr hHeld
      case hy => (refine Or.inl ⟨by rfl, ?_⟩; intro w hSw; (try go_split_ands); go_simp; (try with_reducible rfl))
      (try simp only [List.getElem_toArray, List.getElem_cons_succ, List.getElem_cons_zero, Act.put, List.setIfInBounds_toArray, List.set_cons_zero, List.set_cons_succ])
      refine AnyG_one (i := 14) (by kernel_rfl) rfl (fun KK hKK => ?_)
      obtain ⟨V20, hV20⟩ : ∃ x, x = V19.setRow u1.heap.size (alc b.free b.seed b.fresh (.slice Amb b.macs.length cmb) (.slice Abb b.boxes.length cbb)) := ⟨_, rfl⟩
      have base_20 : Below w.heap.size w V20 := by rw [hV20]; exact below_setRow base_19 (by omega) _
      have rc_20 : Whole V20 u4.heap.size 36 (cnl z1 K (.slice Ap np cp)).toArray := by rw [hV20]; exact Whole.setRow_far rc_19 (by omega) _
      have dk_20 : Deck wd0.heap.size V20 := by rw [hV20]; exact Deck.store dk_19 (by omega) _
      have X_20 : Bytes V20 (fun b => (Off [u4.heap.size, u1.heap.size, wd0.heap.size]) b ∧ b < q5.heap.size) (.slice A1 X.length c1) X := by rw [hV20]; exact Bytes.keep X_19 fun b _ hq => setRow_other _ _ _ _ (hq.1 _ (by simp))
      have Y_20 : Bytes V20 (fun b => (Off [u4.heap.size, u1.heap.size, wd0.heap.size]) b ∧ b < q5.heap.size) (.slice A2 Y.length c2) Y := by rw [hV20]; exact Bytes.keep Y_19 fun b _ hq => setRow_other _ _ _ _ (hq.1 _ (by simp))
      have va_20 : AlV V20 (fun b => (Off [u4.heap.size, u1.heap.size, wd0.heap.size]) b ∧ b < q5.heap.size) (.agg (alc a.free a.seed a.fresh (.slice Ama a.macs.length cma) (.slice Aba a.boxes.length cba))) a := by rw [hV20]; exact AlV.keep va_19 (by simp) fun b _ hq => setRow_other _ _ _ _ (hq.1 _ (by simp))
      have r_x_20 : Whole V20 (q5.heap.size) 41 zbk := by rw [hV20]; exact Whole.setRow_far r_x_19 (by omega) _
      have vb_20 : AlV V20 (fun b => ((Off [u4.heap.size, u1.heap.size, wd0.heap.size]) b ∧ b < q5.heap.size) ∨ wm.heap.size ≤ b ∧ b < V19.heap.size) (.agg (alc b.free b.seed b.fresh (.slice Amb b.macs.length cmb) (.slice Abb b.boxes.length cbb))) b := by rw [hV20]; exact AlV.keep vb_19 (by simp) fun b _ hq => setRow_other _ _ _ _ (by rcases hq with hq | hq; exact hq.1 _ (by simp); omega)
      have tk_20 : Bytes V20 (fun b => wm.heap.size ≤ b ∧ b < V19.heap.size) (.slice At tx.length ct) tx := by rw [hV20]; exact Bytes.keep tk_19 fun b _ hq => setRow_other _ _ _ _ (by have hq1 : wm.heap.size ≤ b := hq.1; have hq2 : b < V19.heap.size := hq.2; omega)
      have ra_20 : Whole V20 u1.heap.size 32 (alc b.free b.seed b.fresh (.slice Amb b.macs.length cmb) (.slice Abb b.boxes.length cbb)) := by rw [hV20]; exact Whole.setRow ra_19 _
      have hs20 : V19.heap.size ≤ V20.heap.size := by rw [hV20]; simp
      rw [if_pos (by kernel_rfl)]
      refine wp_store_row 32 _ _ rfl u1.heap.size _ rfl rfl 32 _ ra_19 (by rw [algSize, alc_size]) (by rw [alc_size, alc_size]) (alc_one _ _ _ _ _ _ _ _ _) ?_
      rw [← hV20]
      clear hV20
      refine hKK.out _ _ (.inl (by kernel_rfl)) trivial ?_
      clear hKK KK
      (try simp only [List.getElem_toArray, List.getElem_cons_succ, List.getElem_cons_zero, Act.put, List.setIfInBounds_toArray, List.set_cons_zero, List.set_cons_succ])
      refine AnyG_one (i := 15) (by kernel_rfl) rfl (fun KK hKK => ?_)
      obtain ⟨V21, hV21⟩ : ∃ x, x = V20.setRow (q5.heap.size) (cnl zp kx (.slice At tx.length ct)).toArray := ⟨_, rfl⟩
      have base_21 : Below w.heap.size w V21 := by rw [hV21]; exact below_setRow base_20 (by omega) _
      have rc_21 : Whole V21 u4.heap.size 36 (cnl z1 K (.slice Ap np cp)).toArray := by rw [hV21]; exact Whole.setRow_far rc_20 (by omega) _
      have dk_21 : Deck wd0.heap.size V21 := by rw [hV21]; exact Deck.store dk_20 (by omega) _
      have X_21 : Bytes V21 (fun b => (Off [u4.heap.size, u1.heap.size, wd0.heap.size]) b ∧ b < q5.heap.size) (.slice A1 X.length c1) X := by rw [hV21]; exact Bytes.keep X_20 fun b _ hq => setRow_other _ _ _ _ (by have hq2 : b < q5.heap.size := hq.2; omega)
      have Y_21 : Bytes V21 (fun b => (Off [u4.heap.size, u1.heap.size, wd0.heap.size]) b ∧ b < q5.heap.size) (.slice A2 Y.length c2) Y := by rw [hV21]; exact Bytes.keep Y_20 fun b _ hq => setRow_other _ _ _ _ (by have hq2 : b < q5.heap.size := hq.2; omega)
      have va_21 : AlV V21 (fun b => (Off [u4.heap.size, u1.heap.size, wd0.heap.size]) b ∧ b < q5.heap.size) (.agg (alc a.free a.seed a.fresh (.slice Ama a.macs.length cma) (.slice Aba a.boxes.length cba))) a := by rw [hV21]; exact AlV.keep va_20 (by simp) fun b _ hq => setRow_other _ _ _ _ (by have hq2 : b < q5.heap.size := hq.2; omega)
      have vb_21 : AlV V21 (fun b => ((Off [u4.heap.size, u1.heap.size, wd0.heap.size]) b ∧ b < q5.heap.size) ∨ wm.heap.size ≤ b ∧ b < V19.heap.size) (.agg (alc b.free b.seed b.fresh (.slice Amb b.macs.length cmb) (.slice Abb b.boxes.length cbb))) b := by rw [hV21]; exact AlV.keep vb_20 (by simp) fun b _ hq => setRow_other _ _ _ _ (by rcases hq with hq | hq; have hq2 : b < q5.heap.size := hq.2; omega; omega)
      have tk_21 : Bytes V21 (fun b => wm.heap.size ≤ b ∧ b < V19.heap.size) (.slice At tx.length ct) tx := by rw [hV21]; exact Bytes.keep tk_20 fun b _ hq => setRow_other _ _ _ _ (by have hq1 : wm.heap.size ≤ b := hq.1; have hq2 : b < V19.heap.size := hq.2; omega)
      have ra_21 : Whole V21 u1.heap.size 32 (alc b.free b.seed b.fresh (.slice Amb b.macs.length cmb) (.slice Abb b.boxes.length cbb)) := by rw [hV21]; exact Whole.setRow_far ra_20 (by omega) _
      have r_x_21 : Whole V21 (q5.heap.size) 41 (cnl zp kx (.slice At tx.length ct)).toArray := by rw [hV21]; exact Whole.setRow r_x_20 _
      have hs21 : V20.heap.size ≤ V21.heap.size := by rw [hV21]; simp
      rw [if_pos (by kernel_rfl)]
      refine wp_store_row 41 _ _ rfl (q5.heap.size) _ rfl rfl 41 _ r_x_20 (by rw [blankSize, cnl_size]) (by rw [zbk_size, cnl_size]) (cnl_one _ _ _ _ _) ?_
      rw [← hV21]
      clear hV21
      refine hKK.out _ _ (.inl (by kernel_rfl)) trivial ?_
      clear hKK KK
      (try simp only [List.getElem_toArray, List.getElem_cons_succ, List.getElem_cons_zero, Act.put, List.setIfInBounds_toArray, List.set_cons_zero, List.set_cons_succ])
      apply AnyG_pure (i := 16) rfl (by kernel_rfl) (by kernel_rfl) (by kernel_rfl) (by kernel_rfl)
      case hQ => exact fun _ _ _ h => h
      case hB => exact trivial
      case hC => exact .inl (by kernel_rfl)
      case hy => (refine Or.inl ⟨by rfl, ?_⟩; intro w hSw; (try go_split_ands); go_simp; (try with_reducible rfl))
      (try simp only [List.getElem_toArray, List.getElem_cons_succ, List.getElem_cons_zero, Act.put, List.setIfInBounds_toArray, List.set_cons_zero, List.set_cons_succ])
      refine AnyG_done (by kernel_rfl) ?_ _
      go_wp2_with fail
      go_meet
      exact ⟨lo, hi, b, zp, kx, tx, eb, _, Amb, cmb, Abb, cbb, At, ct, hlo, hhi, hR, rfl, base_21, by omega, dk_21, ra_21, rc_21, r_x_21, AlV.mono vb_21 fun b _ hq => by rcases hq with hq | hq; exact ⟨.inl hq, by have hq2 : b < q5.heap.size := hq.2; omega⟩; exact ⟨.inr (by omega), by omega⟩, Bytes.mono tk_21 fun b _ hq => by have hq1 := hq.1; have hq2 := hq.2; exact ⟨by omega, by omega⟩, X_21, Y_21⟩
  case rest =>
    obtain ⟨lo, hi, b, zp, kx, tx, eb, gT, Amb, cmb, Abb, cbb, At, ct, hlo, hhi, hR, rfl, hbw, hgT, hdk, hra, hrc, hrq, hav, htk, hbX, hbY⟩ := hcut
    rename World => wc
    have htl := tk_len HGa.out (by omega) hf4a hb4a (⟨by omega, by omega, by omega⟩ : tmok (lo : Int) (10 + (hi : Int))) ⟨hz0, hz7⟩ hR
    obtain ⟨ht72, ht296, hb5, hlkx⟩ := htl
    dsimp only at ht72 ht296 hlkx
    clear hR
    have H45 : Hid (Below w.heap.size w wc) := Lib.hid (hbw)
    have H46 : Hid (Deck wd0.heap.size wc) := Lib.hid (hdk)
    have H47 : Hid (ALRow wc u1.heap.size b.free b.seed b.fresh (.slice Amb b.macs.length cmb) (.slice Abb b.boxes.length cbb)) := Lib.hid (hra)
    have H48 : Hid (Whole wc u4.heap.size 36 (cnl z1 K (.slice Ap np cp)).toArray) := Lib.hid (hrc)
    have H49 : Hid (Whole wc gT 41 (cnl zp kx (.slice At tx.length ct)).toArray) := Lib.hid (hrq)
    have H50 : Hid (AlV wc (Off [gT, u4.heap.size, u1.heap.size, wd0.heap.size]) (.agg (alc b.free b.seed b.fresh (.slice Amb b.macs.length cmb) (.slice Abb b.boxes.length cbb))) b) := Lib.hid (hav.mono fun b _ hq => off_cons (by rcases hq.1 with h | h; exact h.1; intro y hy; simp at hy; omega) hq.2)
    have H51 : Hid (Bytes wc (Off [gT, u4.heap.size, u1.heap.size, wd0.heap.size]) (.slice At tx.length ct) tx) := Lib.hid (htk.mono fun b _ hq => off_cons (by have h1 := hq.1; intro y hy; simp at hy; omega) hq.2)
    have H52 : Hid (Bytes wc (Off [gT, u4.heap.size, u1.heap.size, wd0.heap.size]) (.slice A1 X.length c1) X) := Lib.hid (hbX.mono fun b _ hq => off_cons hq.1 (by have h2 : b < q5.heap.size := hq.2; omega))
    have H53 : Hid (Bytes wc (Off [gT, u4.heap.size, u1.heap.size, wd0.heap.size]) (.slice A2 Y.length c2) Y) := Lib.hid (hbY.mono fun b _ hq => off_cons hq.1 (by have h2 : b < q5.heap.size := hq.2; omega))
    have hsT : gT < wc.heap.size := Whole.lt hrq
    clear hbw hdk hra hrc hrq hav htk hbX hbY
    have hcl := rseal (z := 7) (m := Y) H50.out (by omega) hlK ⟨by omega, by omega⟩ H53.out (by omega)
    obtain ⟨R, hR⟩ : ∃ R, R = aSeal b K 7 Y := ⟨_, rfl⟩
    have hZl2 : R.2.1.length ≤ 5000 := by rw [hR]; exact seal_len2 H50.out
    have hbl2 : R.1.boxes.length ≤ b.boxes.length + 1 := by rw [hR]; exact seal_le _ _ _ _
    rw [← hR] at hcl
    clear hR
    obtain ⟨b2, Z2, e2⟩ := R
    dsimp only [SeR] at hcl hZl2 hbl2
    go_wp2_with (first
      | (with_reducible refine wpList_load_alg rfl _ rfl rfl H47.out (alc_size _ _ _ _ _) ?_)
      | (with_reducible refine wpList_load_mid rfl 28 _ rfl (u4.heap.size) 1 rfl _ _ (cnl_key hlK H48.out) Tryd.underlying28 rfl (tag_sz hlK) ?_))
    refine hcl.mono ?_
    rintro e u6 ⟨⟨xv, vv, rfl, hx, hv⟩, hbu⟩
    clear hcl
    obtain ⟨AZ2, cZ2, rfl, -⟩ := id hv
    obtain ⟨Amb2, cmb2, Abb2, cbb2, rfl, hM, hBx, hA⟩ := hx
    have hsu6 : wc.heap.size ≤ u6.heap.size := hbu.size
    have hlast : ∀ y ∈ ([gT, u4.heap.size, u1.heap.size, wd0.heap.size] : List Nat), y < wc.heap.size := by intro y hy; simp at hy; omega
    have H54 : Hid (Below w.heap.size w u6) := Lib.hid ((Below.trans H45.out (Below.mono hbu (Below.size H45.out))))
    have H55 : Hid (Deck wd0.heap.size u6) := Lib.hid ((Deck.below H46.out hbu (Deck.lt H46.out)))
    have H56 : Hid (ALRow u6 u1.heap.size b.free b.seed b.fresh (.slice Amb b.macs.length cmb) (.slice Abb b.boxes.length cbb)) := Lib.hid ((Whole.below H47.out hbu (Whole.lt H47.out)))
    have H57 : Hid (Whole u6 u4.heap.size 36 (cnl z1 K (.slice Ap np cp)).toArray) := Lib.hid ((Whole.below H48.out hbu (Whole.lt H48.out)))
    have H58 : Hid (Whole u6 gT 41 (cnl zp kx (.slice At tx.length ct)).toArray) := Lib.hid ((Whole.below H49.out hbu (Whole.lt H49.out)))
    have H59 : Hid (AlV u6 (Off [gT, u4.heap.size, u1.heap.size, wd0.heap.size]) (.agg (alc b.free b.seed b.fresh (.slice Amb b.macs.length cmb) (.slice Abb b.boxes.length cbb))) b) := Lib.hid ((AlV.below H50.out hbu (Nat.le_refl _)))
    have H60 : Hid (Bytes u6 (Off [gT, u4.heap.size, u1.heap.size, wd0.heap.size]) (.slice At tx.length ct) tx) := Lib.hid ((Bytes.below H51.out hbu (Nat.le_refl _)))
    have H61 : Hid (Bytes u6 (Off [gT, u4.heap.size, u1.heap.size, wd0.heap.size]) (.slice A1 X.length c1) X) := Lib.hid ((Bytes.below H52.out hbu (Nat.le_refl _)))
    have H62 : Hid (Bytes u6 (Off [gT, u4.heap.size, u1.heap.size, wd0.heap.size]) (.slice A2 Y.length c2) Y) := Lib.hid ((Bytes.below H53.out hbu (Nat.le_refl _)))
    clear H45 H46 H47 H48 H49 H50 H51 H52 H53
    clear H59
    have H63 : Hid (AlV u6 (Off [gT, u4.heap.size, u1.heap.size, wd0.heap.size]) (.agg (alc b2.free b2.seed b2.fresh (.slice Amb2 b2.macs.length cmb2) (.slice Abb2 b2.boxes.length cbb2))) b2) := Lib.hid (AlV.fresh ⟨Amb2, cmb2, Abb2, cbb2, rfl, hM, hBx, hA⟩ hlast)
    have H64 : Hid (Bytes u6 (Off [gT, u4.heap.size, u1.heap.size, wd0.heap.size]) (.slice AZ2 Z2.length cZ2) Z2) := Lib.hid (Bytes.fresh hv hlast)
    clear hM hBx hA hbu hv hlast
    have ks0 : Whole u6 u1.heap.size 32 (alc b.free b.seed b.fresh (.slice Amb b.macs.length cmb) (.slice Abb b.boxes.length cbb)) := H56.out
    go_upto_region 7 with (with_reducible refine wpList_store_alg rfl _ _ rfl (g := u1.heap.size) rfl rfl (ks0) (alc_size _ _ _ _ _) (alc_size _ _ _ _ _) (alc_one _ _ _ _ _ _ _ _ _) ?_)
    clear ks0
    obtain ⟨q6, hq⟩ : ∃ q, q = (u6.setRow u1.heap.size (alc b2.free b2.seed b2.fresh (.slice Amb2 b2.macs.length cmb2) (.slice Abb2 b2.boxes.length cbb2))) := ⟨_, rfl⟩
    rw [← hq]
    have hsq6 : u6.heap.size ≤ q6.heap.size := by rw [hq]; simp
    have H65 : Hid (Below w.heap.size w q6) := Lib.hid (by rw [hq]; exact (below_setRow H54.out (by omega) _))
    have H66 : Hid (Deck wd0.heap.size q6) := Lib.hid (by rw [hq]; exact (Deck.store H55.out (by omega) _))
    have H67 : Hid (ALRow q6 u1.heap.size b2.free b2.seed b2.fresh (.slice Amb2 b2.macs.length cmb2) (.slice Abb2 b2.boxes.length cbb2)) := Lib.hid (by rw [hq]; exact (Whole.setRow H56.out _))
    have H68 : Hid (Whole q6 u4.heap.size 36 (cnl z1 K (.slice Ap np cp)).toArray) := Lib.hid (by rw [hq]; exact (Whole.setRow_far H57.out (by omega) _))
    have H69 : Hid (Whole q6 gT 41 (cnl zp kx (.slice At tx.length ct)).toArray) := Lib.hid (by rw [hq]; exact (Whole.setRow_far H58.out (by omega) _))
    have H70 : Hid (Bytes q6 (Off [gT, u4.heap.size, u1.heap.size, wd0.heap.size]) (.slice At tx.length ct) tx) := Lib.hid (by rw [hq]; exact (Bytes.store H60.out (by simp) _))
    have H71 : Hid (Bytes q6 (Off [gT, u4.heap.size, u1.heap.size, wd0.heap.size]) (.slice A1 X.length c1) X) := Lib.hid (by rw [hq]; exact (Bytes.store H61.out (by simp) _))
    have H72 : Hid (Bytes q6 (Off [gT, u4.heap.size, u1.heap.size, wd0.heap.size]) (.slice A2 Y.length c2) Y) := Lib.hid (by rw [hq]; exact (Bytes.store H62.out (by simp) _))
    have H73 : Hid (AlV q6 (Off [gT, u4.heap.size, u1.heap.size, wd0.heap.size]) (.agg (alc b2.free b2.seed b2.fresh (.slice Amb2 b2.macs.length cmb2) (.slice Abb2 b2.boxes.length cbb2))) b2) := Lib.hid (by rw [hq]; exact (AlV.store H63.out (by simp) _))
    have H74 : Hid (Bytes q6 (Off [gT, u4.heap.size, u1.heap.size, wd0.heap.size]) (.slice AZ2 Z2.length cZ2) Z2) := Lib.hid (by rw [hq]; exact (Bytes.store H64.out (by simp) _))
    clear H54 H55 H56 H57 H58 H60 H61 H62 H63 H64
    clear hq
    clear H72
    have hkb := blk_key hlkx H69.out
    go_wp2_with (at_builtin; go_must (refine wpList_append_bytes rfl _ _ rfl q6.heap.size (.slice (some ⟨q6.heap.size, 0, none⟩) 0 0) [] rfl (own_lit q6 q6.heap.size [] (Nat.le_refl _) (by simp)) _ _ kx rfl (hkb.alloc _) (by simp; omega) (by simp) ?_; intro v1 w1 hown hb1; rw [List.nil_append] at hown))
    obtain ⟨hDl, hD0⟩ : wd0.heap.size < q6.heap.size ∧ True := ⟨Deck.lt H66.out, trivial⟩
    clear hD0
    have HO1 := Lib.hid hown
    have HT1 := Lib.hid (Turn.below (Deck.refl H66.out) (((Below.refl _ _).alloc (Nat.le_refl _) _).trans hb1) hDl (Nat.le_refl _))
    have hsw1 : q6.heap.size ≤ w1.heap.size := Turn.size HT1.out
    clear hkb hb1 hown
    refine (dnext 160 (by omega) (by omega) (wd0.heap.size) w1 HT1.out.1).mono ?_
    rintro e t1 ⟨y1, hy1, rfl, ht⟩
    have HO2 := Lib.hid (own_oth HO1.out ht.2.2 hDl)
    have HT2 := Lib.hid (HT1.out.trans ht)
    have hst1 : q6.heap.size ≤ t1.heap.size := Turn.size HT2.out
    obtain ⟨x1, hx1⟩ : ∃ x : B8, bv x = (y1 : Int) := byte_of y1 (by omega)
    have hone := byte_one t1 hx1
    clear ht HO1 HT1 hx1
    go_wp2_with (at_builtin; go_must (refine wpList_append_bytes rfl _ _ rfl q6.heap.size v1 kx rfl (own_oth HO2.out (Oth.alloc _ t1 _) hDl) _ _ [x1] rfl hone (by simp; omega) (by simp; omega) ?_; intro v2 w2 hown hb2))
    have HO3 := Lib.hid hown
    have HT3 := Lib.hid (Turn.below HT2.out (((Below.refl _ _).alloc hst1 _).trans hb2) hDl (Nat.le_refl _))
    have hsw2 : q6.heap.size ≤ w2.heap.size := Turn.size HT3.out
    clear hone hb2 hown HO2 HT2
    refine (dnext 160 (by omega) (by omega) (wd0.heap.size) w2 HT3.out.1).mono ?_
    rintro e t2 ⟨y2, hy2, rfl, ht⟩
    have HO4 := Lib.hid (own_oth HO3.out ht.2.2 hDl)
    have HT4 := Lib.hid (HT3.out.trans ht)
    have hst2 : q6.heap.size ≤ t2.heap.size := Turn.size HT4.out
    obtain ⟨x2, hx2⟩ : ∃ x : B8, bv x = (y2 : Int) := byte_of y2 (by omega)
    have hone := byte_one t2 hx2
    clear ht HO3 HT3 hx2
    go_upto_region 8 with (at_builtin; go_must (refine wpList_append_bytes rfl _ _ rfl q6.heap.size v2 (kx ++ [x1]) rfl (own_oth HO4.out (Oth.alloc _ t2 _) hDl) _ _ [x2] rfl hone (by simp; omega) (by simp; omega) ?_; intro v3 w3 hown hb3))
    have HO5 := Lib.hid hown
    have HT5 := Lib.hid (Turn.below HT4.out (((Below.refl _ _).alloc hst2 _).trans hb3) hDl (Nat.le_refl _))
    have hsw3 : q6.heap.size ≤ w3.heap.size := Turn.size HT5.out
    clear hone hb3 hown HO4 HT4
    obtain ⟨M, hM⟩ : ∃ M, M = kx ++ [x1] ++ [x2] := ⟨_, rfl⟩
    obtain ⟨hMl, hMu⟩ : 34 ≤ M.length ∧ M.length ≤ 34 := by rw [hM]; simp [hlkx]
    rw [← hM] at HO5
    clear hM
    obtain ⟨A3, c3, rfl, q1, q2, -⟩ := id (Bytes.of_own HO5.out)
    have hcl := within_ za (M.length : Int) (by omega) (by omega) hi3 w3
    go_wp2_with fail
    refine hcl.mono ?_
    rintro e W9 ⟨⟨i, hi, rfl⟩, hw⟩
    subst hw
    clear hcl
    obtain ⟨gC, cap, hve, hge, hcell, hfr, hset⟩ := own_cell HO5.out i (by omega)
    injection hve with hv1 hv2 hv3
    subst hv1 hv3
    clear hv2
    have hfin := hset x0
    obtain ⟨C1, hC1⟩ : ∃ C, C = M.set i x0 := ⟨_, rfl⟩
    have hC1l : C1.length = M.length := by rw [hC1, List.length_set]
    rw [← hC1] at hfin
    have HT6 := Lib.hid (And.intro hfin (Turn.below HT5.out ((Below.refl _ _).setCell (p := ⟨gC, i, none⟩) hge (byt x0)) hDl (Nat.le_refl _)))
    have j0 : (0 : Int) ≤ (i : Int) := by omega
    clear hset hfin hC1 q1 q2 HO5 HT5
    go_upto_region 9 with fail
    obtain ⟨w7, hw7⟩ : ∃ q, q = W9.setCell ⟨gC, i, none⟩ (byt x0) := ⟨_, rfl⟩
    rw [← hw7] at HT6
    change Code.wp _ _ _ _ (W9.setCell ⟨gC, i, none⟩ (byt x0))
    rw [← hw7]
    have hC := Bytes.of_own HT6.out.1
    rw [← hC1l] at hC
    have hsw7 : q6.heap.size ≤ w7.heap.size := Turn.size HT6.out.2
    have hlast : ∀ y ∈ ([gT, u4.heap.size, u1.heap.size, wd0.heap.size] : List Nat), y < q6.heap.size := by intro y hy; simp at hy; omega
    clear hw7 hcell hfr hge
    have H75 : Hid (Below w.heap.size w w7) := Lib.hid ((base_turn H65.out HT6.out.2 (by omega)))
    have H76 : Hid (Deck wd0.heap.size w7) := Lib.hid ((HT6.out.2).1)
    have H77 : Hid (ALRow w7 u1.heap.size b2.free b2.seed b2.fresh (.slice Amb2 b2.macs.length cmb2) (.slice Abb2 b2.boxes.length cbb2)) := Lib.hid (((HT6.out.2).2.2.oth _ _ _ (by omega) H67.out))
    have H78 : Hid (Whole w7 u4.heap.size 36 (cnl z1 K (.slice Ap np cp)).toArray) := Lib.hid (((HT6.out.2).2.2.oth _ _ _ (by omega) H68.out))
    have H79 : Hid (Whole w7 gT 41 (cnl zp kx (.slice At tx.length ct)).toArray) := Lib.hid (((HT6.out.2).2.2.oth _ _ _ (by omega) H69.out))
    have H80 : Hid (Bytes w7 (Off [gT, u4.heap.size, u1.heap.size, wd0.heap.size]) (.slice At tx.length ct) tx) := Lib.hid ((Bytes.turn H70.out HT6.out.2 (by simp)))
    have H81 : Hid (Bytes w7 (Off [gT, u4.heap.size, u1.heap.size, wd0.heap.size]) (.slice A1 X.length c1) X) := Lib.hid ((Bytes.turn H71.out HT6.out.2 (by simp)))
    have H82 : Hid (AlV w7 (Off [gT, u4.heap.size, u1.heap.size, wd0.heap.size]) (.agg (alc b2.free b2.seed b2.fresh (.slice Amb2 b2.macs.length cmb2) (.slice Abb2 b2.boxes.length cbb2))) b2) := Lib.hid ((AlV.turn H73.out HT6.out.2 (by simp) (Turn.size HT6.out.2)))
    have H83 : Hid (Bytes w7 (Off [gT, u4.heap.size, u1.heap.size, wd0.heap.size]) (.slice AZ2 Z2.length cZ2) Z2) := Lib.hid ((Bytes.turn H74.out HT6.out.2 (by simp)))
    clear H65 H66 H67 H68 H69 H70 H71 H73 H74
    have H84 : Hid (Bytes w7 (Off [gT, u4.heap.size, u1.heap.size, wd0.heap.size]) (.slice (some ⟨gC, 0, none⟩) C1.length c3) C1) := Lib.hid (Bytes.fresh hC hlast)
    clear hlast hC HT6
    have hcl := rseal (z := 8) (m := C1) H82.out (by omega) hlK ⟨by omega, by omega⟩ H84.out (by omega)
    obtain ⟨R, hR⟩ : ∃ R, R = aSeal b2 K 8 C1 := ⟨_, rfl⟩
    have hZl3 : R.2.1.length ≤ 5000 := by rw [hR]; exact seal_len2 H82.out
    have hbl3 : R.1.boxes.length ≤ b2.boxes.length + 1 := by rw [hR]; exact seal_le _ _ _ _
    rw [← hR] at hcl
    clear hR
    obtain ⟨b3, Z3, e3⟩ := R
    dsimp only [SeR] at hcl hZl3 hbl3
    rw [hC1l] at hcl
    go_wp2_with (first
      | (with_reducible refine wpList_load_alg rfl _ rfl rfl H77.out (alc_size _ _ _ _ _) ?_)
      | (with_reducible refine wpList_load_mid rfl 28 _ rfl (u4.heap.size) 1 rfl _ _ (cnl_key hlK H78.out) Tryd.underlying28 rfl (tag_sz hlK) ?_))
    refine hcl.mono ?_
    rintro e u9 ⟨⟨xv, vv, rfl, hx, hv⟩, hbu⟩
    clear hcl
    obtain ⟨AZ3, cZ3, rfl, -⟩ := id hv
    obtain ⟨Amb3, cmb3, Abb3, cbb3, rfl, hM, hBx, hA⟩ := hx
    have hsu9 : w7.heap.size ≤ u9.heap.size := hbu.size
    have hlast : ∀ y ∈ ([gT, u4.heap.size, u1.heap.size, wd0.heap.size] : List Nat), y < w7.heap.size := by intro y hy; simp at hy; omega
    have H85 : Hid (Below w.heap.size w u9) := Lib.hid ((Below.trans H75.out (Below.mono hbu (Below.size H75.out))))
    have H86 : Hid (Deck wd0.heap.size u9) := Lib.hid ((Deck.below H76.out hbu (Deck.lt H76.out)))
    have H87 : Hid (ALRow u9 u1.heap.size b2.free b2.seed b2.fresh (.slice Amb2 b2.macs.length cmb2) (.slice Abb2 b2.boxes.length cbb2)) := Lib.hid ((Whole.below H77.out hbu (Whole.lt H77.out)))
    have H88 : Hid (Whole u9 u4.heap.size 36 (cnl z1 K (.slice Ap np cp)).toArray) := Lib.hid ((Whole.below H78.out hbu (Whole.lt H78.out)))
    have H89 : Hid (Whole u9 gT 41 (cnl zp kx (.slice At tx.length ct)).toArray) := Lib.hid ((Whole.below H79.out hbu (Whole.lt H79.out)))
    have H90 : Hid (Bytes u9 (Off [gT, u4.heap.size, u1.heap.size, wd0.heap.size]) (.slice At tx.length ct) tx) := Lib.hid ((Bytes.below H80.out hbu (Nat.le_refl _)))
    have H91 : Hid (Bytes u9 (Off [gT, u4.heap.size, u1.heap.size, wd0.heap.size]) (.slice A1 X.length c1) X) := Lib.hid ((Bytes.below H81.out hbu (Nat.le_refl _)))
    have H92 : Hid (AlV u9 (Off [gT, u4.heap.size, u1.heap.size, wd0.heap.size]) (.agg (alc b2.free b2.seed b2.fresh (.slice Amb2 b2.macs.length cmb2) (.slice Abb2 b2.boxes.length cbb2))) b2) := Lib.hid ((AlV.below H82.out hbu (Nat.le_refl _)))
    have H93 : Hid (Bytes u9 (Off [gT, u4.heap.size, u1.heap.size, wd0.heap.size]) (.slice AZ2 Z2.length cZ2) Z2) := Lib.hid ((Bytes.below H83.out hbu (Nat.le_refl _)))
    have H94 : Hid (Bytes u9 (Off [gT, u4.heap.size, u1.heap.size, wd0.heap.size]) (.slice (some ⟨gC, 0, none⟩) C1.length c3) C1) := Lib.hid ((Bytes.below H84.out hbu (Nat.le_refl _)))
    clear H75 H76 H77 H78 H79 H80 H81 H82 H83 H84
    clear H92
    have H95 : Hid (AlV u9 (Off [gT, u4.heap.size, u1.heap.size, wd0.heap.size]) (.agg (alc b3.free b3.seed b3.fresh (.slice Amb3 b3.macs.length cmb3) (.slice Abb3 b3.boxes.length cbb3))) b3) := Lib.hid (AlV.fresh ⟨Amb3, cmb3, Abb3, cbb3, rfl, hM, hBx, hA⟩ hlast)
    have H96 : Hid (Bytes u9 (Off [gT, u4.heap.size, u1.heap.size, wd0.heap.size]) (.slice AZ3 Z3.length cZ3) Z3) := Lib.hid (Bytes.fresh hv hlast)
    clear hM hBx hA hbu hv hlast
    have ks0 : Whole u9 u1.heap.size 32 (alc b2.free b2.seed b2.fresh (.slice Amb2 b2.macs.length cmb2) (.slice Abb2 b2.boxes.length cbb2)) := H87.out
    go_upto_region 10 with (with_reducible refine wpList_store_alg rfl _ _ rfl (g := u1.heap.size) rfl rfl (ks0) (alc_size _ _ _ _ _) (alc_size _ _ _ _ _) (alc_one _ _ _ _ _ _ _ _ _) ?_)
    clear ks0
    obtain ⟨q7, hq⟩ : ∃ q, q = (u9.setRow u1.heap.size (alc b3.free b3.seed b3.fresh (.slice Amb3 b3.macs.length cmb3) (.slice Abb3 b3.boxes.length cbb3))) := ⟨_, rfl⟩
    rw [← hq]
    have hsq7 : u9.heap.size ≤ q7.heap.size := by rw [hq]; simp
    have H97 : Hid (Below w.heap.size w q7) := Lib.hid (by rw [hq]; exact (below_setRow H85.out (by omega) _))
    have H98 : Hid (Deck wd0.heap.size q7) := Lib.hid (by rw [hq]; exact (Deck.store H86.out (by omega) _))
    have H99 : Hid (ALRow q7 u1.heap.size b3.free b3.seed b3.fresh (.slice Amb3 b3.macs.length cmb3) (.slice Abb3 b3.boxes.length cbb3)) := Lib.hid (by rw [hq]; exact (Whole.setRow H87.out _))
    have H100 : Hid (Whole q7 u4.heap.size 36 (cnl z1 K (.slice Ap np cp)).toArray) := Lib.hid (by rw [hq]; exact (Whole.setRow_far H88.out (by omega) _))
    have H101 : Hid (Whole q7 gT 41 (cnl zp kx (.slice At tx.length ct)).toArray) := Lib.hid (by rw [hq]; exact (Whole.setRow_far H89.out (by omega) _))
    have H102 : Hid (Bytes q7 (Off [gT, u4.heap.size, u1.heap.size, wd0.heap.size]) (.slice At tx.length ct) tx) := Lib.hid (by rw [hq]; exact (Bytes.store H90.out (by simp) _))
    have H103 : Hid (Bytes q7 (Off [gT, u4.heap.size, u1.heap.size, wd0.heap.size]) (.slice A1 X.length c1) X) := Lib.hid (by rw [hq]; exact (Bytes.store H91.out (by simp) _))
    have H104 : Hid (Bytes q7 (Off [gT, u4.heap.size, u1.heap.size, wd0.heap.size]) (.slice AZ2 Z2.length cZ2) Z2) := Lib.hid (by rw [hq]; exact (Bytes.store H93.out (by simp) _))
    have H105 : Hid (Bytes q7 (Off [gT, u4.heap.size, u1.heap.size, wd0.heap.size]) (.slice (some ⟨gC, 0, none⟩) C1.length c3) C1) := Lib.hid (by rw [hq]; exact (Bytes.store H94.out (by simp) _))
    have H106 : Hid (AlV q7 (Off [gT, u4.heap.size, u1.heap.size, wd0.heap.size]) (.agg (alc b3.free b3.seed b3.fresh (.slice Amb3 b3.macs.length cmb3) (.slice Abb3 b3.boxes.length cbb3))) b3) := Lib.hid (by rw [hq]; exact (AlV.store H95.out (by simp) _))
    have H107 : Hid (Bytes q7 (Off [gT, u4.heap.size, u1.heap.size, wd0.heap.size]) (.slice AZ3 Z3.length cZ3) Z3) := Lib.hid (by rw [hq]; exact (Bytes.store H96.out (by simp) _))
    clear H85 H86 H87 H88 H89 H90 H91 H93 H94 H95 H96
    clear hq
    clear H105
    have hbz := H102.out
    have pc := (cnl_at (Whole.alloc H101.out (.cells #[] 5))).2.2
    have hl1 : (72 : Int) ≤ (tx.length : Int) := by omega
    go_upto_region 11 with (at_builtin; go_must (refine wpList_append_bytes rfl _ _ rfl q7.heap.size (.slice (some ⟨q7.heap.size, 0, none⟩) 0 0) [] rfl (own_lit q7 q7.heap.size [] (Nat.le_refl _) (by simp)) _ _ tx rfl (hbz.alloc _) (by simp; omega) (by simp) ?_; intro v4 w4 hown hb4; rw [List.nil_append] at hown))
    clear hbz pc
    have HB4 : Hid (Below q7.heap.size q7 w4) := Lib.hid (((Below.refl _ _).alloc (Nat.le_refl _) _).trans hb4)
    clear hb4
    obtain ⟨A4, c4, rfl, q1, q2, -⟩ := id (Bytes.of_own hown)
    have HO := Lib.hid hown
    clear hown
    have hcl := within_ za (tx.length : Int) (by omega) (by omega) hi3 w4
    go_wp2_with fail
    refine hcl.mono ?_
    rintro e W9 ⟨⟨i2, hi2, rfl⟩, hw⟩
    subst hw
    clear hcl
    obtain ⟨gE, cap, hve, hge, hcell, hfr, hset⟩ := own_cell HO.out i2 (by omega)
    injection hve with hv1 hv2 hv3
    subst hv1 hv3
    clear hv2
    obtain ⟨B0, hB0⟩ : ∃ B, B = tx.getD i2 0 := ⟨_, rfl⟩
    rw [← hB0] at hcell
    have hxor := bits_xor_bv B0 x0
    have hfin := hset (B0 ^^^ x0)
    obtain ⟨C2, hC2⟩ : ∃ C, C = tx.set i2 (B0 ^^^ x0) := ⟨_, rfl⟩
    have hC2l : C2.length = tx.length := by rw [hC2, List.length_set]
    rw [← hC2] at hfin
    have hbf : Below q7.heap.size q7 (W9.setCell ⟨gE, i2, none⟩ (byt (B0 ^^^ x0))) := HB4.out.setCell (p := ⟨gE, i2, none⟩) hge _
    have HF := Lib.hid (And.intro hfin hbf)
    have j1 : (0 : Int) ≤ (i2 : Int) := by omega
    clear hset hfin hbf hB0 hC2 q1 q2
    go_upto_region 12 with fail
    obtain ⟨w8, hw8⟩ : ∃ q, q = W9.setCell ⟨gE, i2, none⟩ (byt (B0 ^^^ x0)) := ⟨_, rfl⟩
    rw [← hw8] at HF
    change Code.wp _ _ _ _ (W9.setCell ⟨gE, i2, none⟩ (byt (B0 ^^^ x0)))
    rw [← hw8]
    have hb8 := HF.out.2
    have hC := Bytes.of_own HF.out.1
    rw [← hC2l] at hC
    have hsw8 : q7.heap.size ≤ w8.heap.size := hb8.size
    have hlast : ∀ y ∈ ([gT, u4.heap.size, u1.heap.size, wd0.heap.size] : List Nat), y < q7.heap.size := by intro y hy; simp at hy; omega
    clear hw8 hcell hfr hxor HO HB4
    have H108 : Hid (Below w.heap.size w w8) := Lib.hid ((Below.trans H97.out (Below.mono hb8 (Below.size H97.out))))
    have H109 : Hid (Deck wd0.heap.size w8) := Lib.hid ((Deck.below H98.out hb8 (Deck.lt H98.out)))
    have H110 : Hid (ALRow w8 u1.heap.size b3.free b3.seed b3.fresh (.slice Amb3 b3.macs.length cmb3) (.slice Abb3 b3.boxes.length cbb3)) := Lib.hid ((Whole.below H99.out hb8 (Whole.lt H99.out)))
    have H111 : Hid (Whole w8 u4.heap.size 36 (cnl z1 K (.slice Ap np cp)).toArray) := Lib.hid ((Whole.below H100.out hb8 (Whole.lt H100.out)))
    have H112 : Hid (Whole w8 gT 41 (cnl zp kx (.slice At tx.length ct)).toArray) := Lib.hid ((Whole.below H101.out hb8 (Whole.lt H101.out)))
    have H113 : Hid (Bytes w8 (Off [gT, u4.heap.size, u1.heap.size, wd0.heap.size]) (.slice At tx.length ct) tx) := Lib.hid ((Bytes.below H102.out hb8 (Nat.le_refl _)))
    have H114 : Hid (Bytes w8 (Off [gT, u4.heap.size, u1.heap.size, wd0.heap.size]) (.slice A1 X.length c1) X) := Lib.hid ((Bytes.below H103.out hb8 (Nat.le_refl _)))
    have H115 : Hid (Bytes w8 (Off [gT, u4.heap.size, u1.heap.size, wd0.heap.size]) (.slice AZ2 Z2.length cZ2) Z2) := Lib.hid ((Bytes.below H104.out hb8 (Nat.le_refl _)))
    have H116 : Hid (AlV w8 (Off [gT, u4.heap.size, u1.heap.size, wd0.heap.size]) (.agg (alc b3.free b3.seed b3.fresh (.slice Amb3 b3.macs.length cmb3) (.slice Abb3 b3.boxes.length cbb3))) b3) := Lib.hid ((AlV.below H106.out hb8 (Nat.le_refl _)))
    have H117 : Hid (Bytes w8 (Off [gT, u4.heap.size, u1.heap.size, wd0.heap.size]) (.slice AZ3 Z3.length cZ3) Z3) := Lib.hid ((Bytes.below H107.out hb8 (Nat.le_refl _)))
    clear H97 H98 H99 H100 H101 H102 H103 H104 H106 H107
    have H118 : Hid (Bytes w8 (Off [gT, u4.heap.size, u1.heap.size, wd0.heap.size]) (.slice (some ⟨gE, 0, none⟩) C2.length c4) C2) := Lib.hid (Bytes.fresh hC hlast)
    clear hb8 hC HF hlast hge
    have hL := ElO.mk (S := [gT, u4.heap.size, u1.heap.size, wd0.heap.size]) (P := w8) (by intro y hy; simp at hy; omega) H114.out H113.out H115.out H117.out H118.out (by omega) (by omega) (by omega) (by omega) (by omega)
    rw [hC2l] at hL
    have pc := (cnl_at H112.out).2.2
    obtain ⟨f5, hel⟩ := hL
    obtain ⟨wv, hwv⟩ : ∃ x, x = w8.alloc (.cells #[.slice A1 X.length c1, .slice At tx.length ct, .slice AZ2 Z2.length cZ2, .slice AZ3 Z3.length cZ3, .slice (some ⟨gE, 0, none⟩) tx.length c4] 39) := ⟨_, rfl⟩
    rw [← hwv] at hel
    have hbu : Below w8.heap.size w8 wv := by rw [hwv]; exact (Below.refl _ _).alloc (Nat.le_refl _) _
    have hswv : w8.heap.size < wv.heap.size := by rw [hwv]; simp
    go_wp2_with fail
    rw [← hwv]
    clear hwv pc
    have H119 : Hid (Below w.heap.size w wv) := Lib.hid ((Below.trans H108.out (Below.mono hbu (Below.size H108.out))))
    have H120 : Hid (Deck wd0.heap.size wv) := Lib.hid ((Deck.below H109.out hbu (Deck.lt H109.out)))
    have H121 : Hid (ALRow wv u1.heap.size b3.free b3.seed b3.fresh (.slice Amb3 b3.macs.length cmb3) (.slice Abb3 b3.boxes.length cbb3)) := Lib.hid ((Whole.below H110.out hbu (Whole.lt H110.out)))
    have H122 : Hid (Whole wv u4.heap.size 36 (cnl z1 K (.slice Ap np cp)).toArray) := Lib.hid ((Whole.below H111.out hbu (Whole.lt H111.out)))
    have H123 : Hid (Whole wv gT 41 (cnl zp kx (.slice At tx.length ct)).toArray) := Lib.hid ((Whole.below H112.out hbu (Whole.lt H112.out)))
    have H124 : Hid (Bytes wv (Off [gT, u4.heap.size, u1.heap.size, wd0.heap.size]) (.slice At tx.length ct) tx) := Lib.hid ((Bytes.below H113.out hbu (Nat.le_refl _)))
    have H125 : Hid (Bytes wv (Off [gT, u4.heap.size, u1.heap.size, wd0.heap.size]) (.slice A1 X.length c1) X) := Lib.hid ((Bytes.below H114.out hbu (Nat.le_refl _)))
    have H126 : Hid (Bytes wv (Off [gT, u4.heap.size, u1.heap.size, wd0.heap.size]) (.slice AZ2 Z2.length cZ2) Z2) := Lib.hid ((Bytes.below H115.out hbu (Nat.le_refl _)))
    have H127 : Hid (AlV wv (Off [gT, u4.heap.size, u1.heap.size, wd0.heap.size]) (.agg (alc b3.free b3.seed b3.fresh (.slice Amb3 b3.macs.length cmb3) (.slice Abb3 b3.boxes.length cbb3))) b3) := Lib.hid ((AlV.below H116.out hbu (Nat.le_refl _)))
    have H128 : Hid (Bytes wv (Off [gT, u4.heap.size, u1.heap.size, wd0.heap.size]) (.slice AZ3 Z3.length cZ3) Z3) := Lib.hid ((Bytes.below H117.out hbu (Nat.le_refl _)))
    have H129 : Hid (Bytes wv (Off [gT, u4.heap.size, u1.heap.size, wd0.heap.size]) (.slice (some ⟨gE, 0, none⟩) C2.length c4) C2) := Lib.hid ((Bytes.below H118.out hbu (Nat.le_refl _)))
    clear H108 H109 H110 H111 H112 H113 H114 H115 H116 H117 H118
    have HELV := Lib.hid hel
    clear hel hbu
    clear H125
    clear H124
    clear H126
    clear H128
    clear H129
    clear H123
    go_loopw [122] (fun v wr => ∃ i : Nat, v = .int .i64 i ∧ i ≤ 5 ∧ Below wv.heap.size wv wr) (fun v _ => 5 - (intOf v).toNat)
    case atStart => exact ⟨0, rfl, by omega, Below.refl _ _⟩
    case round =>
      obtain ⟨i5, rfl, hi5, hbr⟩ := hrel
      have hswr : wv.heap.size ≤ wr.heap.size := hbr.size
      have H130 : Hid (Below w.heap.size w wr) := Lib.hid ((Below.trans H119.out (Below.mono hbr (Below.size H119.out))))
      have H131 : Hid (Deck wd0.heap.size wr) := Lib.hid ((Deck.below H120.out hbr (Deck.lt H120.out)))
      have H132 : Hid (ALRow wr u1.heap.size b3.free b3.seed b3.fresh (.slice Amb3 b3.macs.length cmb3) (.slice Abb3 b3.boxes.length cbb3)) := Lib.hid ((Whole.below H121.out hbr (Whole.lt H121.out)))
      have H133 : Hid (Whole wr u4.heap.size 36 (cnl z1 K (.slice Ap np cp)).toArray) := Lib.hid ((Whole.below H122.out hbr (Whole.lt H122.out)))
      have H134 : Hid (AlV wr (Off [gT, u4.heap.size, u1.heap.size, wd0.heap.size]) (.agg (alc b3.free b3.seed b3.fresh (.slice Amb3 b3.macs.length cmb3) (.slice Abb3 b3.boxes.length cbb3))) b3) := Lib.hid ((AlV.below H127.out hbr (Nat.le_refl _)))
      clear H119 H120 H121 H122 H127
      have H135 : Hid (Below wv.heap.size wv wr) := Lib.hid (hbr)
      clear hbr
      by_cases hlt : i5 < 5
      case neg =>
        obtain rfl : i5 = 5 := by omega
        clear hlt hi5
        have hcl := tawk wr (Tables.below HT.out (Nat.le_refl _) H130.out)
        go_wp2_with fail
        refine hcl.mono ?_
        rintro e w9 ⟨rfl, hb9⟩
        clear hcl
        have HG := Lib.hid (Below.trans H130.out (Below.mono hb9 (Below.size H130.out)))
        clear hb9
        go_wp2
        go_ret
        exact ⟨rfl, HG.out⟩
      case pos =>
        obtain ⟨A5, hA5⟩ : ∃ A, A = (f5 i5).1 := ⟨_, rfl⟩
        obtain ⟨c5, hc5⟩ : ∃ c, c = (f5 i5).2.1 := ⟨_, rfl⟩
        obtain ⟨N, hN⟩ : ∃ M, M = (f5 i5).2.2 := ⟨_, rfl⟩
        have hel : ∀ W, ElO [gT, u4.heap.size, u1.heap.size, wd0.heap.size] w8.heap.size f5 W → w8.heap.size < W.heap.size ∧ W.cell? ⟨w8.heap.size, i5, none⟩ = some (.slice A5 N.length c5) ∧ Bytes W (Off [gT, u4.heap.size, u1.heap.size, wd0.heap.size]) (.slice A5 N.length c5) N ∧ N.length ≤ 5000 := fun W h => by
          obtain ⟨q1, q2, q3⟩ := h.2.2 i5 hlt
          rw [hA5, hc5, hN]
          exact ⟨h.2.1, q1, q2, q3⟩
        have hM5 : N.length ≤ 5000 := (hel _ (ElO.below HELV.out H135.out)).2.2.2
        have HEL := Lib.hid hel
        clear hel hA5 hc5 hN
        have i0 : (0 : Int) ≤ (i5 : Int) := by omega
        have i5b : (i5 : Int) < 5 := by omega
        obtain ⟨hg1l, hcel, -, -⟩ := HEL.out _ (ElO.below HELV.out H135.out)
        have hcl := topen (vp := (.slice Ap np cp)) (z := z1) H134.out hlK (HEL.out _ (ElO.below HELV.out H135.out)).2.2.1 (Tables.below HT.out (Nat.le_refl _) H130.out) (fun _ => openc combok hlK)
        obtain ⟨R, hR⟩ : ∃ R, R = pOpenT b3 K N := ⟨_, rfl⟩
        have hlT : R.1.length = 32 := by rw [hR]; exact pOpenT_len b3 K N
        rw [← hR] at hcl
        have HRO := Lib.hid hR
        clear hR
        obtain ⟨T, ⟨lo2, hi2⟩, er⟩ := R
        unfold ToR at hcl
        dsimp only at hcl hlT
        go_wp2_with (first
          | (with_reducible refine wpList_load_alg rfl _ rfl rfl H132.out (alc_size _ _ _ _ _) ?_)
          | (with_reducible refine wpList_load_con rfl _ rfl rfl H133.out (cnl_size _ _ _) ?_))
        refine hcl.mono ?_
        rintro e ua ⟨rfl, hbu⟩
        clear hcl
        have hsua : wr.heap.size ≤ ua.heap.size := hbu.size
        have H136 : Hid (Below w.heap.size w ua) := Lib.hid ((Below.trans H130.out (Below.mono hbu (Below.size H130.out))))
        have H137 : Hid (Deck wd0.heap.size ua) := Lib.hid ((Deck.below H131.out hbu (Deck.lt H131.out)))
        have H138 : Hid (ALRow ua u1.heap.size b3.free b3.seed b3.fresh (.slice Amb3 b3.macs.length cmb3) (.slice Abb3 b3.boxes.length cbb3)) := Lib.hid ((Whole.below H132.out hbu (Whole.lt H132.out)))
        have H139 : Hid (Whole ua u4.heap.size 36 (cnl z1 K (.slice Ap np cp)).toArray) := Lib.hid ((Whole.below H133.out hbu (Whole.lt H133.out)))
        have H140 : Hid (AlV ua (Off [gT, u4.heap.size, u1.heap.size, wd0.heap.size]) (.agg (alc b3.free b3.seed b3.fresh (.slice Amb3 b3.macs.length cmb3) (.slice Abb3 b3.boxes.length cbb3))) b3) := Lib.hid ((AlV.below H134.out hbu (Nat.le_refl _)))
        have H141 : Hid (Below wv.heap.size wv ua) := Lib.hid ((Below.trans H135.out (Below.mono hbu (Below.size H135.out))))
        clear H130 H131 H132 H133 H134 H135
        clear hbu
        have ks0 : ∀ z0 z1 : Array Value, Whole ((ua.alloc (.cells z0 28)).alloc (.cells z1 24)) ua.heap.size 28 z0 := fun _ _ => (Whole.alloc (Whole.here _ _ _) _)
        have ks1 : ∀ z0 z1 : Array Value, Whole (((ua.alloc (.cells z0 28)).alloc (.cells z1 24)).setRow ua.heap.size (T.map byt).toArray) (ua.heap.size + 1) 24 z1 := fun _ _ => (Whole.setRow_far (Whole.at_ _ _ _ _ (by simp)) (by omega) _)
        go_upto_region 16 with (first
          | (with_reducible refine wpList_store_tag rfl _ _ rfl (g := ua.heap.size) rfl rfl (ks0 _ _) rfl (tag_size hlT) (tag_one _) ?_)
          | (with_reducible refine wpList_store_tms rfl _ _ rfl (g := (ua.heap.size + 1)) rfl rfl (ks1 _ _) rfl ?_))
        clear ks0 ks1
        rw [ztm_lit]
        rw [ztr_lit]
        obtain ⟨q8, hq⟩ : ∃ q, q = ((((ua.alloc (.cells ztr 28)).alloc (.cells ztm 24)).setRow ua.heap.size (T.map byt).toArray).setRow (ua.heap.size + 1) #[.int .i64 lo2, .int .i64 hi2]) := ⟨_, rfl⟩
        rw [← hq]
        have hsq8 : ua.heap.size + 2 ≤ q8.heap.size := by rw [hq]; simp
        have H142 : Hid (Below w.heap.size w q8) := Lib.hid (by rw [hq]; exact (below_setRow (below_setRow (Below.trans H136.out (Below.mono (Below.alloc (Below.alloc (Below.refl _ _) (Nat.le_refl _) _) (by simp) _) (Below.size H136.out))) (by omega) _) (by omega) _))
        have H143 : Hid (Deck wd0.heap.size q8) := Lib.hid (by rw [hq]; exact (Deck.store (Deck.store (Deck.below H137.out (Below.alloc (Below.alloc (Below.refl _ _) (Nat.le_refl _) _) (by simp) _) (Deck.lt H137.out)) (by omega) _) (by omega) _))
        have H144 : Hid (ALRow q8 u1.heap.size b3.free b3.seed b3.fresh (.slice Amb3 b3.macs.length cmb3) (.slice Abb3 b3.boxes.length cbb3)) := Lib.hid (by rw [hq]; exact (Whole.setRow_far (Whole.setRow_far (Whole.below H138.out (Below.alloc (Below.alloc (Below.refl _ _) (Nat.le_refl _) _) (by simp) _) (Whole.lt H138.out)) (by omega) _) (by omega) _))
        have H145 : Hid (Whole q8 u4.heap.size 36 (cnl z1 K (.slice Ap np cp)).toArray) := Lib.hid (by rw [hq]; exact (Whole.setRow_far (Whole.setRow_far (Whole.below H139.out (Below.alloc (Below.alloc (Below.refl _ _) (Nat.le_refl _) _) (by simp) _) (Whole.lt H139.out)) (by omega) _) (by omega) _))
        have H146 : Hid (AlV q8 (Off [(ua.heap.size + 1), ua.heap.size, gT, u4.heap.size, u1.heap.size, wd0.heap.size]) (.agg (alc b3.free b3.seed b3.fresh (.slice Amb3 b3.macs.length cmb3) (.slice Abb3 b3.boxes.length cbb3))) b3) := Lib.hid (by rw [hq]; exact (AlV.store (AlV.store (AlV.below (AlV.grow (AlV.grow H140.out (by omega)) (by omega)) (Below.alloc (Below.alloc (Below.refl _ _) (Nat.le_refl _) _) (by simp) _) (Nat.le_refl _)) (by simp) _) (by simp) _))
        have H147 : Hid (Below wv.heap.size wv q8) := Lib.hid (by rw [hq]; exact (below_setRow (below_setRow (Below.trans H141.out (Below.mono (Below.alloc (Below.alloc (Below.refl _ _) (Nat.le_refl _) _) (by simp) _) (Below.size H141.out))) (by omega) _) (by omega) _))
        clear H136 H137 H138 H139 H140 H141
        have H148 : Hid (TGRow q8 ua.heap.size T) := Lib.hid (by rw [hq]; exact (Whole.setRow_far (Whole.setRow (Whole.alloc (Whole.here _ _ _) _) _) (by omega) _))
        have H149 : Hid (Whole q8 (ua.heap.size + 1) 24 #[.int .i64 lo2, .int .i64 hi2]) := Lib.hid (by rw [hq]; exact (Whole.setRow (Whole.setRow_far (Whole.at_ _ _ _ _ (by simp)) (by omega) _) _))
        clear hq
        clear hcel hg1l
        have hcl := ropent (vp := (.slice Ap np cp)) (z := z1) H146.out (by omega) hlK (HEL.out _ (ElO.below HELV.out H147.out)).2.2.1 (by omega)
        rw [← HRO.out] at hcl
        unfold ToR at hcl
        dsimp only at hcl
        go_wp2_with (first
          | (with_reducible refine wpList_load_alg rfl _ rfl rfl H144.out (alc_size _ _ _ _ _) ?_)
          | (with_reducible refine wpList_load_con rfl _ rfl rfl H145.out (cnl_size _ _ _) ?_))
        refine hcl.mono ?_
        rintro e ub ⟨rfl, hbu⟩
        clear hcl
        have hsub : q8.heap.size ≤ ub.heap.size := hbu.size
        have H150 : Hid (Below w.heap.size w ub) := Lib.hid ((Below.trans H142.out (Below.mono hbu (Below.size H142.out))))
        have H151 : Hid (Deck wd0.heap.size ub) := Lib.hid ((Deck.below H143.out hbu (Deck.lt H143.out)))
        have H152 : Hid (ALRow ub u1.heap.size b3.free b3.seed b3.fresh (.slice Amb3 b3.macs.length cmb3) (.slice Abb3 b3.boxes.length cbb3)) := Lib.hid ((Whole.below H144.out hbu (Whole.lt H144.out)))
        have H153 : Hid (Whole ub u4.heap.size 36 (cnl z1 K (.slice Ap np cp)).toArray) := Lib.hid ((Whole.below H145.out hbu (Whole.lt H145.out)))
        have H154 : Hid (AlV ub (Off [(ua.heap.size + 1), ua.heap.size, gT, u4.heap.size, u1.heap.size, wd0.heap.size]) (.agg (alc b3.free b3.seed b3.fresh (.slice Amb3 b3.macs.length cmb3) (.slice Abb3 b3.boxes.length cbb3))) b3) := Lib.hid ((AlV.below H146.out hbu (Nat.le_refl _)))
        have H155 : Hid (Below wv.heap.size wv ub) := Lib.hid ((Below.trans H147.out (Below.mono hbu (Below.size H147.out))))
        have H156 : Hid (TGRow ub ua.heap.size T) := Lib.hid ((Whole.below H148.out hbu (Whole.lt H148.out)))
        have H157 : Hid (Whole ub (ua.heap.size + 1) 24 #[.int .i64 lo2, .int .i64 hi2]) := Lib.hid ((Whole.below H149.out hbu (Whole.lt H149.out)))
        clear H142 H143 H144 H145 H146 H147 H148 H149
        clear hbu
        have ks0 : ∀ z0 z1 : Array Value, Whole ((ub.alloc (.cells z0 28)).alloc (.cells z1 24)) ub.heap.size 28 z0 := fun _ _ => (Whole.alloc (Whole.here _ _ _) _)
        have ks1 : ∀ z0 z1 : Array Value, Whole (((ub.alloc (.cells z0 28)).alloc (.cells z1 24)).setRow ub.heap.size (T.map byt).toArray) (ub.heap.size + 1) 24 z1 := fun _ _ => (Whole.setRow_far (Whole.at_ _ _ _ _ (by simp)) (by omega) _)
        go_upto_region 17 with (first
          | (with_reducible refine wpList_store_tag rfl _ _ rfl (g := ub.heap.size) rfl rfl (ks0 _ _) rfl (tag_size hlT) (tag_one _) ?_)
          | (with_reducible refine wpList_store_tms rfl _ _ rfl (g := (ub.heap.size + 1)) rfl rfl (ks1 _ _) rfl ?_))
        clear ks0 ks1
        rw [ztm_lit]
        rw [ztr_lit]
        obtain ⟨q9, hq⟩ : ∃ q, q = ((((ub.alloc (.cells ztr 28)).alloc (.cells ztm 24)).setRow ub.heap.size (T.map byt).toArray).setRow (ub.heap.size + 1) #[.int .i64 lo2, .int .i64 hi2]) := ⟨_, rfl⟩
        rw [← hq]
        have hsq9 : ub.heap.size + 2 ≤ q9.heap.size := by rw [hq]; simp
        have H158 : Hid (Below w.heap.size w q9) := Lib.hid (by rw [hq]; exact (below_setRow (below_setRow (Below.trans H150.out (Below.mono (Below.alloc (Below.alloc (Below.refl _ _) (Nat.le_refl _) _) (by simp) _) (Below.size H150.out))) (by omega) _) (by omega) _))
        have H159 : Hid (Deck wd0.heap.size q9) := Lib.hid (by rw [hq]; exact (Deck.store (Deck.store (Deck.below H151.out (Below.alloc (Below.alloc (Below.refl _ _) (Nat.le_refl _) _) (by simp) _) (Deck.lt H151.out)) (by omega) _) (by omega) _))
        have H160 : Hid (ALRow q9 u1.heap.size b3.free b3.seed b3.fresh (.slice Amb3 b3.macs.length cmb3) (.slice Abb3 b3.boxes.length cbb3)) := Lib.hid (by rw [hq]; exact (Whole.setRow_far (Whole.setRow_far (Whole.below H152.out (Below.alloc (Below.alloc (Below.refl _ _) (Nat.le_refl _) _) (by simp) _) (Whole.lt H152.out)) (by omega) _) (by omega) _))
        have H161 : Hid (Whole q9 u4.heap.size 36 (cnl z1 K (.slice Ap np cp)).toArray) := Lib.hid (by rw [hq]; exact (Whole.setRow_far (Whole.setRow_far (Whole.below H153.out (Below.alloc (Below.alloc (Below.refl _ _) (Nat.le_refl _) _) (by simp) _) (Whole.lt H153.out)) (by omega) _) (by omega) _))
        have H162 : Hid (AlV q9 (Off [(ub.heap.size + 1), ub.heap.size, (ua.heap.size + 1), ua.heap.size, gT, u4.heap.size, u1.heap.size, wd0.heap.size]) (.agg (alc b3.free b3.seed b3.fresh (.slice Amb3 b3.macs.length cmb3) (.slice Abb3 b3.boxes.length cbb3))) b3) := Lib.hid (by rw [hq]; exact (AlV.store (AlV.store (AlV.below (AlV.grow (AlV.grow H154.out (by omega)) (by omega)) (Below.alloc (Below.alloc (Below.refl _ _) (Nat.le_refl _) _) (by simp) _) (Nat.le_refl _)) (by simp) _) (by simp) _))
        have H163 : Hid (Below wv.heap.size wv q9) := Lib.hid (by rw [hq]; exact (below_setRow (below_setRow (Below.trans H155.out (Below.mono (Below.alloc (Below.alloc (Below.refl _ _) (Nat.le_refl _) _) (by simp) _) (Below.size H155.out))) (by omega) _) (by omega) _))
        have H164 : Hid (TGRow q9 ua.heap.size T) := Lib.hid (by rw [hq]; exact (Whole.setRow_far (Whole.setRow_far (Whole.below H156.out (Below.alloc (Below.alloc (Below.refl _ _) (Nat.le_refl _) _) (by simp) _) (Whole.lt H156.out)) (by omega) _) (by omega) _))
        have H165 : Hid (Whole q9 (ua.heap.size + 1) 24 #[.int .i64 lo2, .int .i64 hi2]) := Lib.hid (by rw [hq]; exact (Whole.setRow_far (Whole.setRow_far (Whole.below H157.out (Below.alloc (Below.alloc (Below.refl _ _) (Nat.le_refl _) _) (by simp) _) (Whole.lt H157.out)) (by omega) _) (by omega) _))
        clear H150 H151 H152 H153 H154 H155 H156 H157
        have H166 : Hid (TGRow q9 ub.heap.size T) := Lib.hid (by rw [hq]; exact (Whole.setRow_far (Whole.setRow (Whole.alloc (Whole.here _ _ _) _) _) (by omega) _))
        have H167 : Hid (Whole q9 (ub.heap.size + 1) 24 #[.int .i64 lo2, .int .i64 hi2]) := Lib.hid (by rw [hq]; exact (Whole.setRow (Whole.setRow_far (Whole.at_ _ _ _ _ (by simp)) (by omega) _) _))
        clear hq
        have kq := fun W => neq_tag (D := false) hlT hlT (by simp) W
        have kt := fun W => neq_tms lo2 hi2 W
        have kb : (er != er) = false := by simp
        have ta0 := Whole.cell H165.out 0
        have ta1 := Whole.cell H165.out 1
        have tb0 := Whole.cell H167.out 0
        have tb1 := Whole.cell H167.out 1
        go_wp2_with (first
          | (with_reducible refine wpList_load_wanted_at (by with_unfolding_all rfl) 28 _ rfl (ua.heap.size) 0 rfl _ _ (TGRow.range H164.out) Tryd.underlying28 rfl (tag_sz hlT) ?_)
          | (with_reducible refine wpList_load_wanted_at (by with_unfolding_all rfl) 28 _ rfl (ub.heap.size) 0 rfl _ _ (TGRow.range H166.out) Tryd.underlying28 rfl (tag_sz hlT) ?_))
        clear kq kt
        go_roundw
        case rel => exact ⟨i5 + 1, by go_num, by omega, H163.out⟩
        case measure => simp [intOf]; omega
end Go.Proofs.YteekdhcffiaaaaaDoor
