/-
  The list of byte slices of the laws: what their first list is.
  The law AlgebraLook.
-/
import Derived.Test.YteglmfimgdgchaaDoorPk34
import Derived.Test.YteglmfimgdgchaaDoorPk36
import Derived.Test.YteglmfimgdgchaaDoorPk18
import Derived.Deep.CutBlock
import Derived.Deep.RegionHeld3
import Derived.Deep.DeepCutAuto
import Derived.Test.YteglmfimgdgchaaDoorPk21
import Derived.Test.YteglmfimgdgchaaDoorPk20
import Derived.Test.YteglmfimgdgchaaDoorPk3
import Derived.Test.YteglmfimgdgchaaDoorPk15
import Derived.Test.YteglmfimgdgchaaDoorPk27
namespace Go.Proofs.YteglmfimgdgchaaDoor
open Go Go.RowKit Sh Leaf

/-- Behind the list's making: W0 is the world ahead of its own row. -/
def LstP (g : Nat) (P : World) (l0 : List (List B8)) (s : Value) (wx : World) : Prop := ∃ (W0 : World) (us : List Value) (bs : List B8), Turn g P W0 ∧ Below W0.heap.size W0 wx ∧ wx.ownsRow W0.heap.size 40 1 s us.length us ∧ Each wx W0.heap.size us (l0 ++ [bs]) ∧ bs.length ≤ 6
theorem LstP.of {g : Nat} {P W0 : World} {l0 : List (List B8)} {us : List Value} {bs : List B8} {n : Nat} (ht : Turn g P W0) (he : Each W0 W0.heap.size us (l0 ++ [bs])) (hn : us.length = n) (hl : n ≤ 1000) (hb : bs.length ≤ 6) :
    LstP g P l0 (.slice (some ⟨W0.heap.size, 0, none⟩) n n) (W0.alloc (.cells us.toArray 40)) := by
  subst hn
  have hb0 : Below W0.heap.size W0 (W0.alloc (.cells us.toArray 40)) := (Below.refl _ _).alloc (Nat.le_refl _) _
  refine ⟨W0, us, bs, ht, hb0, ⟨by simp, .inr ⟨W0.heap.size, us.length, us.toArray, rfl, Nat.le_refl _, heap_alloc_new W0 _, Nat.le_refl _, by unfold maxLen; omega, by simp, by simp⟩⟩, he.keep hb0 (Kb.alloc _ _), hb⟩
theorem each4 {w : World} {B : Nat} {u0 u1 u2 u3 : Value} {x0 x1 x2 x3 : List B8} (h0 : Elem w B u0 x0) (h1 : Elem w B u1 x1) (h2 : Elem w B u2 x2) (h3 : Elem w B u3 x3) : Each w B [u0, u1, u2, u3] ([x0, x1, x2] ++ [x3]) :=
  (((((Each.nil w B).snoc h0).snoc h1).snoc h2).snoc h3)
/-- Bytes that lie already are an element. -/
theorem Bytes.elem {w : World} {Q : Nat → Prop} {v : Value} {l : List B8} (h : Bytes w Q v l) : Elem w w.heap.size v l := h.mono fun _ hb _ => .inl hb
/-- Behind a region that keeps a tag and whether: the tag in a block of its own. -/
def LkP (P : World) (r : List B8 × Bool) (s13 s14 : Value) (wx : World) : Prop := ∃ G, s13 = .pointer (some ⟨G, 0, none⟩) ∧ s14 = .bool r.2 ∧ TGRow wx G r.1 ∧ Below P.heap.size P wx
/-- .. an algebra, a tag and a number. -/
def McP (P : World) (r : Alg × List B8 × Int) (s13 s14 s15 : Value) (wx : World) : Prop := ∃ (G1 G2 : Nat) (Am : Option Addr) (cm : Nat) (Ab : Option Addr) (cb : Nat), s13 = .pointer (some ⟨G1, 0, none⟩) ∧ s14 = .pointer (some ⟨G2, 0, none⟩) ∧ s15 = .int .i64 r.2.2 ∧
  ALRow wx G1 r.1.free r.1.seed r.1.fresh (.slice Am r.1.macs.length cm) (.slice Ab r.1.boxes.length cb) ∧ TGRow wx G2 r.2.1 ∧ AlV wx (fun _ => True) (.agg (alc r.1.free r.1.seed r.1.fresh (.slice Am r.1.macs.length cm) (.slice Ab r.1.boxes.length cb))) r.1 ∧ Below P.heap.size P wx
end Go.Proofs.YteglmfimgdgchaaDoor
namespace Go.Proofs.YteglmfimgdgchaaDoor
open Go Go.RowKit Sh Leaf

set_option linter.unusedSimpArgs false in
set_option linter.unusedVariables false in
set_option maxRecDepth 100000 in
set_option maxHeartbeats 8000000 in
theorem alook_law (A0 : Option Addr) (l0 : List Int) (c0 : Nat) {Q1 : Nat → Prop} (A1 : Option Addr) (x : List B8) (c1 : Nat) (m : Nat) (w : World) (hT : Tables w) (hI0 : Ints w (fun b => b < w.heap.size) A0 c0 l0) (hB1 : Bytes w Q1 (.slice A1 x.length c1) x) (hi2 : m < 256) :
    Calls Tryd.prog 5 #[.slice A0 l0.length c0, .slice A1 x.length c1, .int .u8 (m : Int)] w fun e w' => e = .returned (.bool true) ∧ Below w.heap.size w w' := by
  have HT := Lib.hid hT
  clear hT
  have H1 : Hid (Below w.heap.size w w) := Lib.hid (Below.refl _ _)
  obtain ⟨n0, hn0⟩ : ∃ n, n = l0.length := ⟨_, rfl⟩
  rw [← hn0]
  have HI0 := Lib.hid hI0
  have HN0 := Lib.hid hn0
  clear hI0 hn0
  have H2 : Hid (Bytes w (Off []) (.slice A1 x.length c1) x) := Lib.hid (hB1.mono fun _ _ _ => by intro y hy; cases hy)
  clear hB1
  go_enter Tryd.func5, Tryd.ntmps5
  have hcl := ashort H2.out
  go_wp2_with fail
  refine hcl.mono ?_
  rintro e w1 ⟨⟨X, rfl, hqX, hbx⟩, hww⟩
  clear hcl
  replace hww := hww.symm
  subst hww
  clear H2
  have H3 : Hid (Bytes w (Off []) (.slice A1 X.length c1) X) := Lib.hid (hbx)
  clear hbx
  have hcl := dnew A0 _ c0 l0 w HN0.out ((HI0.out.below H1.out).mono (Below.size H1.out))
  go_wp2_with fail
  refine hcl.mono ?_
  rintro e d0 ⟨rfl, hdk, hbu⟩
  clear hcl
  have hsd0 : w.heap.size < d0.heap.size := hdk.lt
  have H4 : Hid (Bytes w (Off [w.heap.size]) (.slice A1 X.length c1) X) := Lib.hid (Bytes.grow H3.out (by omega))
  clear H3
  have H5 : Hid (Below w.heap.size w d0) := Lib.hid ((Below.trans H1.out (Below.mono hbu (Below.size H1.out))))
  have H6 : Hid (Bytes d0 (Off [w.heap.size]) (.slice A1 X.length c1) X) := Lib.hid ((Bytes.below H4.out hbu (Nat.le_refl _)))
  clear H1 H4
  have H7 : Hid (Deck w.heap.size d0) := Lib.hid (hdk)
  clear hdk hbu HI0 HN0
  have hcl := dalg w.heap.size d0 H7.out
  go_wp2_with fail
  refine hcl.mono ?_
  rintro e u1 ⟨⟨v, a, rfl, hv, h4a, hb4a, hf4a, hgd⟩, ht⟩
  clear hcl
  have HGa := Lib.hid hgd
  obtain ⟨Ama, cma, Aba, cba, rfl, hM, hBx, hA⟩ := hv
  have hsla : a.seed.length = 32 := hA.seed
  have hfra : 0 ≤ a.fresh := hA.lo
  have hsu1 : d0.heap.size ≤ u1.heap.size := Turn.size ht
  have H8 : Hid (Below w.heap.size w u1) := Lib.hid ((base_turn H5.out ht (by omega)))
  have H9 : Hid (Bytes u1 (Off [w.heap.size]) (.slice A1 X.length c1) X) := Lib.hid ((Bytes.turn H6.out ht (by simp)))
  have H10 : Hid (Deck w.heap.size u1) := Lib.hid ((ht).1)
  clear H5 H6 H7
  have H11 : Hid (AlV u1 (Off [w.heap.size]) (.agg (alc a.free a.seed a.fresh (.slice Ama a.macs.length cma) (.slice Aba a.boxes.length cba))) a) := Lib.hid (AlV.mono ⟨Ama, cma, Aba, cba, rfl, hM, hBx, hA⟩ (fun _ _ h => off_one h))
  clear hM hBx hA ht hgd
  have ks0 : ∀ z0 : Array Value, Whole (u1.alloc (.cells z0 28)) u1.heap.size 28 z0 := fun _ => (Whole.here _ _ _)
  go_upto_region 4 with (with_reducible refine wpList_store_alg rfl _ _ rfl (g := u1.heap.size) rfl rfl (ks0 _) rfl (alc_size _ _ _ _ _) (alc_one _ _ _ _ _ _ _ _ _) ?_)
  clear ks0
  rw [zar_lit]
  obtain ⟨q2, hq⟩ : ∃ q, q = ((u1.alloc (.cells zar 28)).setRow u1.heap.size (alc a.free a.seed a.fresh (.slice Ama a.macs.length cma) (.slice Aba a.boxes.length cba))) := ⟨_, rfl⟩
  rw [← hq]
  have hsq2 : u1.heap.size + 1 ≤ q2.heap.size := by rw [hq]; simp
  have H12 : Hid (Below w.heap.size w q2) := Lib.hid (by rw [hq]; exact (below_setRow (Below.trans H8.out (Below.mono (Below.alloc (Below.refl _ _) (Nat.le_refl _) _) (Below.size H8.out))) (by omega) _))
  have H13 : Hid (Bytes q2 (Off [u1.heap.size, w.heap.size]) (.slice A1 X.length c1) X) := Lib.hid (by rw [hq]; exact (Bytes.store (Bytes.below (Bytes.grow H9.out (by omega)) (Below.alloc (Below.refl _ _) (Nat.le_refl _) _) (Nat.le_refl _)) (by simp) _))
  have H14 : Hid (Deck w.heap.size q2) := Lib.hid (by rw [hq]; exact (Deck.store (Deck.below H10.out (Below.alloc (Below.refl _ _) (Nat.le_refl _) _) (Deck.lt H10.out)) (by omega) _))
  have H15 : Hid (AlV q2 (Off [u1.heap.size, w.heap.size]) (.agg (alc a.free a.seed a.fresh (.slice Ama a.macs.length cma) (.slice Aba a.boxes.length cba))) a) := Lib.hid (by rw [hq]; exact (AlV.store (AlV.below (AlV.grow H11.out (by omega)) (Below.alloc (Below.refl _ _) (Nat.le_refl _) _) (Nat.le_refl _)) (by simp) _))
  clear H8 H9 H10 H11
  have H16 : Hid (ALRow q2 u1.heap.size a.free a.seed a.fresh (.slice Ama a.macs.length cma) (.slice Aba a.boxes.length cba)) := Lib.hid (by rw [hq]; exact (Whole.setRow (Whole.here _ _ _) _))
  clear hq
  have hcl := dknown w.heap.size q2 H14.out H15.out (fun b h => h _ (by simp))
  go_wp2_with (with_reducible refine wpList_load_alg rfl _ rfl rfl H16.out (alc_size _ _ _ _ _) ?_)
  refine hcl.mono ?_
  rintro e u3 ⟨⟨K, hlK, rfl⟩, ht⟩
  clear hcl
  have hsu3 : q2.heap.size ≤ u3.heap.size := Turn.size ht
  have H17 : Hid (Below w.heap.size w u3) := Lib.hid ((base_turn H12.out ht (by omega)))
  have H18 : Hid (Bytes u3 (Off [u1.heap.size, w.heap.size]) (.slice A1 X.length c1) X) := Lib.hid ((Bytes.turn H13.out ht (by simp)))
  have H19 : Hid (Deck w.heap.size u3) := Lib.hid ((ht).1)
  have H20 : Hid (AlV u3 (Off [u1.heap.size, w.heap.size]) (.agg (alc a.free a.seed a.fresh (.slice Ama a.macs.length cma) (.slice Aba a.boxes.length cba))) a) := Lib.hid ((AlV.turn H15.out ht (by simp) (Turn.size ht)))
  have H21 : Hid (ALRow u3 u1.heap.size a.free a.seed a.fresh (.slice Ama a.macs.length cma) (.slice Aba a.boxes.length cba)) := Lib.hid (((ht).2.2.oth _ _ _ (by omega) H16.out))
  clear H12 H13 H14 H15 H16
  clear ht
  have ks0 : ∀ z0 : Array Value, Whole (u3.alloc (.cells z0 23)) u3.heap.size 23 z0 := fun _ => (Whole.here _ _ _)
  go_upto_region 5 with (with_reducible refine wpList_store_tag rfl _ _ rfl (g := u3.heap.size) rfl rfl (ks0 _) rfl (tag_size hlK) (tag_one _) ?_)
  clear ks0
  rw [ztr_lit]
  obtain ⟨q4, hq⟩ : ∃ q, q = ((u3.alloc (.cells ztr 23)).setRow u3.heap.size (K.map byt).toArray) := ⟨_, rfl⟩
  rw [← hq]
  have hsq4 : u3.heap.size + 1 ≤ q4.heap.size := by rw [hq]; simp
  have H22 : Hid (Below w.heap.size w q4) := Lib.hid (by rw [hq]; exact (below_setRow (Below.trans H17.out (Below.mono (Below.alloc (Below.refl _ _) (Nat.le_refl _) _) (Below.size H17.out))) (by omega) _))
  have H23 : Hid (Bytes q4 (Off [u3.heap.size, u1.heap.size, w.heap.size]) (.slice A1 X.length c1) X) := Lib.hid (by rw [hq]; exact (Bytes.store (Bytes.below (Bytes.grow H18.out (by omega)) (Below.alloc (Below.refl _ _) (Nat.le_refl _) _) (Nat.le_refl _)) (by simp) _))
  have H24 : Hid (Deck w.heap.size q4) := Lib.hid (by rw [hq]; exact (Deck.store (Deck.below H19.out (Below.alloc (Below.refl _ _) (Nat.le_refl _) _) (Deck.lt H19.out)) (by omega) _))
  have H25 : Hid (AlV q4 (Off [u3.heap.size, u1.heap.size, w.heap.size]) (.agg (alc a.free a.seed a.fresh (.slice Ama a.macs.length cma) (.slice Aba a.boxes.length cba))) a) := Lib.hid (by rw [hq]; exact (AlV.store (AlV.below (AlV.grow H20.out (by omega)) (Below.alloc (Below.refl _ _) (Nat.le_refl _) _) (Nat.le_refl _)) (by simp) _))
  have H26 : Hid (ALRow q4 u1.heap.size a.free a.seed a.fresh (.slice Ama a.macs.length cma) (.slice Aba a.boxes.length cba)) := Lib.hid (by rw [hq]; exact (Whole.setRow_far (Whole.below H21.out (Below.alloc (Below.refl _ _) (Nat.le_refl _) _) (Whole.lt H21.out)) (by omega) _))
  clear H17 H18 H19 H20 H21
  have H27 : Hid (TGRow q4 u3.heap.size K) := Lib.hid (by rw [hq]; exact (Whole.setRow (Whole.here _ _ _) _))
  clear hq
  obtain ⟨m3, hm3⟩ : ∃ z : Nat, z = 4095 + m % 3 := ⟨_, rfl⟩
  have hm4 : m3 ≤ 4097 := by omega
  have hmk := make_bytes (m3 : Int) m3 rfl (by omega)
  have hw1 : IntKind.i64.wrap (m : Int) = (m : Int) := by rw [IntKind.wrap_i64]; omega
  have hw2 : IntKind.i64.wrap (4095 + (m : Int).tmod 3) = (m3 : Int) := by rw [Int.tmod_eq_emod_of_nonneg (by omega), IntKind.wrap_i64]; omega
  have hmm : ¬ ((3 : Int) = 0) := by omega
  clear hm3
  simp only [Act.put]
  go_cut [10] (fun s10 wx => LstP w.heap.size q4 [X, [], List.replicate m3 0] s10 wx)
  case first =>
    have hg0 : w.heap.size < q4.heap.size := (H24.out).lt
    have hT0 : Turn w.heap.size q4 q4.drew := ⟨Deck.drew H24.out, (Below.refl _ _).drew, (Oth.refl _ _).drew⟩
    refine wp_region_held_drew (S := fun _ => True) (by kernel_rfl) (trivial) (fun hHeld => ?_)
    apply wpAnyH_take (i := 0) rfl (by kernel_rfl) (by kernel_rfl) (by kernel_rfl)
    case hQ => exact fun _ _ _ h => h
    case hS => exact hHeld
    case hy => (refine Or.inl ⟨by rfl, ?_⟩; intro w hSw; (try go_split_ands); go_simp; (try with_reducible rfl))
    (try simp only [List.getElem_toArray, List.getElem_cons_zero, Act.put, List.setIfInBounds_toArray, List.set_cons_zero, List.set_cons_succ])
    apply wpAnyH_take (i := 1) rfl (by kernel_rfl) (by kernel_rfl) (by kernel_rfl)
    case hQ => exact fun _ _ _ h => h
    case hS => exact hHeld
    case hy => (refine Or.inl ⟨by rfl, ?_⟩; intro w hSw; (try go_split_ands); go_simp; (try with_reducible rfl))
    (try simp only [List.getElem_toArray, List.getElem_cons_succ, List.getElem_cons_zero, Act.put, List.setIfInBounds_toArray, List.set_cons_zero, List.set_cons_succ])
    apply wpAnyH_take (i := 2) rfl (by kernel_rfl) (by kernel_rfl) (by kernel_rfl)
    case hQ => exact fun _ _ _ h => h
    case hS => exact hHeld
    case hy => (refine Or.inl ⟨by rfl, ?_⟩; intro w hSw; (try go_split_ands); go_simp; (try with_reducible rfl))
    (try simp only [List.getElem_toArray, List.getElem_cons_succ, List.getElem_cons_zero, Act.put, List.setIfInBounds_toArray, List.set_cons_zero, List.set_cons_succ])
    apply wpAnyH_take (i := 3) rfl (by kernel_rfl) (by kernel_rfl) (by kernel_rfl)
    case hQ => exact fun _ _ _ h => h
    case hS => exact hHeld
    case hy => (refine Or.inl ⟨by rfl, ?_⟩; intro w hSw; (try go_split_ands); go_simp; (try with_reducible rfl))
    (try simp only [List.getElem_toArray, List.getElem_cons_succ, List.getElem_cons_zero, Act.put, List.setIfInBounds_toArray, List.set_cons_zero, List.set_cons_succ])
    apply wpAnyH_take (i := 4) rfl (by kernel_rfl) (by kernel_rfl) (by kernel_rfl)
    case hQ => exact fun _ _ _ h => h
    case hS => exact hHeld
    case hy => (refine Or.inl ⟨by rfl, ?_⟩; intro w hSw; (try go_split_ands); go_simp; (try with_reducible rfl))
    (try simp only [List.getElem_toArray, List.getElem_cons_succ, List.getElem_cons_zero, Act.put, List.setIfInBounds_toArray, List.set_cons_zero, List.set_cons_succ])
    apply wpAnyH_take (i := 6) rfl (by kernel_rfl) (by kernel_rfl) (by kernel_rfl)
    case hQ => exact fun _ _ _ h => h
    case hS => exact hHeld
    case hy => (refine Or.inl ⟨by rfl, ?_⟩; intro w hSw; (try go_split_ands); go_simp; (try with_reducible rfl))
    (try simp only [List.getElem_toArray, List.getElem_cons_succ, List.getElem_cons_zero, Act.put, List.setIfInBounds_toArray, List.set_cons_zero, List.set_cons_succ])
    refine wpAnyH_ready (rs := [5, 7]) (by kernel_rfl) (by simp) ?_
    refine AllReadyH.cons rfl (fun KK hKK => ?_) (AllReadyH.cons rfl (fun KK hKK => ?_) AllReadyH.nil)
    · (try simp only [List.getElem_toArray, List.getElem_cons_succ, List.getElem_cons_zero])
      go_simp
      obtain ⟨V1, hV1⟩ : ∃ x, x = (q4.alloc (.cells (brow m3 fun _ => 0#8) 5)).drew := ⟨_, rfl⟩
      have hz1 : Bytes V1 (fun b => b = q4.heap.size) (.slice (some ⟨q4.heap.size, 0, none⟩) m3 m3) (List.replicate m3 (0 : B8)) := by rw [hV1]; exact made_bytes _ m3 (by omega)
      have hT1 : Turn w.heap.size q4 V1 := by rw [hV1]; exact Turn.below (Deck.refl H24.out) (((Below.refl _ _).alloc (Nat.le_refl _) _).drew) hg0 (Nat.le_refl _)
      rw [← hV1]
      clear hV1
      refine hKK.out _ _ (trivial) (fun hHeld => ?_)
      clear hKK KK
      (try simp only [List.getElem_toArray, List.getElem_cons_succ, List.getElem_cons_zero, Act.put, List.setIfInBounds_toArray, List.set_cons_zero, List.set_cons_succ])
      refine wpAnyH_ready (rs := [7]) (by kernel_rfl) (by simp) ?_
      refine AllReadyH.cons rfl (fun KK hKK => ?_) AllReadyH.nil
      (try simp only [List.getElem_toArray, List.getElem_cons_succ, List.getElem_cons_zero])
      go_simp
      go_at_call 25
      refine (dbytes 6 (by omega) w.heap.size V1 hT1.1).mono ?_
      rintro e V2 ⟨⟨Ab, cb9, bs, hbl, rfl, hb2⟩, ht2⟩
      have hT2 := Turn.trans hT1 ht2
      have hz2 := hz1.oth ht2.2.2 (fun b hb => by have h1 := hg0; have h2 := Turn.size hT0; omega)
      clear ht2
      refine hKK.out _ _ (trivial) (fun hHeld => ?_)
      clear hKK KK
      (try simp only [List.getElem_toArray, List.getElem_cons_succ, List.getElem_cons_zero, Act.put, List.setIfInBounds_toArray, List.set_cons_zero, List.set_cons_succ])
      refine wpAnyH_ready (rs := [8]) (by kernel_rfl) (by simp) ?_
      refine AllReadyH.cons rfl (fun KK hKK => ?_) AllReadyH.nil
      (try simp only [List.getElem_toArray, List.getElem_cons_succ, List.getElem_cons_zero])
      go_simp
      have hX3 := (Bytes.turn H23.out hT2 (by simp)).elem
      have hL3 := LstP.of (l0 := [X, [], List.replicate m3 0]) (n := 4) hT2 (each4 hX3 (Elem.nil _ _) hz2.elem hb2.elem) rfl (by omega) hbl
      refine hKK.out _ _ (trivial) (fun hHeld => ?_)
      clear hKK KK
      (try simp only [List.getElem_toArray, List.getElem_cons_succ, List.getElem_cons_zero, Act.put, List.setIfInBounds_toArray, List.set_cons_zero, List.set_cons_succ])
      apply wpAnyH_take (i := 9) rfl (by kernel_rfl) (by kernel_rfl) (by kernel_rfl)
      case hQ => exact fun _ _ _ h => h
      case hS => exact hHeld
      case hy => (refine Or.inl ⟨by rfl, ?_⟩; intro w hSw; (try go_split_ands); go_simp; (try with_reducible rfl))
      (try simp only [List.getElem_toArray, List.getElem_cons_succ, List.getElem_cons_zero, Act.put, List.setIfInBounds_toArray, List.set_cons_zero, List.set_cons_succ])
      refine wpAnyH_done (by kernel_rfl) ?_ _
      go_wp2_with fail
      go_meet
      exact hL3
    · (try simp only [List.getElem_toArray, List.getElem_cons_succ, List.getElem_cons_zero])
      go_simp
      go_at_call 25
      refine (dbytes 6 (by omega) w.heap.size q4.drew hT0.1).mono ?_
      rintro e V4 ⟨⟨Ab, cb9, bs, hbl, rfl, hb4⟩, ht4⟩
      have hT4 := Turn.trans hT0 ht4
      clear ht4
      refine hKK.out _ _ (trivial) (fun hHeld => ?_)
      clear hKK KK
      (try simp only [List.getElem_toArray, List.getElem_cons_succ, List.getElem_cons_zero, Act.put, List.setIfInBounds_toArray, List.set_cons_zero, List.set_cons_succ])
      refine wpAnyH_ready (rs := [5]) (by kernel_rfl) (by simp) ?_
      refine AllReadyH.cons rfl (fun KK hKK => ?_) AllReadyH.nil
      (try simp only [List.getElem_toArray, List.getElem_cons_succ, List.getElem_cons_zero])
      go_simp
      obtain ⟨V5, hV5⟩ : ∃ x, x = (V4).alloc (.cells (brow m3 fun _ => 0#8) 5) := ⟨_, rfl⟩
      have hz5 : Bytes V5 (fun b => b = (V4).heap.size) (.slice (some ⟨(V4).heap.size, 0, none⟩) m3 m3) (List.replicate m3 (0 : B8)) := by rw [hV5]; exact made_bytes _ m3 (by omega)
      have hT5 : Turn w.heap.size q4 V5 := by rw [hV5]; exact Turn.below hT4 ((Below.refl _ _).alloc (Nat.le_refl _) _) (Nat.lt_of_lt_of_le hg0 (Turn.size hT4)) (Turn.size hT4)
      have hb5 := hb4.below (show Below (V4).heap.size (V4) V5 by rw [hV5]; exact (Below.refl _ _).alloc (Nat.le_refl _) _) (Nat.le_refl _)
      rw [← hV5]
      clear hV5
      refine hKK.out _ _ (trivial) (fun hHeld => ?_)
      clear hKK KK
      (try simp only [List.getElem_toArray, List.getElem_cons_succ, List.getElem_cons_zero, Act.put, List.setIfInBounds_toArray, List.set_cons_zero, List.set_cons_succ])
      refine wpAnyH_ready (rs := [8]) (by kernel_rfl) (by simp) ?_
      refine AllReadyH.cons rfl (fun KK hKK => ?_) AllReadyH.nil
      (try simp only [List.getElem_toArray, List.getElem_cons_succ, List.getElem_cons_zero])
      go_simp
      have hX6 := (Bytes.turn H23.out hT5 (by simp)).elem
      have hL6 := LstP.of (l0 := [X, [], List.replicate m3 0]) (n := 4) hT5 (each4 hX6 (Elem.nil _ _) hz5.elem hb5.elem) rfl (by omega) hbl
      refine hKK.out _ _ (trivial) (fun hHeld => ?_)
      clear hKK KK
      (try simp only [List.getElem_toArray, List.getElem_cons_succ, List.getElem_cons_zero, Act.put, List.setIfInBounds_toArray, List.set_cons_zero, List.set_cons_succ])
      apply wpAnyH_take (i := 9) rfl (by kernel_rfl) (by kernel_rfl) (by kernel_rfl)
      case hQ => exact fun _ _ _ h => h
      case hS => exact hHeld
      case hy => (refine Or.inl ⟨by rfl, ?_⟩; intro w hSw; (try go_split_ands); go_simp; (try with_reducible rfl))
      (try simp only [List.getElem_toArray, List.getElem_cons_succ, List.getElem_cons_zero, Act.put, List.setIfInBounds_toArray, List.set_cons_zero, List.set_cons_succ])
      refine wpAnyH_done (by kernel_rfl) ?_ _
      go_wp2_with fail
      go_meet
      exact hL6
  case rest =>
    obtain ⟨W0, us, bs, ht, hbw0, hown, heach, hbl⟩ := hcut
    clear hmk hw1 hw2 hmm
    obtain ⟨L0, hL0⟩ : ∃ L, L = [X, [], List.replicate m3 0] ++ [bs] := ⟨_, rfl⟩
    rw [← hL0] at heach
    have HL0 : Hid ((∀ x ∈ L0, x.length ≤ 5000) ∧ L0.length = 4) := Lib.hid (by
      rw [hL0]
      refine ⟨fun x hx => ?_, rfl⟩
      simp at hx
      rcases hx with rfl | rfl | rfl | rfl
      · omega
      · simp
      · simp; omega
      · omega)
    clear hL0 hbl
    have hsW0 : q4.heap.size ≤ W0.heap.size := Turn.size ht
    have H28 : Hid (Below w.heap.size w W0) := Lib.hid ((base_turn H22.out ht (by omega)))
    have H29 : Hid (Bytes W0 (Off [u3.heap.size, u1.heap.size, w.heap.size]) (.slice A1 X.length c1) X) := Lib.hid ((Bytes.turn H23.out ht (by simp)))
    have H30 : Hid (Deck w.heap.size W0) := Lib.hid ((ht).1)
    have H31 : Hid (AlV W0 (Off [u3.heap.size, u1.heap.size, w.heap.size]) (.agg (alc a.free a.seed a.fresh (.slice Ama a.macs.length cma) (.slice Aba a.boxes.length cba))) a) := Lib.hid ((AlV.turn H25.out ht (by simp) (Turn.size ht)))
    have H32 : Hid (ALRow W0 u1.heap.size a.free a.seed a.fresh (.slice Ama a.macs.length cma) (.slice Aba a.boxes.length cba)) := Lib.hid (((ht).2.2.oth _ _ _ (by omega) H26.out))
    have H33 : Hid (TGRow W0 u3.heap.size K) := Lib.hid (((ht).2.2.oth _ _ _ (by omega) H27.out))
    clear H22 H23 H24 H25 H26 H27
    clear H30
    clear H29
    clear ht
    have HMM := Lib.hid (AlV.parts (AlV.mono (Q' := fun b => b < W0.heap.size) H31.out fun b hb _ => hb)).1
    have HOW := Lib.hid (And.intro hown (And.intro heach hbw0))
    have hla : a.macs.length ≤ 4 := h4a
    clear hown heach hbw0
    go_wp2_with fail
    go_loopw [10, 11] (fun vl v wr => ∃ (j : Nat) (us : List Value), v = .int .i64 j ∧ j ≤ a.macs.length ∧ Below W0.heap.size W0 wr ∧ wr.ownsRow W0.heap.size 40 1 vl us.length us ∧ Each wr W0.heap.size us (L0 ++ (a.macs.take j).map (·.msg))) (fun _ v _ => a.macs.length - (intOf v).toNat)
    case atStart => exact ⟨0, us, rfl, by omega, HOW.out.2.2, HOW.out.1, by rw [List.take_zero, List.map_nil, List.append_nil]; exact HOW.out.2.1⟩
    case round =>
      clear HOW
      obtain ⟨j, us, rfl, hj, hbw, hown, heach⟩ := hrel
      have hswr : W0.heap.size ≤ wr.heap.size := hbw.size
      have husl : us.length ≤ 8 := by rw [heach.1, List.length_append, List.length_map, List.length_take, HL0.out.2]; omega
      have HBW := Lib.hid hbw
      have HOW := Lib.hid (And.intro hown heach)
      have H34 : Hid (Below w.heap.size w wr) := Lib.hid ((Below.trans H28.out (Below.mono hbw (Below.size H28.out))))
      have H35 : Hid (AlV wr (Off [u3.heap.size, u1.heap.size, w.heap.size]) (.agg (alc a.free a.seed a.fresh (.slice Ama a.macs.length cma) (.slice Aba a.boxes.length cba))) a) := Lib.hid ((AlV.below H31.out hbw (Nat.le_refl _)))
      have H36 : Hid (ALRow wr u1.heap.size a.free a.seed a.fresh (.slice Ama a.macs.length cma) (.slice Aba a.boxes.length cba)) := Lib.hid ((Whole.below H32.out hbw (Whole.lt H32.out)))
      have H37 : Hid (TGRow wr u3.heap.size K) := Lib.hid ((Whole.below H33.out hbw (Whole.lt H33.out)))
      clear H28 H31 H32 H33
      clear hbw
      have c34 := (ALRow.cells H36.out).2.2.1
      by_cases hlt : j < a.macs.length
      case pos =>
        obtain ⟨e, he⟩ : ∃ e, a.macs[j]? = some e := ⟨_, List.getElem?_eq_getElem hlt⟩
        obtain ⟨g0, o, D, dc, hAm, hq, hg, -, hsl, -, hby, hk32, ht32, hm5, -⟩ := Macs.get (HMM.out.below HBW.out (Nat.le_refl _)) j e he
        rw [hAm] at c34
        clear hAm
        have j0 : (0 : Int) ≤ (j : Int) := by omega
        have jn : (j : Int) < (a.macs.length : Int) := by omega
        obtain ⟨wa, hwa⟩ : ∃ x, x = wr.alloc (.cells #[.slice D e.msg.length dc] 40) := ⟨_, rfl⟩
        have hba : Below wr.heap.size wr wa := by rw [hwa]; exact (Below.refl _ _).alloc (Nat.le_refl _) _
        have hoa := own_below hown hba (Nat.le_refl _)
        have hga : wa.cell? ⟨wr.heap.size, 0, none⟩ = some (.slice D e.msg.length dc) := by rw [hwa]; exact cell_of_row _ _ _ _ _ _ (heap_alloc_new wr _)
        have hsa : W0.heap.size ≤ wa.heap.size := Nat.le_trans hswr hba.size
        have hea := heach.keep (hba.mono hswr) (Kb.below hba)
        have hla2 := (Elem.of_low hby).keep (hba.mono hswr) (Kb.below hba)
        have HX := Lib.hid (And.intro hea hla2)
        have HE := Lib.hid he
        have HBA := Lib.hid (Below.trans HBW.out (Below.mono hba hswr))
        clear hown heach hby hea hla2 he hba hq hm5
        rw [hwa] at hoa hga
        rw [hwa] at hsa
        go_wp2_with (at_builtin; go_must (refine wpList_append_elem (by rfl) _ _ rfl W0.heap.size _ us rfl hoa _ rfl wr.heap.size 1 rfl hga (by omega) hsa ?_; intro v2 w2 hown2 hbe2 hkb2 hgr2))
        go_roundw
        case rel =>
          rw [← hwa] at hbe2 hkb2
          refine ⟨j + 1, _, by go_num, by omega, HBA.out.trans hbe2, hown2, ?_⟩
          rw [List.take_add_one, HE.out, Option.toList_some, List.map_append, List.map_cons, List.map_nil, ← List.append_assoc]
          exact (HX.out.1.keep hbe2 hkb2).snoc (HX.out.2.keep hbe2 hkb2)
        case measure => simp [intOf]; omega
      case neg =>
        rename World => wv
        obtain rfl : j = a.macs.length := by omega
        have hLs := Lists.of_own hown heach
        have hLL : ∀ x ∈ L0 ++ (a.macs.take a.macs.length).map (·.msg), x.length ≤ 5000 := by
          intro x hx
          rcases List.mem_append.1 hx with hx | hx
          · exact HL0.out.1 x hx
          · obtain ⟨e, he, rfl⟩ := List.mem_map.1 hx
            have := HGa.out.lm e (List.mem_of_mem_take he)
            omega
        obtain ⟨LL, hLLe⟩ : ∃ L, L = L0 ++ (a.macs.take a.macs.length).map (·.msg) := ⟨_, rfl⟩
        rw [← hLLe] at hLs hLL
        have HLS := Lib.hid hLs
        have HLL := Lib.hid hLL
        have hLsl : LL.length ≤ 1000000000 := by rw [hLLe, List.length_append, List.length_map, List.length_take, HL0.out.2]; omega
        obtain ⟨Al, cl, us2, hvl, hLr⟩ := hLs
        subst hvl
        clear hLr hLL hLLe hown heach
        clear HOW
        go_wp2_with fail
        clear c34
        go_loopw [12] (fun v wr => ∃ i : Nat, v = .int .i64 i ∧ i ≤ LL.length ∧ Below wv.heap.size wv wr) (fun v _ => LL.length - (intOf v).toNat)
        case atStart => exact ⟨0, rfl, by omega, Below.refl _ _⟩
        case round =>
          obtain ⟨i, rfl, hi, hbw⟩ := hrel
          have hsw2 : wv.heap.size ≤ wr.heap.size := hbw.size
          have H38 : Hid (Below wv.heap.size wv wv) := Lib.hid (Below.refl _ _)
          have H39 : Hid (Below w.heap.size w wr) := Lib.hid ((Below.trans H34.out (Below.mono hbw (Below.size H34.out))))
          have H40 : Hid (AlV wr (Off [u3.heap.size, u1.heap.size, w.heap.size]) (.agg (alc a.free a.seed a.fresh (.slice Ama a.macs.length cma) (.slice Aba a.boxes.length cba))) a) := Lib.hid ((AlV.below H35.out hbw (Nat.le_refl _)))
          have H41 : Hid (ALRow wr u1.heap.size a.free a.seed a.fresh (.slice Ama a.macs.length cma) (.slice Aba a.boxes.length cba)) := Lib.hid ((Whole.below H36.out hbw (Whole.lt H36.out)))
          have H42 : Hid (TGRow wr u3.heap.size K) := Lib.hid ((Whole.below H37.out hbw (Whole.lt H37.out)))
          have H43 : Hid (Below wv.heap.size wv wr) := Lib.hid ((Below.trans H38.out (Below.mono hbw (Below.size H38.out))))
          clear H34 H35 H36 H37 H38
          have hLs := HLS.out.below hbw (Nat.le_refl _)
          clear hbw
          by_cases hlt2 : i < LL.length
          case neg =>
            obtain rfl : i = LL.length := by omega
            have hcl := aawk wr (Tables.below HT.out (Nat.le_refl _) H39.out)
            go_wp2_with fail
            refine hcl.mono ?_
            rintro e w9 ⟨rfl, hb9⟩
            clear hcl
            have HG := Lib.hid (Below.trans H39.out (Below.mono hb9 (Below.size H39.out)))
            go_wp2
            go_ret
            exact ⟨rfl, HG.out⟩
          case pos =>
            obtain ⟨-, -, -, hget⟩ := Lists.get hLs
            obtain ⟨g1, o1, A3, c3, hAl, hcl3, hb3, hg1⟩ := hget i hlt2
            clear hget hLs
            have hM5 : (LL[i]).length ≤ 5000 := HLL.out _ (List.getElem_mem hlt2)
            obtain ⟨M, hM⟩ : ∃ M, M = LL[i] := ⟨_, rfl⟩
            rw [← hM] at hM5 hb3 hcl3
            have HALL := Lib.hid hAl
            subst hAl
            have i0 : (0 : Int) ≤ (i : Int) := by omega
            have inn : (i : Int) < (LL.length : Int) := by omega
            have HB3 := Lib.hid hb3
            clear hM hb3
            go_upto_region 13 with fail
            obtain ⟨R, hR⟩ : ∃ R, R = aLook a K M := ⟨_, rfl⟩
            have hlT : R.1.length = 32 := by rw [hR]; exact AlV.look_len H40.out _ _
            have hcl : ∀ W, Below wr.heap.size wr W → Calls Tryd.prog 28 #[.agg (alc a.free a.seed a.fresh (.slice Ama a.macs.length cma) (.slice Aba a.boxes.length cba)), .agg (K.map byt).toArray, .slice A3 M.length c3] W fun e w' => e = .returned (lres R) ∧ Below W.heap.size W w' := fun W hb => by
              rw [hR]
              exact plook (AlV.below H40.out hb (Nat.le_refl _)) hlK (HB3.out.below hb (Nat.le_refl _)) (by omega) (Tables.below (Tables.below HT.out (Nat.le_refl _) H39.out) (Nat.le_refl _) hb)
            have HCL := Lib.hid hcl
            clear hcl
            obtain ⟨T, ok⟩ := R
            have HET := Lib.hid hR
            clear hR
            dsimp only at hlT
            (try simp only [Act.put])
            go_cut [13, 14] (fun s13 s14 wx => LkP wr (T, ok) s13 s14 wx)
            case first =>
              have hcl := HCL.out
              have hcc : ∀ W, Below wr.heap.size wr W → (fun W : World => W.rangeAt u1.heap.size 0 (alcl a.free a.seed a.fresh (.slice Ama a.macs.length cma) (.slice Aba a.boxes.length cba)) ∧ W.rangeAt u3.heap.size 0 (K.map byt) ∧ W.cell? ⟨g1, o1 + i, none⟩ = some (.slice A3 M.length c3)) W := fun W hb => ⟨Whole.range (Whole.below H41.out hb (Whole.lt H41.out)), TGRow.range (Whole.below H42.out hb (Whole.lt H42.out)), (hb.cell (p := ⟨g1, o1 + i, none⟩) hg1).trans hcl3⟩
              have HCC := Lib.hid hcc
              clear hcc
              have hb0 : Below wr.heap.size wr wr.drew := Below.drew (Below.refl _ _)
              refine wp_region_held_drew (S := fun W : World => W.rangeAt u1.heap.size 0 (alcl a.free a.seed a.fresh (.slice Ama a.macs.length cma) (.slice Aba a.boxes.length cba)) ∧ W.rangeAt u3.heap.size 0 (K.map byt) ∧ W.cell? ⟨g1, o1 + i, none⟩ = some (.slice A3 M.length c3)) (by kernel_rfl) (HCC.out _ hb0) (fun hHeld => ?_)
              apply wpAnyH_take (i := 0) rfl (by kernel_rfl) (by kernel_rfl) (by kernel_rfl)
              case hQ => exact fun _ _ _ h => h
              case hS => exact hHeld
              case hy => exact yieldsIf_load_mid (by rfl) 28 _ rfl u1.heap.size (0) rfl ((alcl a.free a.seed a.fresh (.slice Ama a.macs.length cma) (.slice Aba a.boxes.length cba))) _ (fun w hS => hS.1) Tryd.underlying28 rfl (by rw [algSize, alcl_length])
              (try simp only [List.getElem_toArray, List.getElem_cons_zero, Act.put, List.setIfInBounds_toArray, List.set_cons_zero, List.set_cons_succ])
              apply wpAnyH_take (i := 1) rfl (by kernel_rfl) (by kernel_rfl) (by kernel_rfl)
              case hQ => exact fun _ _ _ h => h
              case hS => exact hHeld
              case hy => exact yieldsIf_load_mid (by rfl) 23 _ rfl u3.heap.size (0) rfl ((K.map byt)) _ (fun w hS => hS.2.1) Tryd.underlying23 rfl (by rw [tagSize, List.length_map, hlK])
              (try simp only [List.getElem_toArray, List.getElem_cons_succ, List.getElem_cons_zero, Act.put, List.setIfInBounds_toArray, List.set_cons_zero, List.set_cons_succ])
              apply wpAnyH_take (i := 2) rfl (by kernel_rfl) (by kernel_rfl) (by kernel_rfl)
              case hQ => exact fun _ _ _ h => h
              case hS => exact hHeld
              case hy => (refine Or.inl ⟨by rfl, ?_⟩; intro w hSw; (try go_split_ands); go_simp; (try with_reducible rfl))
              (try simp only [List.getElem_toArray, List.getElem_cons_succ, List.getElem_cons_zero, Act.put, List.setIfInBounds_toArray, List.set_cons_zero, List.set_cons_succ])
              apply wpAnyH_take (i := 3) rfl (by kernel_rfl) (by kernel_rfl) (by kernel_rfl)
              case hQ => exact fun _ _ _ h => h
              case hS => exact hHeld
              case hy => (refine Or.inl ⟨by rfl, ?_⟩; intro w hSw; (try go_split_ands); go_simp; (try with_reducible rfl))
              (try simp only [List.getElem_toArray, List.getElem_cons_succ, List.getElem_cons_zero, Act.put, List.setIfInBounds_toArray, List.set_cons_zero, List.set_cons_succ])
              apply wpAnyH_take (i := 4) rfl (by kernel_rfl) (by kernel_rfl) (by kernel_rfl)
              case hQ => exact fun _ _ _ h => h
              case hS => exact hHeld
              case hy => (refine Or.inl ⟨by rfl, ?_⟩; intro w hSw; (try go_split_ands); go_simp; (try with_reducible rfl))
              (try simp only [List.getElem_toArray, List.getElem_cons_succ, List.getElem_cons_zero, Act.put, List.setIfInBounds_toArray, List.set_cons_zero, List.set_cons_succ])
              apply wpAnyH_take (i := 5) rfl (by kernel_rfl) (by kernel_rfl) (by kernel_rfl)
              case hQ => exact fun _ _ _ h => h
              case hS => exact hHeld
              case hy => (refine Or.inl ⟨by rfl, ?_⟩; intro w hSw; (try go_split_ands); go_simp; (try with_reducible rfl))
              (try simp only [List.getElem_toArray, List.getElem_cons_succ, List.getElem_cons_zero, Act.put, List.setIfInBounds_toArray, List.set_cons_zero, List.set_cons_succ])
              refine wpAnyH_ready (rs := [6, 10]) (by kernel_rfl) (by simp) ?_
              refine AllReadyH.cons rfl (fun KK hKK => ?_) (AllReadyH.cons rfl (fun KK hKK => ?_) AllReadyH.nil)
              · (try simp only [List.getElem_toArray, List.getElem_cons_succ, List.getElem_cons_zero])
                go_simp
                go_at_call 28
                refine (hcl _ hb0).mono ?_
                rintro e V1 ⟨rfl, hv1⟩
                have hb1 := Below.trans hb0 (Below.mono hv1 (Below.size hb0))
                dsimp only [lres]
                refine hKK.out _ _ (HCC.out _ hb1) (fun hHeld => ?_)
                clear hKK KK
                (try simp only [List.getElem_toArray, List.getElem_cons_succ, List.getElem_cons_zero, Act.put, List.setIfInBounds_toArray, List.set_cons_zero, List.set_cons_succ])
                apply wpAnyH_take (i := 7) rfl (by kernel_rfl) (by kernel_rfl) (by kernel_rfl)
                case hQ => exact fun _ _ _ h => h
                case hS => exact hHeld
                case hy => (refine Or.inl ⟨by rfl, ?_⟩; intro w hSw; (try go_split_ands); go_simp; (try with_reducible rfl))
                (try simp only [List.getElem_toArray, List.getElem_cons_succ, List.getElem_cons_zero, Act.put, List.setIfInBounds_toArray, List.set_cons_zero, List.set_cons_succ])
                apply wpAnyH_take (i := 8) rfl (by kernel_rfl) (by kernel_rfl) (by kernel_rfl)
                case hQ => exact fun _ _ _ h => h
                case hS => exact hHeld
                case hy => (refine Or.inl ⟨by rfl, ?_⟩; intro w hSw; (try go_split_ands); go_simp; (try with_reducible rfl))
                (try simp only [List.getElem_toArray, List.getElem_cons_succ, List.getElem_cons_zero, Act.put, List.setIfInBounds_toArray, List.set_cons_zero, List.set_cons_succ])
                apply wpAnyH_take (i := 9) rfl (by kernel_rfl) (by kernel_rfl) (by kernel_rfl)
                case hQ => exact fun _ _ _ h => h
                case hS => exact hHeld
                case hy => (refine Or.inl ⟨by rfl, ?_⟩; intro w hSw; (try go_split_ands); go_simp; (try with_reducible rfl))
                (try simp only [List.getElem_toArray, List.getElem_cons_succ, List.getElem_cons_zero, Act.put, List.setIfInBounds_toArray, List.set_cons_zero, List.set_cons_succ])
                refine wpAnyH_ready (rs := [10]) (by kernel_rfl) (by simp) ?_
                refine AllReadyH.cons rfl (fun KK hKK => ?_) AllReadyH.nil
                (try simp only [List.getElem_toArray, List.getElem_cons_succ, List.getElem_cons_zero])
                go_simp
                rw [ztr_lit]
                obtain ⟨V2, hV2⟩ : ∃ x, x = (V1).alloc (.cells ztr 23) := ⟨_, rfl⟩
                have hv2 : Below V1.heap.size V1 V2 := by rw [hV2]; exact (Below.refl _ _).alloc (Nat.le_refl _) _
                have hb2 : Below wr.heap.size wr V2 := Below.trans hb1 (Below.mono hv2 (Below.size hb1))
                have nT2 : Whole V2 V1.heap.size 23 ztr := by rw [hV2]; exact Whole.here _ _ _
                have pT2 : wr.heap.size ≤ V1.heap.size := Below.size hb1
                rw [← hV2]
                clear hV2
                refine hKK.out _ _ (HCC.out _ hb2) (fun hHeld => ?_)
                clear hKK KK
                (try simp only [List.getElem_toArray, List.getElem_cons_succ, List.getElem_cons_zero, Act.put, List.setIfInBounds_toArray, List.set_cons_zero, List.set_cons_succ])
                refine wpAnyH_ready (rs := [11]) (by kernel_rfl) (by simp) ?_
                refine AllReadyH.cons rfl (fun KK hKK => ?_) AllReadyH.nil
                obtain ⟨V3, hV3⟩ : ∃ x, x = (V2).setRow (V1.heap.size) (T.map byt).toArray := ⟨_, rfl⟩
                have nT3 : Whole V3 (V1.heap.size) 23 (T.map byt).toArray := by rw [hV3]; exact Whole.setRow nT2 _
                have hb3 : Below wr.heap.size wr V3 := by rw [hV3]; exact below_setRow hb2 pT2 _
                rw [if_pos (by kernel_rfl)]
                refine wp_store_row 23 _ _ rfl (V1.heap.size) _ rfl rfl 23 _ nT2 (by rw [tagSize, tag_size hlT]) (by rw [ztr_size, tag_size hlT]) (tag_one _) ?_
                rw [← hV3]
                clear hV3
                refine hKK.out _ _ (HCC.out _ hb3) (fun hHeld => ?_)
                clear hKK KK
                (try simp only [List.getElem_toArray, List.getElem_cons_succ, List.getElem_cons_zero, Act.put, List.setIfInBounds_toArray, List.set_cons_zero, List.set_cons_succ])
                apply wpAnyH_take (i := 12) rfl (by kernel_rfl) (by kernel_rfl) (by kernel_rfl)
                case hQ => exact fun _ _ _ h => h
                case hS => exact hHeld
                case hy => (refine Or.inl ⟨by rfl, ?_⟩; intro w hSw; (try go_split_ands); go_simp; (try with_reducible rfl))
                (try simp only [List.getElem_toArray, List.getElem_cons_succ, List.getElem_cons_zero, Act.put, List.setIfInBounds_toArray, List.set_cons_zero, List.set_cons_succ])
                refine wpAnyH_done (by kernel_rfl) ?_ _
                go_wp2_with fail
                go_meet
                exact ⟨_, rfl, rfl, nT3, hb3⟩
              · (try simp only [List.getElem_toArray, List.getElem_cons_succ, List.getElem_cons_zero])
                go_simp
                rw [ztr_lit]
                obtain ⟨V4, hV4⟩ : ∃ x, x = (wr.alloc (.cells ztr 23)).drew := ⟨_, rfl⟩
                have hv4 : Below wr.heap.size wr V4 := by rw [hV4]; exact ((Below.refl _ _).alloc (Nat.le_refl _) _).drew
                have hb4 : Below wr.heap.size wr V4 := hv4
                have nT4 : Whole V4 wr.heap.size 23 ztr := by rw [hV4]; exact Whole.here _ _ _
                have pT4 : wr.heap.size ≤ wr.heap.size := Nat.le_refl _
                rw [← hV4]
                clear hV4
                refine hKK.out _ _ (HCC.out _ hb4) (fun hHeld => ?_)
                clear hKK KK
                (try simp only [List.getElem_toArray, List.getElem_cons_succ, List.getElem_cons_zero, Act.put, List.setIfInBounds_toArray, List.set_cons_zero, List.set_cons_succ])
                refine wpAnyH_ready (rs := [6]) (by kernel_rfl) (by simp) ?_
                refine AllReadyH.cons rfl (fun KK hKK => ?_) AllReadyH.nil
                (try simp only [List.getElem_toArray, List.getElem_cons_succ, List.getElem_cons_zero])
                go_simp
                go_at_call 28
                refine (hcl _ hb4).mono ?_
                rintro e V5 ⟨rfl, hv5⟩
                have hb5 := Below.trans hb4 (Below.mono hv5 (Below.size hb4))
                have rT5 := Whole.below nT4 hv5 (Whole.lt nT4)
                dsimp only [lres]
                refine hKK.out _ _ (HCC.out _ hb5) (fun hHeld => ?_)
                clear hKK KK
                (try simp only [List.getElem_toArray, List.getElem_cons_succ, List.getElem_cons_zero, Act.put, List.setIfInBounds_toArray, List.set_cons_zero, List.set_cons_succ])
                apply wpAnyH_take (i := 7) rfl (by kernel_rfl) (by kernel_rfl) (by kernel_rfl)
                case hQ => exact fun _ _ _ h => h
                case hS => exact hHeld
                case hy => (refine Or.inl ⟨by rfl, ?_⟩; intro w hSw; (try go_split_ands); go_simp; (try with_reducible rfl))
                (try simp only [List.getElem_toArray, List.getElem_cons_succ, List.getElem_cons_zero, Act.put, List.setIfInBounds_toArray, List.set_cons_zero, List.set_cons_succ])
                apply wpAnyH_take (i := 8) rfl (by kernel_rfl) (by kernel_rfl) (by kernel_rfl)
                case hQ => exact fun _ _ _ h => h
                case hS => exact hHeld
                case hy => (refine Or.inl ⟨by rfl, ?_⟩; intro w hSw; (try go_split_ands); go_simp; (try with_reducible rfl))
                (try simp only [List.getElem_toArray, List.getElem_cons_succ, List.getElem_cons_zero, Act.put, List.setIfInBounds_toArray, List.set_cons_zero, List.set_cons_succ])
                apply wpAnyH_take (i := 9) rfl (by kernel_rfl) (by kernel_rfl) (by kernel_rfl)
                case hQ => exact fun _ _ _ h => h
                case hS => exact hHeld
                case hy => (refine Or.inl ⟨by rfl, ?_⟩; intro w hSw; (try go_split_ands); go_simp; (try with_reducible rfl))
                (try simp only [List.getElem_toArray, List.getElem_cons_succ, List.getElem_cons_zero, Act.put, List.setIfInBounds_toArray, List.set_cons_zero, List.set_cons_succ])
                refine wpAnyH_ready (rs := [11]) (by kernel_rfl) (by simp) ?_
                refine AllReadyH.cons rfl (fun KK hKK => ?_) AllReadyH.nil
                obtain ⟨V6, hV6⟩ : ∃ x, x = (V5).setRow (wr.heap.size) (T.map byt).toArray := ⟨_, rfl⟩
                have nT6 : Whole V6 (wr.heap.size) 23 (T.map byt).toArray := by rw [hV6]; exact Whole.setRow rT5 _
                have hb6 : Below wr.heap.size wr V6 := by rw [hV6]; exact below_setRow hb5 pT4 _
                rw [if_pos (by kernel_rfl)]
                refine wp_store_row 23 _ _ rfl (wr.heap.size) _ rfl rfl 23 _ rT5 (by rw [tagSize, tag_size hlT]) (by rw [ztr_size, tag_size hlT]) (tag_one _) ?_
                rw [← hV6]
                clear hV6
                refine hKK.out _ _ (HCC.out _ hb6) (fun hHeld => ?_)
                clear hKK KK
                (try simp only [List.getElem_toArray, List.getElem_cons_succ, List.getElem_cons_zero, Act.put, List.setIfInBounds_toArray, List.set_cons_zero, List.set_cons_succ])
                apply wpAnyH_take (i := 12) rfl (by kernel_rfl) (by kernel_rfl) (by kernel_rfl)
                case hQ => exact fun _ _ _ h => h
                case hS => exact hHeld
                case hy => (refine Or.inl ⟨by rfl, ?_⟩; intro w hSw; (try go_split_ands); go_simp; (try with_reducible rfl))
                (try simp only [List.getElem_toArray, List.getElem_cons_succ, List.getElem_cons_zero, Act.put, List.setIfInBounds_toArray, List.set_cons_zero, List.set_cons_succ])
                refine wpAnyH_done (by kernel_rfl) ?_ _
                go_wp2_with fail
                go_meet
                exact ⟨_, rfl, rfl, nT6, hb6⟩
            case rest =>
              obtain ⟨GT, rfl, rfl, hr, hbu⟩ := hcut
              clear HCL
              rename World => wc
              have hswc : wr.heap.size ≤ wc.heap.size := hbu.size
              have H44 : Hid (Below w.heap.size w wc) := Lib.hid ((Below.trans H39.out (Below.mono hbu (Below.size H39.out))))
              have H45 : Hid (AlV wc (Off [u3.heap.size, u1.heap.size, w.heap.size]) (.agg (alc a.free a.seed a.fresh (.slice Ama a.macs.length cma) (.slice Aba a.boxes.length cba))) a) := Lib.hid ((AlV.below H40.out hbu (Nat.le_refl _)))
              have H46 : Hid (ALRow wc u1.heap.size a.free a.seed a.fresh (.slice Ama a.macs.length cma) (.slice Aba a.boxes.length cba)) := Lib.hid ((Whole.below H41.out hbu (Whole.lt H41.out)))
              have H47 : Hid (TGRow wc u3.heap.size K) := Lib.hid ((Whole.below H42.out hbu (Whole.lt H42.out)))
              have H48 : Hid (Below wv.heap.size wv wc) := Lib.hid ((Below.trans H43.out (Below.mono hbu (Below.size H43.out))))
              clear H39 H40 H41 H42 H43
              have H49 : Hid (TGRow wc GT T) := Lib.hid (hr)
              have hcl3 : wc.cell? ⟨g1, o1 + i, none⟩ = some (.slice A3 M.length c3) := (hbu.cell (p := ⟨g1, o1 + i, none⟩) hg1).trans hcl3
              have hg1 : g1 < wc.heap.size := by omega
              have HB3 := Lib.hid (HB3.out.below hbu (Nat.le_refl _))
              clear hr hbu
              go_upto_region 14 with fail
              obtain ⟨R, hR⟩ : ∃ R, R = aLook a K M := ⟨_, rfl⟩
              have hlU : R.1.length = 32 := by rw [hR]; exact AlV.look_len H45.out _ _
              have hcl : ∀ W, Below wc.heap.size wc W → Calls Tryd.prog 29 #[.agg (alc a.free a.seed a.fresh (.slice Ama a.macs.length cma) (.slice Aba a.boxes.length cba)), .agg (K.map byt).toArray, .slice A3 M.length c3] W fun e w' => e = .returned (lres R) ∧ Below W.heap.size W w' := fun W hb => by
                rw [hR]
                exact rlook (AlV.below H45.out hb (Nat.le_refl _)) hlK (HB3.out.below hb (Nat.le_refl _)) (by omega)
              have HCL := Lib.hid hcl
              clear hcl
              obtain ⟨U, is⟩ := R
              have HEU := Lib.hid hR
              clear hR
              dsimp only at hlU
              (try simp only [Act.put])
              go_cut [15, 16] (fun s13 s14 wx => LkP wc (U, is) s13 s14 wx)
              case first =>
                have hcl := HCL.out
                have hcc : ∀ W, Below wc.heap.size wc W → (fun W : World => W.rangeAt u1.heap.size 0 (alcl a.free a.seed a.fresh (.slice Ama a.macs.length cma) (.slice Aba a.boxes.length cba)) ∧ W.rangeAt u3.heap.size 0 (K.map byt) ∧ W.cell? ⟨g1, o1 + i, none⟩ = some (.slice A3 M.length c3)) W := fun W hb => ⟨Whole.range (Whole.below H46.out hb (Whole.lt H46.out)), TGRow.range (Whole.below H47.out hb (Whole.lt H47.out)), (hb.cell (p := ⟨g1, o1 + i, none⟩) hg1).trans hcl3⟩
                have HCC := Lib.hid hcc
                clear hcc
                have hb0 : Below wc.heap.size wc wc.drew := Below.drew (Below.refl _ _)
                refine wp_region_held_drew (S := fun W : World => W.rangeAt u1.heap.size 0 (alcl a.free a.seed a.fresh (.slice Ama a.macs.length cma) (.slice Aba a.boxes.length cba)) ∧ W.rangeAt u3.heap.size 0 (K.map byt) ∧ W.cell? ⟨g1, o1 + i, none⟩ = some (.slice A3 M.length c3)) (by kernel_rfl) (HCC.out _ hb0) (fun hHeld => ?_)
                apply wpAnyH_take (i := 0) rfl (by kernel_rfl) (by kernel_rfl) (by kernel_rfl)
                case hQ => exact fun _ _ _ h => h
                case hS => exact hHeld
                case hy => exact yieldsIf_load_mid (by rfl) 28 _ rfl u1.heap.size (0) rfl ((alcl a.free a.seed a.fresh (.slice Ama a.macs.length cma) (.slice Aba a.boxes.length cba))) _ (fun w hS => hS.1) Tryd.underlying28 rfl (by rw [algSize, alcl_length])
                (try simp only [List.getElem_toArray, List.getElem_cons_zero, Act.put, List.setIfInBounds_toArray, List.set_cons_zero, List.set_cons_succ])
                apply wpAnyH_take (i := 1) rfl (by kernel_rfl) (by kernel_rfl) (by kernel_rfl)
                case hQ => exact fun _ _ _ h => h
                case hS => exact hHeld
                case hy => exact yieldsIf_load_mid (by rfl) 23 _ rfl u3.heap.size (0) rfl ((K.map byt)) _ (fun w hS => hS.2.1) Tryd.underlying23 rfl (by rw [tagSize, List.length_map, hlK])
                (try simp only [List.getElem_toArray, List.getElem_cons_succ, List.getElem_cons_zero, Act.put, List.setIfInBounds_toArray, List.set_cons_zero, List.set_cons_succ])
                apply wpAnyH_take (i := 2) rfl (by kernel_rfl) (by kernel_rfl) (by kernel_rfl)
                case hQ => exact fun _ _ _ h => h
                case hS => exact hHeld
                case hy => (refine Or.inl ⟨by rfl, ?_⟩; intro w hSw; (try go_split_ands); go_simp; (try with_reducible rfl))
                (try simp only [List.getElem_toArray, List.getElem_cons_succ, List.getElem_cons_zero, Act.put, List.setIfInBounds_toArray, List.set_cons_zero, List.set_cons_succ])
                apply wpAnyH_take (i := 3) rfl (by kernel_rfl) (by kernel_rfl) (by kernel_rfl)
                case hQ => exact fun _ _ _ h => h
                case hS => exact hHeld
                case hy => (refine Or.inl ⟨by rfl, ?_⟩; intro w hSw; (try go_split_ands); go_simp; (try with_reducible rfl))
                (try simp only [List.getElem_toArray, List.getElem_cons_succ, List.getElem_cons_zero, Act.put, List.setIfInBounds_toArray, List.set_cons_zero, List.set_cons_succ])
                apply wpAnyH_take (i := 4) rfl (by kernel_rfl) (by kernel_rfl) (by kernel_rfl)
                case hQ => exact fun _ _ _ h => h
                case hS => exact hHeld
                case hy => (refine Or.inl ⟨by rfl, ?_⟩; intro w hSw; (try go_split_ands); go_simp; (try with_reducible rfl))
                (try simp only [List.getElem_toArray, List.getElem_cons_succ, List.getElem_cons_zero, Act.put, List.setIfInBounds_toArray, List.set_cons_zero, List.set_cons_succ])
                apply wpAnyH_take (i := 5) rfl (by kernel_rfl) (by kernel_rfl) (by kernel_rfl)
                case hQ => exact fun _ _ _ h => h
                case hS => exact hHeld
                case hy => (refine Or.inl ⟨by rfl, ?_⟩; intro w hSw; (try go_split_ands); go_simp; (try with_reducible rfl))
                (try simp only [List.getElem_toArray, List.getElem_cons_succ, List.getElem_cons_zero, Act.put, List.setIfInBounds_toArray, List.set_cons_zero, List.set_cons_succ])
                refine wpAnyH_ready (rs := [6, 10]) (by kernel_rfl) (by simp) ?_
                refine AllReadyH.cons rfl (fun KK hKK => ?_) (AllReadyH.cons rfl (fun KK hKK => ?_) AllReadyH.nil)
                · (try simp only [List.getElem_toArray, List.getElem_cons_succ, List.getElem_cons_zero])
                  go_simp
                  go_at_call 29
                  refine (hcl _ hb0).mono ?_
                  rintro e V1 ⟨rfl, hv1⟩
                  have hb1 := Below.trans hb0 (Below.mono hv1 (Below.size hb0))
                  dsimp only [lres]
                  refine hKK.out _ _ (HCC.out _ hb1) (fun hHeld => ?_)
                  clear hKK KK
                  (try simp only [List.getElem_toArray, List.getElem_cons_succ, List.getElem_cons_zero, Act.put, List.setIfInBounds_toArray, List.set_cons_zero, List.set_cons_succ])
                  apply wpAnyH_take (i := 7) rfl (by kernel_rfl) (by kernel_rfl) (by kernel_rfl)
                  case hQ => exact fun _ _ _ h => h
                  case hS => exact hHeld
                  case hy => (refine Or.inl ⟨by rfl, ?_⟩; intro w hSw; (try go_split_ands); go_simp; (try with_reducible rfl))
                  (try simp only [List.getElem_toArray, List.getElem_cons_succ, List.getElem_cons_zero, Act.put, List.setIfInBounds_toArray, List.set_cons_zero, List.set_cons_succ])
                  apply wpAnyH_take (i := 8) rfl (by kernel_rfl) (by kernel_rfl) (by kernel_rfl)
                  case hQ => exact fun _ _ _ h => h
                  case hS => exact hHeld
                  case hy => (refine Or.inl ⟨by rfl, ?_⟩; intro w hSw; (try go_split_ands); go_simp; (try with_reducible rfl))
                  (try simp only [List.getElem_toArray, List.getElem_cons_succ, List.getElem_cons_zero, Act.put, List.setIfInBounds_toArray, List.set_cons_zero, List.set_cons_succ])
                  apply wpAnyH_take (i := 9) rfl (by kernel_rfl) (by kernel_rfl) (by kernel_rfl)
                  case hQ => exact fun _ _ _ h => h
                  case hS => exact hHeld
                  case hy => (refine Or.inl ⟨by rfl, ?_⟩; intro w hSw; (try go_split_ands); go_simp; (try with_reducible rfl))
                  (try simp only [List.getElem_toArray, List.getElem_cons_succ, List.getElem_cons_zero, Act.put, List.setIfInBounds_toArray, List.set_cons_zero, List.set_cons_succ])
                  refine wpAnyH_ready (rs := [10]) (by kernel_rfl) (by simp) ?_
                  refine AllReadyH.cons rfl (fun KK hKK => ?_) AllReadyH.nil
                  (try simp only [List.getElem_toArray, List.getElem_cons_succ, List.getElem_cons_zero])
                  go_simp
                  rw [ztr_lit]
                  obtain ⟨V2, hV2⟩ : ∃ x, x = (V1).alloc (.cells ztr 23) := ⟨_, rfl⟩
                  have hv2 : Below V1.heap.size V1 V2 := by rw [hV2]; exact (Below.refl _ _).alloc (Nat.le_refl _) _
                  have hb2 : Below wc.heap.size wc V2 := Below.trans hb1 (Below.mono hv2 (Below.size hb1))
                  have nT2 : Whole V2 V1.heap.size 23 ztr := by rw [hV2]; exact Whole.here _ _ _
                  have pT2 : wc.heap.size ≤ V1.heap.size := Below.size hb1
                  rw [← hV2]
                  clear hV2
                  refine hKK.out _ _ (HCC.out _ hb2) (fun hHeld => ?_)
                  clear hKK KK
                  (try simp only [List.getElem_toArray, List.getElem_cons_succ, List.getElem_cons_zero, Act.put, List.setIfInBounds_toArray, List.set_cons_zero, List.set_cons_succ])
                  refine wpAnyH_ready (rs := [11]) (by kernel_rfl) (by simp) ?_
                  refine AllReadyH.cons rfl (fun KK hKK => ?_) AllReadyH.nil
                  obtain ⟨V3, hV3⟩ : ∃ x, x = (V2).setRow (V1.heap.size) (U.map byt).toArray := ⟨_, rfl⟩
                  have nT3 : Whole V3 (V1.heap.size) 23 (U.map byt).toArray := by rw [hV3]; exact Whole.setRow nT2 _
                  have hb3 : Below wc.heap.size wc V3 := by rw [hV3]; exact below_setRow hb2 pT2 _
                  rw [if_pos (by kernel_rfl)]
                  refine wp_store_row 23 _ _ rfl (V1.heap.size) _ rfl rfl 23 _ nT2 (by rw [tagSize, tag_size hlU]) (by rw [ztr_size, tag_size hlU]) (tag_one _) ?_
                  rw [← hV3]
                  clear hV3
                  refine hKK.out _ _ (HCC.out _ hb3) (fun hHeld => ?_)
                  clear hKK KK
                  (try simp only [List.getElem_toArray, List.getElem_cons_succ, List.getElem_cons_zero, Act.put, List.setIfInBounds_toArray, List.set_cons_zero, List.set_cons_succ])
                  apply wpAnyH_take (i := 12) rfl (by kernel_rfl) (by kernel_rfl) (by kernel_rfl)
                  case hQ => exact fun _ _ _ h => h
                  case hS => exact hHeld
                  case hy => (refine Or.inl ⟨by rfl, ?_⟩; intro w hSw; (try go_split_ands); go_simp; (try with_reducible rfl))
                  (try simp only [List.getElem_toArray, List.getElem_cons_succ, List.getElem_cons_zero, Act.put, List.setIfInBounds_toArray, List.set_cons_zero, List.set_cons_succ])
                  refine wpAnyH_done (by kernel_rfl) ?_ _
                  go_wp2_with fail
                  go_meet
                  exact ⟨_, rfl, rfl, nT3, hb3⟩
                · (try simp only [List.getElem_toArray, List.getElem_cons_succ, List.getElem_cons_zero])
                  go_simp
                  rw [ztr_lit]
                  obtain ⟨V4, hV4⟩ : ∃ x, x = (wc.alloc (.cells ztr 23)).drew := ⟨_, rfl⟩
                  have hv4 : Below wc.heap.size wc V4 := by rw [hV4]; exact ((Below.refl _ _).alloc (Nat.le_refl _) _).drew
                  have hb4 : Below wc.heap.size wc V4 := hv4
                  have nT4 : Whole V4 wc.heap.size 23 ztr := by rw [hV4]; exact Whole.here _ _ _
                  have pT4 : wc.heap.size ≤ wc.heap.size := Nat.le_refl _
                  rw [← hV4]
                  clear hV4
                  refine hKK.out _ _ (HCC.out _ hb4) (fun hHeld => ?_)
                  clear hKK KK
                  (try simp only [List.getElem_toArray, List.getElem_cons_succ, List.getElem_cons_zero, Act.put, List.setIfInBounds_toArray, List.set_cons_zero, List.set_cons_succ])
                  refine wpAnyH_ready (rs := [6]) (by kernel_rfl) (by simp) ?_
                  refine AllReadyH.cons rfl (fun KK hKK => ?_) AllReadyH.nil
                  (try simp only [List.getElem_toArray, List.getElem_cons_succ, List.getElem_cons_zero])
                  go_simp
                  go_at_call 29
                  refine (hcl _ hb4).mono ?_
                  rintro e V5 ⟨rfl, hv5⟩
                  have hb5 := Below.trans hb4 (Below.mono hv5 (Below.size hb4))
                  have rT5 := Whole.below nT4 hv5 (Whole.lt nT4)
                  dsimp only [lres]
                  refine hKK.out _ _ (HCC.out _ hb5) (fun hHeld => ?_)
                  clear hKK KK
                  (try simp only [List.getElem_toArray, List.getElem_cons_succ, List.getElem_cons_zero, Act.put, List.setIfInBounds_toArray, List.set_cons_zero, List.set_cons_succ])
                  apply wpAnyH_take (i := 7) rfl (by kernel_rfl) (by kernel_rfl) (by kernel_rfl)
                  case hQ => exact fun _ _ _ h => h
                  case hS => exact hHeld
                  case hy => (refine Or.inl ⟨by rfl, ?_⟩; intro w hSw; (try go_split_ands); go_simp; (try with_reducible rfl))
                  (try simp only [List.getElem_toArray, List.getElem_cons_succ, List.getElem_cons_zero, Act.put, List.setIfInBounds_toArray, List.set_cons_zero, List.set_cons_succ])
                  apply wpAnyH_take (i := 8) rfl (by kernel_rfl) (by kernel_rfl) (by kernel_rfl)
                  case hQ => exact fun _ _ _ h => h
                  case hS => exact hHeld
                  case hy => (refine Or.inl ⟨by rfl, ?_⟩; intro w hSw; (try go_split_ands); go_simp; (try with_reducible rfl))
                  (try simp only [List.getElem_toArray, List.getElem_cons_succ, List.getElem_cons_zero, Act.put, List.setIfInBounds_toArray, List.set_cons_zero, List.set_cons_succ])
                  apply wpAnyH_take (i := 9) rfl (by kernel_rfl) (by kernel_rfl) (by kernel_rfl)
                  case hQ => exact fun _ _ _ h => h
                  case hS => exact hHeld
                  case hy => (refine Or.inl ⟨by rfl, ?_⟩; intro w hSw; (try go_split_ands); go_simp; (try with_reducible rfl))
                  (try simp only [List.getElem_toArray, List.getElem_cons_succ, List.getElem_cons_zero, Act.put, List.setIfInBounds_toArray, List.set_cons_zero, List.set_cons_succ])
                  refine wpAnyH_ready (rs := [11]) (by kernel_rfl) (by simp) ?_
                  refine AllReadyH.cons rfl (fun KK hKK => ?_) AllReadyH.nil
                  obtain ⟨V6, hV6⟩ : ∃ x, x = (V5).setRow (wc.heap.size) (U.map byt).toArray := ⟨_, rfl⟩
                  have nT6 : Whole V6 (wc.heap.size) 23 (U.map byt).toArray := by rw [hV6]; exact Whole.setRow rT5 _
                  have hb6 : Below wc.heap.size wc V6 := by rw [hV6]; exact below_setRow hb5 pT4 _
                  rw [if_pos (by kernel_rfl)]
                  refine wp_store_row 23 _ _ rfl (wc.heap.size) _ rfl rfl 23 _ rT5 (by rw [tagSize, tag_size hlU]) (by rw [ztr_size, tag_size hlU]) (tag_one _) ?_
                  rw [← hV6]
                  clear hV6
                  refine hKK.out _ _ (HCC.out _ hb6) (fun hHeld => ?_)
                  clear hKK KK
                  (try simp only [List.getElem_toArray, List.getElem_cons_succ, List.getElem_cons_zero, Act.put, List.setIfInBounds_toArray, List.set_cons_zero, List.set_cons_succ])
                  apply wpAnyH_take (i := 12) rfl (by kernel_rfl) (by kernel_rfl) (by kernel_rfl)
                  case hQ => exact fun _ _ _ h => h
                  case hS => exact hHeld
                  case hy => (refine Or.inl ⟨by rfl, ?_⟩; intro w hSw; (try go_split_ands); go_simp; (try with_reducible rfl))
                  (try simp only [List.getElem_toArray, List.getElem_cons_succ, List.getElem_cons_zero, Act.put, List.setIfInBounds_toArray, List.set_cons_zero, List.set_cons_succ])
                  refine wpAnyH_done (by kernel_rfl) ?_ _
                  go_wp2_with fail
                  go_meet
                  exact ⟨_, rfl, rfl, nT6, hb6⟩
              case rest =>
                obtain ⟨GU, rfl, rfl, hr, hbu⟩ := hcut
                clear HCL
                rename World => wd
                have hswd : wc.heap.size ≤ wd.heap.size := hbu.size
                have H50 : Hid (Below w.heap.size w wd) := Lib.hid ((Below.trans H44.out (Below.mono hbu (Below.size H44.out))))
                have H51 : Hid (AlV wd (Off [u3.heap.size, u1.heap.size, w.heap.size]) (.agg (alc a.free a.seed a.fresh (.slice Ama a.macs.length cma) (.slice Aba a.boxes.length cba))) a) := Lib.hid ((AlV.below H45.out hbu (Nat.le_refl _)))
                have H52 : Hid (ALRow wd u1.heap.size a.free a.seed a.fresh (.slice Ama a.macs.length cma) (.slice Aba a.boxes.length cba)) := Lib.hid ((Whole.below H46.out hbu (Whole.lt H46.out)))
                have H53 : Hid (TGRow wd u3.heap.size K) := Lib.hid ((Whole.below H47.out hbu (Whole.lt H47.out)))
                have H54 : Hid (Below wv.heap.size wv wd) := Lib.hid ((Below.trans H48.out (Below.mono hbu (Below.size H48.out))))
                have H55 : Hid (TGRow wd GT T) := Lib.hid ((Whole.below H49.out hbu (Whole.lt H49.out)))
                clear H44 H45 H46 H47 H48 H49
                have H56 : Hid (TGRow wd GU U) := Lib.hid (hr)
                have hcl3 : wd.cell? ⟨g1, o1 + i, none⟩ = some (.slice A3 M.length c3) := (hbu.cell (p := ⟨g1, o1 + i, none⟩) hg1).trans hcl3
                have hg1 : g1 < wd.heap.size := by omega
                have HB3 := Lib.hid (HB3.out.below hbu (Nat.le_refl _))
                clear hr hbu
                have hTU := HET.out.trans HEU.out.symm
                injection hTU with e1 e2
                subst e1 e2
                have kq := fun W => neq_tag (D := false) hlT hlT (by simp) W
                have kb : (ok != ok) = false := by simp
                go_wp2_with (first
                  | (with_reducible refine wpList_load_wanted_at (by with_unfolding_all rfl) 23 _ rfl GT 0 rfl _ _ (TGRow.range H55.out) Tryd.underlying23 rfl (tag_sz hlT) ?_)
                  | (with_reducible refine wpList_load_wanted_at (by with_unfolding_all rfl) 23 _ rfl GU 0 rfl _ _ (TGRow.range H56.out) Tryd.underlying23 rfl (tag_sz hlT) ?_)
                  | (with_reducible refine wpList_load_tag rfl _ rfl rfl H55.out (tag_size hlT) ?_)
                  | (with_reducible refine wpList_load_tag rfl _ rfl rfl H56.out (tag_size hlT) ?_))
                clear kq
                go_roundw
                case rel => exact ⟨i + 1, by go_num, by omega, H54.out⟩
                case measure => simp [intOf]; omega
end Go.Proofs.YteglmfimgdgchaaDoor
