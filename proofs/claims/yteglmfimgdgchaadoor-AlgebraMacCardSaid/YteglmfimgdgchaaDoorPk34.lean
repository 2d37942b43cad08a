/-
  Rows of entries in blocks of a law's own.
  The law AlgebraFound.
-/
import Derived.Test.YteglmfimgdgchaaDoorPk20
import Derived.Test.YteglmfimgdgchaaDoorPk17
import Derived.Test.YteglmfimgdgchaaDoorPk25
import Derived.Deep.CutBlock
import Derived.Deep.RegionHeld3
import Derived.Deep.DeepCutAuto
import Derived.Test.YteglmfimgdgchaaDoorPk21
import Derived.Test.YteglmfimgdgchaaDoorPk3
import Derived.Test.YteglmfimgdgchaaDoorPk15
import Derived.Test.YteglmfimgdgchaaDoorPk27
namespace Go.Proofs.YteglmfimgdgchaaDoor
open Go Go.RowKit Sh Leaf

theorem zmr_lit : Tryd.zeroCells46 = zmr := by kernel_rfl
theorem mclm_size (X : MeM) : (mcl X).toArray.size = 65 := by rw [List.size_toArray, mcl_len]
theorem mcl_one1 (X : MeM) : (mcl X).toArray.all (·.oneCell') = true := all_oneCell_toArray (mcl_one X)
theorem mcl_sz (X : MeM) : (Tryd.prog.info? 46).map (·.size) = some (mcl X).length := by rw [macSize, mcl_len]
theorem wpList_store_mac {w : World} {g : Nat} {ops : Array Oper} {rest : List Oper} {o : Oper} {a : Act} {Q : Exit → Act → World → Prop} (hgd : o.guard = none) (x y : Operand) (ho : o.op = .store 46 x y)
    (hx : a.eval x = .pointer (some ⟨g, 0, none⟩)) {cs cs' : Array Value} (hy : a.eval y = .agg cs') (hg : Whole w g 46 cs) (h8 : cs.size = 65) (h8' : cs'.size = 65) (hone : cs'.all (·.oneCell') = true)
    (h : wpList Tryd.prog ops Q rest (a.put o.dst undef) (w.setRow g cs')) : wpList Tryd.prog ops Q (o :: rest) a w :=
  wpList_store_row hgd 46 x y ho g _ hx hy 46 _ hg (by rw [macSize, h8']) (by rw [h8, h8']) hone h
theorem MCRow.key {w : World} {g : Nat} {x : MeM} (h : Whole w g 46 (mcl x).toArray) (hk : x.e.key.length = 32) : w.rangeAt g 0 (x.e.key.map byt) := fun j v hj => by
  rw [Nat.zero_add, Whole.cell h]
  unfold mcl
  have hl := (List.getElem?_eq_some_iff.1 hj).1
  rw [List.length_map, hk] at hl
  rw [List.getElem?_toArray, List.getElem?_append_left (by rw [p32_cells]; exact hl), p32_eq hk]
  exact hj
theorem MCRow.msg {w : World} {g : Nat} {x : MeM} (h : Whole w g 46 (mcl x).toArray) : w.cell? ⟨g, 32, none⟩ = some (.slice x.A x.e.msg.length x.c) := by
  rw [Whole.cell h]
  unfold mcl
  rw [List.getElem?_toArray, List.getElem?_append_right (by rw [p32_cells]; omega), p32_cells]
  rfl
theorem MCRow.tag {w : World} {g : Nat} {x : MeM} (h : Whole w g 46 (mcl x).toArray) (ht : x.e.tag.length = 32) : w.rangeAt g 33 (x.e.tag.map byt) := fun j v hj => by
  rw [Whole.cell h]
  unfold mcl
  have hl := (List.getElem?_eq_some_iff.1 hj).1
  rw [List.length_map, ht] at hl
  rw [List.getElem?_toArray, List.getElem?_append_right (by rw [p32_cells]; omega), p32_cells, show 33 + j - 32 = j + 1 by omega, List.getElem?_cons_succ, p32_eq ht]
  exact hj
theorem alc_at (fr : Bool) (sd : List B8) (n : Int) (vm vb : Value) (j : Nat) : (alc fr sd n vm vb)[33 + j]? = ([.int .i64 n, vm, vb] : List Value)[j]? := by
  unfold alc alcl
  rw [List.getElem?_toArray, show 33 + j = (32 + j) + 1 by omega, List.getElem?_cons_succ, List.getElem?_append_right (by rw [p32_cells]; omega), p32_cells, show 32 + j - 32 = j by omega]
theorem alc_inj {fr fr' : Bool} {sd sd' : List B8} {n n' : Int} {vm vb vm' vb' : Value} (h : alc fr sd n vm vb = alc fr' sd' n' vm' vb') : vm = vm' ∧ vb = vb' := by
  have h1 := congrArg (fun c : Array Value => c[33 + 1]?) h
  have h2 := congrArg (fun c : Array Value => c[33 + 2]?) h
  simp only [alc_at] at h1 h2
  exact ⟨Option.some.inj h1, Option.some.inj h2⟩
theorem AlV.parts {w : World} {Q : Nat → Prop} {a : Alg} {Am Ab : Option Addr} {cm cb : Nat} (h : AlV w Q (.agg (alc a.free a.seed a.fresh (.slice Am a.macs.length cm) (.slice Ab a.boxes.length cb))) a) : Macs w Q Am cm a.macs ∧ Bxs w Q Ab cb a.boxes := by
  obtain ⟨Am', cm', Ab', cb', he, h1, h2, -⟩ := h
  injection he with he
  obtain ⟨e1, e2⟩ := alc_inj he
  injection e1 with e1 _ e3
  injection e2 with e4 _ e6
  subst e1 e3 e4 e6
  exact ⟨h1, h2⟩
theorem wpList_load_alg_w {w : World} {g : Nat} {fr : Bool} {sd : List B8} {n : Int} {vm vb : Value} {ops : Array Oper} {rest : List Oper} {o : Oper} {a : Act} {Q : Exit → Act → World → Prop} (hgd : Region.wanted o (yielded ops a.tmps) = true) (x : Operand) (ho : o.op = .load 28 x)
    (hx : a.eval x = .pointer (some ⟨g, 0, none⟩)) (hg : ALRow w g fr sd n vm vb) (h : wpList Tryd.prog ops Q rest (a.put o.dst (.agg (alc fr sd n vm vb))) w) : wpList Tryd.prog ops Q (o :: rest) a w :=
  wpList_load_wanted_at hgd 28 x ho g 0 hx (alcl fr sd n vm vb) _ (Whole.range hg) Tryd.underlying28 rfl (alg_sz _ _ _ _ _) h
namespace Sh
theorem good_look {a : Alg} {K m T : List B8} (h : GoodA a) (hf : fnd a.macs K m = some T) (hm : m.length ≤ 4096) : aLook a K m = (T, true) := by
  unfold aLook
  split
  · rw [hf]
  · rename_i hfr
    rw [if_neg (by omega)]
    obtain ⟨e, he, rfl, rfl, rfl⟩ := fnd_mem hf
    rw [h.cm (by simpa using hfr) e he]
theorem mac_fnd {a : Alg} {K m : List B8} (hm : m.length ≤ 4096) (ha : a.macs.length < 1000) : fnd (aMac a K m).1.macs K m = some (aMac a K m).2.1 := by
  unfold aMac
  rw [if_neg (by omega)]
  cases hf : fnd a.macs K m with
  | some t => simp only [hf]
  | none =>
    simp only
    rw [if_neg (by omega)]
    show fnd (a.macs ++ [_]) K m = _
    rw [fnd_snoc, hf]
    simp
theorem mac_again {a : Alg} {K m T : List B8} (hm : m.length ≤ 4096) (hf : fnd a.macs K m = some T) : aMac a K m = (a, T, 0) := by
  unfold aMac
  rw [if_neg (by omega)]
  simp only [hf]
theorem mac_mem {a : Alg} {K m : List B8} (hm : m.length ≤ 4096) (ha : a.macs.length < 1000) : ∀ e ∈ a.macs, e ∈ (aMac a K m).1.macs := by
  intro e he
  unfold aMac
  rw [if_neg (by omega)]
  split
  · exact he
  rw [if_neg (by omega)]
  exact List.mem_append_left _ he
theorem found_all {a b c : Alg} {K m T U V : List B8} {e f : Int} {ok : Bool} (hg : GoodA a) (ha : a.macs.length ≤ 4) (hm : m.length ≤ 200) (h1 : (b, T, e) = aMac a K m) (h2 : (U, ok) = aLook b K m) (h3 : (c, V, f) = aMac b K m) :
    e = 0 ∧ f = 0 ∧ ok = true ∧ U = T ∧ V = T ∧ c = b ∧ ∀ x ∈ a.macs, aLook b x.key x.msg = (x.tag, true) := by
  have hb : GoodA b := by have := good_mac (K := K) (m := m) hg; rw [← h1] at this; exact this
  have h4 := mac_fnd (K := K) (m := m) (by omega) (by omega : a.macs.length < 1000)
  rw [← h1] at h4
  have h4 : fnd b.macs K m = some T := h4
  rw [good_look hb h4 (by omega)] at h2
  rw [mac_again (by omega) h4] at h3
  have h5 := mac_ok (K := K) (m := m) (by omega) (by omega : a.macs.length < 1000)
  rw [← h1] at h5
  have h6 := mac_mem (K := K) (m := m) (by omega) (by omega : a.macs.length < 1000)
  rw [← h1] at h6
  injection h2 with e1 e2
  injection h3 with e3 e4
  injection e4 with e4 e5
  exact ⟨h5, e5, e2, e1, e4, e3, fun x hx => good_look hb (hb.fm x (h6 x hx)) (hg.lm x hx)⟩
end Sh
end Go.Proofs.YteglmfimgdgchaaDoor
namespace Go.Proofs.YteglmfimgdgchaaDoor
open Go Go.RowKit Sh Leaf

set_option linter.unusedSimpArgs false in
set_option linter.unusedVariables false in
set_option maxRecDepth 100000 in
set_option maxHeartbeats 8000000 in
theorem afound_law (A0 : Option Addr) (l0 : List Int) (c0 : Nat) {Q1 : Nat → Prop} (A1 : Option Addr) (x : List B8) (c1 : Nat) (w : World) (hT : Tables w) (hI0 : Ints w (fun b => b < w.heap.size) A0 c0 l0) (hB1 : Bytes w Q1 (.slice A1 x.length c1) x) :
    Calls Tryd.prog 6 #[.slice A0 l0.length c0, .slice A1 x.length c1] w fun e w' => e = .returned (.bool true) ∧ Below w.heap.size w w' := by
  have HT := Lib.hid hT
  clear hT
  have H1 : Hid (Below w.heap.size w w) := Lib.hid (Below.refl _ _)
  obtain ⟨n0, hn0⟩ : ∃ n, n = l0.length := ⟨_, rfl⟩
  rw [← hn0]
  have HI0 := Lib.hid hI0
  have HN0 := Lib.hid hn0
  clear hI0 hn0
  have H2 : Hid (Bytes w (Off []) (.slice A1 x.length c1) x) := Lib.hid (hB1.mono fun _ _ _ => by intro y hy; cases hy)
  clear hB1
  go_enter Tryd.func6, Tryd.ntmps6
  have hcl := ashort H2.out
  go_wp2_with fail
  refine hcl.mono ?_
  rintro e w1 ⟨⟨X, rfl, hqX, hbx⟩, hww⟩
  clear hcl
  replace hww := hww.symm
  subst hww
  clear H2
  have H3 : Hid (Bytes w (Off []) (.slice A1 X.length c1) X) := Lib.hid (hbx)
  clear hbx
  have hcl := dnew A0 _ c0 l0 w HN0.out ((HI0.out.below H1.out).mono (Below.size H1.out))
  go_wp2_with fail
  refine hcl.mono ?_
  rintro e d0 ⟨rfl, hdk, hbu⟩
  clear hcl
  have hsd0 : w.heap.size < d0.heap.size := hdk.lt
  have H4 : Hid (Bytes w (Off [w.heap.size]) (.slice A1 X.length c1) X) := Lib.hid (Bytes.grow H3.out (by omega))
  clear H3
  have H5 : Hid (Below w.heap.size w d0) := Lib.hid ((Below.trans H1.out (Below.mono hbu (Below.size H1.out))))
  have H6 : Hid (Bytes d0 (Off [w.heap.size]) (.slice A1 X.length c1) X) := Lib.hid ((Bytes.below H4.out hbu (Nat.le_refl _)))
  clear H1 H4
  have H7 : Hid (Deck w.heap.size d0) := Lib.hid (hdk)
  clear hdk hbu HI0 HN0
  have hcl := dalg w.heap.size d0 H7.out
  go_wp2_with fail
  refine hcl.mono ?_
  rintro e u1 ⟨⟨v, a, rfl, hv, h4a, hb4a, hf4a, hgd⟩, ht⟩
  clear hcl
  have HGa := Lib.hid hgd
  obtain ⟨Ama, cma, Aba, cba, rfl, hM, hBx, hA⟩ := hv
  have hsla : a.seed.length = 32 := hA.seed
  have hfra : 0 ≤ a.fresh := hA.lo
  have hsu1 : d0.heap.size ≤ u1.heap.size := Turn.size ht
  have H8 : Hid (Below w.heap.size w u1) := Lib.hid ((base_turn H5.out ht (by omega)))
  have H9 : Hid (Bytes u1 (Off [w.heap.size]) (.slice A1 X.length c1) X) := Lib.hid ((Bytes.turn H6.out ht (by simp)))
  have H10 : Hid (Deck w.heap.size u1) := Lib.hid ((ht).1)
  clear H5 H6 H7
  have H11 : Hid (AlV u1 (Off [w.heap.size]) (.agg (alc a.free a.seed a.fresh (.slice Ama a.macs.length cma) (.slice Aba a.boxes.length cba))) a) := Lib.hid (AlV.mono ⟨Ama, cma, Aba, cba, rfl, hM, hBx, hA⟩ (fun _ _ h => off_one h))
  clear hM hBx hA ht hgd
  have ks0 : ∀ z0 : Array Value, Whole (u1.alloc (.cells z0 28)) u1.heap.size 28 z0 := fun _ => (Whole.here _ _ _)
  go_upto_region 4 with (with_reducible refine wpList_store_alg rfl _ _ rfl (g := u1.heap.size) rfl rfl (ks0 _) rfl (alc_size _ _ _ _ _) (alc_one _ _ _ _ _ _ _ _ _) ?_)
  clear ks0
  rw [zar_lit]
  obtain ⟨q2, hq⟩ : ∃ q, q = ((u1.alloc (.cells zar 28)).setRow u1.heap.size (alc a.free a.seed a.fresh (.slice Ama a.macs.length cma) (.slice Aba a.boxes.length cba))) := ⟨_, rfl⟩
  rw [← hq]
  have hsq2 : u1.heap.size + 1 ≤ q2.heap.size := by rw [hq]; simp
  have H12 : Hid (Below w.heap.size w q2) := Lib.hid (by rw [hq]; exact (below_setRow (Below.trans H8.out (Below.mono (Below.alloc (Below.refl _ _) (Nat.le_refl _) _) (Below.size H8.out))) (by omega) _))
  have H13 : Hid (Bytes q2 (Off [u1.heap.size, w.heap.size]) (.slice A1 X.length c1) X) := Lib.hid (by rw [hq]; exact (Bytes.store (Bytes.below (Bytes.grow H9.out (by omega)) (Below.alloc (Below.refl _ _) (Nat.le_refl _) _) (Nat.le_refl _)) (by simp) _))
  have H14 : Hid (Deck w.heap.size q2) := Lib.hid (by rw [hq]; exact (Deck.store (Deck.below H10.out (Below.alloc (Below.refl _ _) (Nat.le_refl _) _) (Deck.lt H10.out)) (by omega) _))
  have H15 : Hid (AlV q2 (Off [u1.heap.size, w.heap.size]) (.agg (alc a.free a.seed a.fresh (.slice Ama a.macs.length cma) (.slice Aba a.boxes.length cba))) a) := Lib.hid (by rw [hq]; exact (AlV.store (AlV.below (AlV.grow H11.out (by omega)) (Below.alloc (Below.refl _ _) (Nat.le_refl _) _) (Nat.le_refl _)) (by simp) _))
  clear H8 H9 H10 H11
  have H16 : Hid (ALRow q2 u1.heap.size a.free a.seed a.fresh (.slice Ama a.macs.length cma) (.slice Aba a.boxes.length cba)) := Lib.hid (by rw [hq]; exact (Whole.setRow (Whole.here _ _ _) _))
  clear hq
  have hcl := dknown w.heap.size q2 H14.out H15.out (fun b h => h _ (by simp))
  go_wp2_with (with_reducible refine wpList_load_alg rfl _ rfl rfl H16.out (alc_size _ _ _ _ _) ?_)
  refine hcl.mono ?_
  rintro e u3 ⟨⟨K, hlK, rfl⟩, ht⟩
  clear hcl
  have hsu3 : q2.heap.size ≤ u3.heap.size := Turn.size ht
  have H17 : Hid (Below w.heap.size w u3) := Lib.hid ((base_turn H12.out ht (by omega)))
  have H18 : Hid (Bytes u3 (Off [u1.heap.size, w.heap.size]) (.slice A1 X.length c1) X) := Lib.hid ((Bytes.turn H13.out ht (by simp)))
  have H19 : Hid (Deck w.heap.size u3) := Lib.hid ((ht).1)
  have H20 : Hid (AlV u3 (Off [u1.heap.size, w.heap.size]) (.agg (alc a.free a.seed a.fresh (.slice Ama a.macs.length cma) (.slice Aba a.boxes.length cba))) a) := Lib.hid ((AlV.turn H15.out ht (by simp) (Turn.size ht)))
  have H21 : Hid (ALRow u3 u1.heap.size a.free a.seed a.fresh (.slice Ama a.macs.length cma) (.slice Aba a.boxes.length cba)) := Lib.hid (((ht).2.2.oth _ _ _ (by omega) H16.out))
  clear H12 H13 H14 H15 H16
  clear ht
  have ks0 : ∀ z0 : Array Value, Whole (u3.alloc (.cells z0 23)) u3.heap.size 23 z0 := fun _ => (Whole.here _ _ _)
  go_upto_region 5 with (with_reducible refine wpList_store_tag rfl _ _ rfl (g := u3.heap.size) rfl rfl (ks0 _) rfl (tag_size hlK) (tag_one _) ?_)
  clear ks0
  rw [ztr_lit]
  obtain ⟨q4, hq⟩ : ∃ q, q = ((u3.alloc (.cells ztr 23)).setRow u3.heap.size (K.map byt).toArray) := ⟨_, rfl⟩
  rw [← hq]
  have hsq4 : u3.heap.size + 1 ≤ q4.heap.size := by rw [hq]; simp
  have H22 : Hid (Below w.heap.size w q4) := Lib.hid (by rw [hq]; exact (below_setRow (Below.trans H17.out (Below.mono (Below.alloc (Below.refl _ _) (Nat.le_refl _) _) (Below.size H17.out))) (by omega) _))
  have H23 : Hid (Bytes q4 (Off [u3.heap.size, u1.heap.size, w.heap.size]) (.slice A1 X.length c1) X) := Lib.hid (by rw [hq]; exact (Bytes.store (Bytes.below (Bytes.grow H18.out (by omega)) (Below.alloc (Below.refl _ _) (Nat.le_refl _) _) (Nat.le_refl _)) (by simp) _))
  have H24 : Hid (Deck w.heap.size q4) := Lib.hid (by rw [hq]; exact (Deck.store (Deck.below H19.out (Below.alloc (Below.refl _ _) (Nat.le_refl _) _) (Deck.lt H19.out)) (by omega) _))
  have H25 : Hid (AlV q4 (Off [u3.heap.size, u1.heap.size, w.heap.size]) (.agg (alc a.free a.seed a.fresh (.slice Ama a.macs.length cma) (.slice Aba a.boxes.length cba))) a) := Lib.hid (by rw [hq]; exact (AlV.store (AlV.below (AlV.grow H20.out (by omega)) (Below.alloc (Below.refl _ _) (Nat.le_refl _) _) (Nat.le_refl _)) (by simp) _))
  have H26 : Hid (ALRow q4 u1.heap.size a.free a.seed a.fresh (.slice Ama a.macs.length cma) (.slice Aba a.boxes.length cba)) := Lib.hid (by rw [hq]; exact (Whole.setRow_far (Whole.below H21.out (Below.alloc (Below.refl _ _) (Nat.le_refl _) _) (Whole.lt H21.out)) (by omega) _))
  clear H17 H18 H19 H20 H21
  have H27 : Hid (TGRow q4 u3.heap.size K) := Lib.hid (by rw [hq]; exact (Whole.setRow (Whole.here _ _ _) _))
  clear hq
  have hcl := pmac (m := X) H25.out (by omega) hlK H23.out (by omega) (Tables.below HT.out (Nat.le_refl _) H22.out)
  obtain ⟨R, hR⟩ : ∃ R, R = aMac a K X := ⟨_, rfl⟩
  have hlT : R.2.1.length = 32 := by rw [hR]; exact AlV.mac_len H25.out _ _
  rw [← hR] at hcl
  obtain ⟨b, T, eT⟩ := R
  have HEb := Lib.hid hR
  clear hR
  dsimp only [AlgR] at hcl hlT
  go_wp2_with (first
    | (with_reducible refine wpList_load_alg rfl _ rfl rfl H26.out (alc_size _ _ _ _ _) ?_)
    | (with_reducible refine wpList_load_tag rfl _ rfl rfl H27.out (tag_size hlK) ?_))
  refine hcl.mono ?_
  rintro e u5 ⟨⟨x, rfl, hx⟩, hbu⟩
  clear hcl
  obtain ⟨Amb, cmb, Abb, cbb, rfl, hM, hBx, hA⟩ := hx
  have hsu5 : q4.heap.size ≤ u5.heap.size := hbu.size
  have hlast : ∀ y ∈ ([u3.heap.size, u1.heap.size, w.heap.size] : List Nat), y < q4.heap.size := by intro y hy; simp at hy; have := (Whole.lt H27.out); omega
  have H28 : Hid (Below w.heap.size w u5) := Lib.hid ((Below.trans H22.out (Below.mono hbu (Below.size H22.out))))
  have H29 : Hid (Bytes u5 (Off [u3.heap.size, u1.heap.size, w.heap.size]) (.slice A1 X.length c1) X) := Lib.hid ((Bytes.below H23.out hbu (Nat.le_refl _)))
  have H30 : Hid (Deck w.heap.size u5) := Lib.hid ((Deck.below H24.out hbu (Deck.lt H24.out)))
  have H31 : Hid (AlV u5 (Off [u3.heap.size, u1.heap.size, w.heap.size]) (.agg (alc a.free a.seed a.fresh (.slice Ama a.macs.length cma) (.slice Aba a.boxes.length cba))) a) := Lib.hid ((AlV.below H25.out hbu (Nat.le_refl _)))
  have H32 : Hid (ALRow u5 u1.heap.size a.free a.seed a.fresh (.slice Ama a.macs.length cma) (.slice Aba a.boxes.length cba)) := Lib.hid ((Whole.below H26.out hbu (Whole.lt H26.out)))
  have H33 : Hid (TGRow u5 u3.heap.size K) := Lib.hid ((Whole.below H27.out hbu (Whole.lt H27.out)))
  clear H22 H23 H24 H25 H26 H27
  have H34 : Hid (AlV u5 (Off [u3.heap.size, u1.heap.size, w.heap.size]) (.agg (alc b.free b.seed b.fresh (.slice Amb b.macs.length cmb) (.slice Abb b.boxes.length cbb))) b) := Lib.hid (AlV.fresh ⟨Amb, cmb, Abb, cbb, rfl, hM, hBx, hA⟩ hlast)
  clear hM hBx hA hbu hlast
  have hnb : b.macs.length ≤ a.macs.length + 1 := by have := mac_le a K X; rw [← HEb.out] at this; exact this
  have ks0 : ∀ z0 z1 : Array Value, Whole ((u5.alloc (.cells z0 28)).alloc (.cells z1 23)) u5.heap.size 28 z0 := fun _ _ => (Whole.alloc (Whole.here _ _ _) _)
  have ks1 : ∀ z0 z1 : Array Value, Whole (((u5.alloc (.cells z0 28)).alloc (.cells z1 23)).setRow u5.heap.size (alc b.free b.seed b.fresh (.slice Amb b.macs.length cmb) (.slice Abb b.boxes.length cbb))) (u5.heap.size + 1) 23 z1 := fun _ _ => (Whole.setRow_far (Whole.at_ _ _ _ _ (by simp)) (by omega) _)
  go_upto_region 6 with (first
    | (with_reducible refine wpList_store_alg rfl _ _ rfl (g := u5.heap.size) rfl rfl (ks0 _ _) rfl (alc_size _ _ _ _ _) (alc_one _ _ _ _ _ _ _ _ _) ?_)
    | (with_reducible refine wpList_store_tag rfl _ _ rfl (g := (u5.heap.size + 1)) rfl rfl (ks1 _ _) rfl (tag_size hlT) (tag_one _) ?_))
  clear ks0 ks1
  rw [ztr_lit]
  rw [zar_lit]
  obtain ⟨q6, hq⟩ : ∃ q, q = ((((u5.alloc (.cells zar 28)).alloc (.cells ztr 23)).setRow u5.heap.size (alc b.free b.seed b.fresh (.slice Amb b.macs.length cmb) (.slice Abb b.boxes.length cbb))).setRow (u5.heap.size + 1) (T.map byt).toArray) := ⟨_, rfl⟩
  rw [← hq]
  have hsq6 : u5.heap.size + 2 ≤ q6.heap.size := by rw [hq]; simp
  have H35 : Hid (Below w.heap.size w q6) := Lib.hid (by rw [hq]; exact (below_setRow (below_setRow (Below.trans H28.out (Below.mono (Below.alloc (Below.alloc (Below.refl _ _) (Nat.le_refl _) _) (by simp) _) (Below.size H28.out))) (by omega) _) (by omega) _))
  have H36 : Hid (Bytes q6 (Off [(u5.heap.size + 1), u5.heap.size, u3.heap.size, u1.heap.size, w.heap.size]) (.slice A1 X.length c1) X) := Lib.hid (by rw [hq]; exact (Bytes.store (Bytes.store (Bytes.below (Bytes.grow (Bytes.grow H29.out (by omega)) (by omega)) (Below.alloc (Below.alloc (Below.refl _ _) (Nat.le_refl _) _) (by simp) _) (Nat.le_refl _)) (by simp) _) (by simp) _))
  have H37 : Hid (Deck w.heap.size q6) := Lib.hid (by rw [hq]; exact (Deck.store (Deck.store (Deck.below H30.out (Below.alloc (Below.alloc (Below.refl _ _) (Nat.le_refl _) _) (by simp) _) (Deck.lt H30.out)) (by omega) _) (by omega) _))
  have H38 : Hid (AlV q6 (Off [(u5.heap.size + 1), u5.heap.size, u3.heap.size, u1.heap.size, w.heap.size]) (.agg (alc a.free a.seed a.fresh (.slice Ama a.macs.length cma) (.slice Aba a.boxes.length cba))) a) := Lib.hid (by rw [hq]; exact (AlV.store (AlV.store (AlV.below (AlV.grow (AlV.grow H31.out (by omega)) (by omega)) (Below.alloc (Below.alloc (Below.refl _ _) (Nat.le_refl _) _) (by simp) _) (Nat.le_refl _)) (by simp) _) (by simp) _))
  have H39 : Hid (ALRow q6 u1.heap.size a.free a.seed a.fresh (.slice Ama a.macs.length cma) (.slice Aba a.boxes.length cba)) := Lib.hid (by rw [hq]; exact (Whole.setRow_far (Whole.setRow_far (Whole.below H32.out (Below.alloc (Below.alloc (Below.refl _ _) (Nat.le_refl _) _) (by simp) _) (Whole.lt H32.out)) (by omega) _) (by omega) _))
  have H40 : Hid (TGRow q6 u3.heap.size K) := Lib.hid (by rw [hq]; exact (Whole.setRow_far (Whole.setRow_far (Whole.below H33.out (Below.alloc (Below.alloc (Below.refl _ _) (Nat.le_refl _) _) (by simp) _) (Whole.lt H33.out)) (by omega) _) (by omega) _))
  have H41 : Hid (AlV q6 (Off [(u5.heap.size + 1), u5.heap.size, u3.heap.size, u1.heap.size, w.heap.size]) (.agg (alc b.free b.seed b.fresh (.slice Amb b.macs.length cmb) (.slice Abb b.boxes.length cbb))) b) := Lib.hid (by rw [hq]; exact (AlV.store (AlV.store (AlV.below (AlV.grow (AlV.grow H34.out (by omega)) (by omega)) (Below.alloc (Below.alloc (Below.refl _ _) (Nat.le_refl _) _) (by simp) _) (Nat.le_refl _)) (by simp) _) (by simp) _))
  clear H28 H29 H30 H31 H32 H33 H34
  have H42 : Hid (ALRow q6 u5.heap.size b.free b.seed b.fresh (.slice Amb b.macs.length cmb) (.slice Abb b.boxes.length cbb)) := Lib.hid (by rw [hq]; exact (Whole.setRow_far (Whole.setRow (Whole.alloc (Whole.here _ _ _) _) _) (by omega) _))
  have H43 : Hid (TGRow q6 (u5.heap.size + 1) T) := Lib.hid (by rw [hq]; exact (Whole.setRow (Whole.setRow_far (Whole.at_ _ _ _ _ (by simp)) (by omega) _) _))
  clear hq
  have hcl := plook (m := X) H41.out hlK H36.out (by omega) (Tables.below HT.out (Nat.le_refl _) H35.out)
  obtain ⟨R, hR⟩ : ∃ R, R = aLook b K X := ⟨_, rfl⟩
  have hlU : R.1.length = 32 := by rw [hR]; exact AlV.look_len H41.out _ _
  rw [← hR] at hcl
  obtain ⟨U, ok⟩ := R
  have HEU := Lib.hid hR
  clear hR
  dsimp only [lres] at hcl hlU
  go_wp2_with (first
    | (with_reducible refine wpList_load_alg rfl _ rfl rfl H42.out (alc_size _ _ _ _ _) ?_)
    | (with_reducible refine wpList_load_tag rfl _ rfl rfl H40.out (tag_size hlK) ?_))
  refine hcl.mono ?_
  rintro e u7 ⟨rfl, hbu⟩
  clear hcl
  have hsu7 : q6.heap.size ≤ u7.heap.size := hbu.size
  have H44 : Hid (Below w.heap.size w u7) := Lib.hid ((Below.trans H35.out (Below.mono hbu (Below.size H35.out))))
  have H45 : Hid (Bytes u7 (Off [(u5.heap.size + 1), u5.heap.size, u3.heap.size, u1.heap.size, w.heap.size]) (.slice A1 X.length c1) X) := Lib.hid ((Bytes.below H36.out hbu (Nat.le_refl _)))
  have H46 : Hid (Deck w.heap.size u7) := Lib.hid ((Deck.below H37.out hbu (Deck.lt H37.out)))
  have H47 : Hid (AlV u7 (Off [(u5.heap.size + 1), u5.heap.size, u3.heap.size, u1.heap.size, w.heap.size]) (.agg (alc a.free a.seed a.fresh (.slice Ama a.macs.length cma) (.slice Aba a.boxes.length cba))) a) := Lib.hid ((AlV.below H38.out hbu (Nat.le_refl _)))
  have H48 : Hid (ALRow u7 u1.heap.size a.free a.seed a.fresh (.slice Ama a.macs.length cma) (.slice Aba a.boxes.length cba)) := Lib.hid ((Whole.below H39.out hbu (Whole.lt H39.out)))
  have H49 : Hid (TGRow u7 u3.heap.size K) := Lib.hid ((Whole.below H40.out hbu (Whole.lt H40.out)))
  have H50 : Hid (AlV u7 (Off [(u5.heap.size + 1), u5.heap.size, u3.heap.size, u1.heap.size, w.heap.size]) (.agg (alc b.free b.seed b.fresh (.slice Amb b.macs.length cmb) (.slice Abb b.boxes.length cbb))) b) := Lib.hid ((AlV.below H41.out hbu (Nat.le_refl _)))
  have H51 : Hid (ALRow u7 u5.heap.size b.free b.seed b.fresh (.slice Amb b.macs.length cmb) (.slice Abb b.boxes.length cbb)) := Lib.hid ((Whole.below H42.out hbu (Whole.lt H42.out)))
  have H52 : Hid (TGRow u7 (u5.heap.size + 1) T) := Lib.hid ((Whole.below H43.out hbu (Whole.lt H43.out)))
  clear H35 H36 H37 H38 H39 H40 H41 H42 H43
  clear hbu
  have ks0 : ∀ z0 : Array Value, Whole (u7.alloc (.cells z0 23)) u7.heap.size 23 z0 := fun _ => (Whole.here _ _ _)
  go_upto_region 7 with (with_reducible refine wpList_store_tag rfl _ _ rfl (g := u7.heap.size) rfl rfl (ks0 _) rfl (tag_size hlU) (tag_one _) ?_)
  clear ks0
  rw [ztr_lit]
  obtain ⟨q8, hq⟩ : ∃ q, q = ((u7.alloc (.cells ztr 23)).setRow u7.heap.size (U.map byt).toArray) := ⟨_, rfl⟩
  rw [← hq]
  have hsq8 : u7.heap.size + 1 ≤ q8.heap.size := by rw [hq]; simp
  have H53 : Hid (Below w.heap.size w q8) := Lib.hid (by rw [hq]; exact (below_setRow (Below.trans H44.out (Below.mono (Below.alloc (Below.refl _ _) (Nat.le_refl _) _) (Below.size H44.out))) (by omega) _))
  have H54 : Hid (Bytes q8 (Off [u7.heap.size, (u5.heap.size + 1), u5.heap.size, u3.heap.size, u1.heap.size, w.heap.size]) (.slice A1 X.length c1) X) := Lib.hid (by rw [hq]; exact (Bytes.store (Bytes.below (Bytes.grow H45.out (by omega)) (Below.alloc (Below.refl _ _) (Nat.le_refl _) _) (Nat.le_refl _)) (by simp) _))
  have H55 : Hid (Deck w.heap.size q8) := Lib.hid (by rw [hq]; exact (Deck.store (Deck.below H46.out (Below.alloc (Below.refl _ _) (Nat.le_refl _) _) (Deck.lt H46.out)) (by omega) _))
  have H56 : Hid (AlV q8 (Off [u7.heap.size, (u5.heap.size + 1), u5.heap.size, u3.heap.size, u1.heap.size, w.heap.size]) (.agg (alc a.free a.seed a.fresh (.slice Ama a.macs.length cma) (.slice Aba a.boxes.length cba))) a) := Lib.hid (by rw [hq]; exact (AlV.store (AlV.below (AlV.grow H47.out (by omega)) (Below.alloc (Below.refl _ _) (Nat.le_refl _) _) (Nat.le_refl _)) (by simp) _))
  have H57 : Hid (ALRow q8 u1.heap.size a.free a.seed a.fresh (.slice Ama a.macs.length cma) (.slice Aba a.boxes.length cba)) := Lib.hid (by rw [hq]; exact (Whole.setRow_far (Whole.below H48.out (Below.alloc (Below.refl _ _) (Nat.le_refl _) _) (Whole.lt H48.out)) (by omega) _))
  have H58 : Hid (TGRow q8 u3.heap.size K) := Lib.hid (by rw [hq]; exact (Whole.setRow_far (Whole.below H49.out (Below.alloc (Below.refl _ _) (Nat.le_refl _) _) (Whole.lt H49.out)) (by omega) _))
  have H59 : Hid (AlV q8 (Off [u7.heap.size, (u5.heap.size + 1), u5.heap.size, u3.heap.size, u1.heap.size, w.heap.size]) (.agg (alc b.free b.seed b.fresh (.slice Amb b.macs.length cmb) (.slice Abb b.boxes.length cbb))) b) := Lib.hid (by rw [hq]; exact (AlV.store (AlV.below (AlV.grow H50.out (by omega)) (Below.alloc (Below.refl _ _) (Nat.le_refl _) _) (Nat.le_refl _)) (by simp) _))
  have H60 : Hid (ALRow q8 u5.heap.size b.free b.seed b.fresh (.slice Amb b.macs.length cmb) (.slice Abb b.boxes.length cbb)) := Lib.hid (by rw [hq]; exact (Whole.setRow_far (Whole.below H51.out (Below.alloc (Below.refl _ _) (Nat.le_refl _) _) (Whole.lt H51.out)) (by omega) _))
  have H61 : Hid (TGRow q8 (u5.heap.size + 1) T) := Lib.hid (by rw [hq]; exact (Whole.setRow_far (Whole.below H52.out (Below.alloc (Below.refl _ _) (Nat.le_refl _) _) (Whole.lt H52.out)) (by omega) _))
  clear H44 H45 H46 H47 H48 H49 H50 H51 H52
  have H62 : Hid (TGRow q8 u7.heap.size U) := Lib.hid (by rw [hq]; exact (Whole.setRow (Whole.here _ _ _) _))
  clear hq
  have hcl := pmac (m := X) H59.out (by omega) hlK H54.out (by omega) (Tables.below HT.out (Nat.le_refl _) H53.out)
  obtain ⟨R, hR⟩ : ∃ R, R = aMac b K X := ⟨_, rfl⟩
  have hlV : R.2.1.length = 32 := by rw [hR]; exact AlV.mac_len H59.out _ _
  rw [← hR] at hcl
  obtain ⟨c, V, eV⟩ := R
  have HEc := Lib.hid hR
  clear hR
  dsimp only [AlgR] at hcl hlV
  go_wp2_with (first
    | (with_reducible refine wpList_load_alg rfl _ rfl rfl H60.out (alc_size _ _ _ _ _) ?_)
    | (with_reducible refine wpList_load_tag rfl _ rfl rfl H58.out (tag_size hlK) ?_))
  refine hcl.mono ?_
  rintro e u9 ⟨⟨x, rfl, hx⟩, hbu⟩
  clear hcl
  obtain ⟨Amc, cmc, Abc, cbc, rfl, hM, hBx, hA⟩ := hx
  have hsu9 : q8.heap.size ≤ u9.heap.size := hbu.size
  have hlast : ∀ y ∈ ([u7.heap.size, (u5.heap.size + 1), u5.heap.size, u3.heap.size, u1.heap.size, w.heap.size] : List Nat), y < q8.heap.size := by intro y hy; simp at hy; have := (Whole.lt H62.out); omega
  have H63 : Hid (Below w.heap.size w u9) := Lib.hid ((Below.trans H53.out (Below.mono hbu (Below.size H53.out))))
  have H64 : Hid (Bytes u9 (Off [u7.heap.size, (u5.heap.size + 1), u5.heap.size, u3.heap.size, u1.heap.size, w.heap.size]) (.slice A1 X.length c1) X) := Lib.hid ((Bytes.below H54.out hbu (Nat.le_refl _)))
  have H65 : Hid (Deck w.heap.size u9) := Lib.hid ((Deck.below H55.out hbu (Deck.lt H55.out)))
  have H66 : Hid (AlV u9 (Off [u7.heap.size, (u5.heap.size + 1), u5.heap.size, u3.heap.size, u1.heap.size, w.heap.size]) (.agg (alc a.free a.seed a.fresh (.slice Ama a.macs.length cma) (.slice Aba a.boxes.length cba))) a) := Lib.hid ((AlV.below H56.out hbu (Nat.le_refl _)))
  have H67 : Hid (ALRow u9 u1.heap.size a.free a.seed a.fresh (.slice Ama a.macs.length cma) (.slice Aba a.boxes.length cba)) := Lib.hid ((Whole.below H57.out hbu (Whole.lt H57.out)))
  have H68 : Hid (TGRow u9 u3.heap.size K) := Lib.hid ((Whole.below H58.out hbu (Whole.lt H58.out)))
  have H69 : Hid (AlV u9 (Off [u7.heap.size, (u5.heap.size + 1), u5.heap.size, u3.heap.size, u1.heap.size, w.heap.size]) (.agg (alc b.free b.seed b.fresh (.slice Amb b.macs.length cmb) (.slice Abb b.boxes.length cbb))) b) := Lib.hid ((AlV.below H59.out hbu (Nat.le_refl _)))
  have H70 : Hid (ALRow u9 u5.heap.size b.free b.seed b.fresh (.slice Amb b.macs.length cmb) (.slice Abb b.boxes.length cbb)) := Lib.hid ((Whole.below H60.out hbu (Whole.lt H60.out)))
  have H71 : Hid (TGRow u9 (u5.heap.size + 1) T) := Lib.hid ((Whole.below H61.out hbu (Whole.lt H61.out)))
  have H72 : Hid (TGRow u9 u7.heap.size U) := Lib.hid ((Whole.below H62.out hbu (Whole.lt H62.out)))
  clear H53 H54 H55 H56 H57 H58 H59 H60 H61 H62
  have H73 : Hid (AlV u9 (Off [u7.heap.size, (u5.heap.size + 1), u5.heap.size, u3.heap.size, u1.heap.size, w.heap.size]) (.agg (alc c.free c.seed c.fresh (.slice Amc c.macs.length cmc) (.slice Abc c.boxes.length cbc))) c) := Lib.hid (AlV.fresh ⟨Amc, cmc, Abc, cbc, rfl, hM, hBx, hA⟩ hlast)
  clear hM hBx hA hbu hlast
  have hnc : c.macs.length ≤ b.macs.length + 1 := by have := mac_le b K X; rw [← HEc.out] at this; exact this
  have ks0 : ∀ z0 z1 : Array Value, Whole ((u9.alloc (.cells z0 28)).alloc (.cells z1 23)) u9.heap.size 28 z0 := fun _ _ => (Whole.alloc (Whole.here _ _ _) _)
  have ks1 : ∀ z0 z1 : Array Value, Whole (((u9.alloc (.cells z0 28)).alloc (.cells z1 23)).setRow u9.heap.size (alc c.free c.seed c.fresh (.slice Amc c.macs.length cmc) (.slice Abc c.boxes.length cbc))) (u9.heap.size + 1) 23 z1 := fun _ _ => (Whole.setRow_far (Whole.at_ _ _ _ _ (by simp)) (by omega) _)
  go_upto_region 8 with (first
    | (with_reducible refine wpList_store_alg rfl _ _ rfl (g := u9.heap.size) rfl rfl (ks0 _ _) rfl (alc_size _ _ _ _ _) (alc_one _ _ _ _ _ _ _ _ _) ?_)
    | (with_reducible refine wpList_store_tag rfl _ _ rfl (g := (u9.heap.size + 1)) rfl rfl (ks1 _ _) rfl (tag_size hlV) (tag_one _) ?_))
  clear ks0 ks1
  rw [ztr_lit]
  rw [zar_lit]
  obtain ⟨q10, hq⟩ : ∃ q, q = ((((u9.alloc (.cells zar 28)).alloc (.cells ztr 23)).setRow u9.heap.size (alc c.free c.seed c.fresh (.slice Amc c.macs.length cmc) (.slice Abc c.boxes.length cbc))).setRow (u9.heap.size + 1) (V.map byt).toArray) := ⟨_, rfl⟩
  rw [← hq]
  have hsq10 : u9.heap.size + 2 ≤ q10.heap.size := by rw [hq]; simp
  have H74 : Hid (Below w.heap.size w q10) := Lib.hid (by rw [hq]; exact (below_setRow (below_setRow (Below.trans H63.out (Below.mono (Below.alloc (Below.alloc (Below.refl _ _) (Nat.le_refl _) _) (by simp) _) (Below.size H63.out))) (by omega) _) (by omega) _))
  have H75 : Hid (Bytes q10 (Off [(u9.heap.size + 1), u9.heap.size, u7.heap.size, (u5.heap.size + 1), u5.heap.size, u3.heap.size, u1.heap.size, w.heap.size]) (.slice A1 X.length c1) X) := Lib.hid (by rw [hq]; exact (Bytes.store (Bytes.store (Bytes.below (Bytes.grow (Bytes.grow H64.out (by omega)) (by omega)) (Below.alloc (Below.alloc (Below.refl _ _) (Nat.le_refl _) _) (by simp) _) (Nat.le_refl _)) (by simp) _) (by simp) _))
  have H76 : Hid (Deck w.heap.size q10) := Lib.hid (by rw [hq]; exact (Deck.store (Deck.store (Deck.below H65.out (Below.alloc (Below.alloc (Below.refl _ _) (Nat.le_refl _) _) (by simp) _) (Deck.lt H65.out)) (by omega) _) (by omega) _))
  have H77 : Hid (AlV q10 (Off [(u9.heap.size + 1), u9.heap.size, u7.heap.size, (u5.heap.size + 1), u5.heap.size, u3.heap.size, u1.heap.size, w.heap.size]) (.agg (alc a.free a.seed a.fresh (.slice Ama a.macs.length cma) (.slice Aba a.boxes.length cba))) a) := Lib.hid (by rw [hq]; exact (AlV.store (AlV.store (AlV.below (AlV.grow (AlV.grow H66.out (by omega)) (by omega)) (Below.alloc (Below.alloc (Below.refl _ _) (Nat.le_refl _) _) (by simp) _) (Nat.le_refl _)) (by simp) _) (by simp) _))
  have H78 : Hid (ALRow q10 u1.heap.size a.free a.seed a.fresh (.slice Ama a.macs.length cma) (.slice Aba a.boxes.length cba)) := Lib.hid (by rw [hq]; exact (Whole.setRow_far (Whole.setRow_far (Whole.below H67.out (Below.alloc (Below.alloc (Below.refl _ _) (Nat.le_refl _) _) (by simp) _) (Whole.lt H67.out)) (by omega) _) (by omega) _))
  have H79 : Hid (TGRow q10 u3.heap.size K) := Lib.hid (by rw [hq]; exact (Whole.setRow_far (Whole.setRow_far (Whole.below H68.out (Below.alloc (Below.alloc (Below.refl _ _) (Nat.le_refl _) _) (by simp) _) (Whole.lt H68.out)) (by omega) _) (by omega) _))
  have H80 : Hid (AlV q10 (Off [(u9.heap.size + 1), u9.heap.size, u7.heap.size, (u5.heap.size + 1), u5.heap.size, u3.heap.size, u1.heap.size, w.heap.size]) (.agg (alc b.free b.seed b.fresh (.slice Amb b.macs.length cmb) (.slice Abb b.boxes.length cbb))) b) := Lib.hid (by rw [hq]; exact (AlV.store (AlV.store (AlV.below (AlV.grow (AlV.grow H69.out (by omega)) (by omega)) (Below.alloc (Below.alloc (Below.refl _ _) (Nat.le_refl _) _) (by simp) _) (Nat.le_refl _)) (by simp) _) (by simp) _))
  have H81 : Hid (ALRow q10 u5.heap.size b.free b.seed b.fresh (.slice Amb b.macs.length cmb) (.slice Abb b.boxes.length cbb)) := Lib.hid (by rw [hq]; exact (Whole.setRow_far (Whole.setRow_far (Whole.below H70.out (Below.alloc (Below.alloc (Below.refl _ _) (Nat.le_refl _) _) (by simp) _) (Whole.lt H70.out)) (by omega) _) (by omega) _))
  have H82 : Hid (TGRow q10 (u5.heap.size + 1) T) := Lib.hid (by rw [hq]; exact (Whole.setRow_far (Whole.setRow_far (Whole.below H71.out (Below.alloc (Below.alloc (Below.refl _ _) (Nat.le_refl _) _) (by simp) _) (Whole.lt H71.out)) (by omega) _) (by omega) _))
  have H83 : Hid (TGRow q10 u7.heap.size U) := Lib.hid (by rw [hq]; exact (Whole.setRow_far (Whole.setRow_far (Whole.below H72.out (Below.alloc (Below.alloc (Below.refl _ _) (Nat.le_refl _) _) (by simp) _) (Whole.lt H72.out)) (by omega) _) (by omega) _))
  have H84 : Hid (AlV q10 (Off [(u9.heap.size + 1), u9.heap.size, u7.heap.size, (u5.heap.size + 1), u5.heap.size, u3.heap.size, u1.heap.size, w.heap.size]) (.agg (alc c.free c.seed c.fresh (.slice Amc c.macs.length cmc) (.slice Abc c.boxes.length cbc))) c) := Lib.hid (by rw [hq]; exact (AlV.store (AlV.store (AlV.below (AlV.grow (AlV.grow H73.out (by omega)) (by omega)) (Below.alloc (Below.alloc (Below.refl _ _) (Nat.le_refl _) _) (by simp) _) (Nat.le_refl _)) (by simp) _) (by simp) _))
  clear H63 H64 H65 H66 H67 H68 H69 H70 H71 H72 H73
  have H85 : Hid (ALRow q10 u9.heap.size c.free c.seed c.fresh (.slice Amc c.macs.length cmc) (.slice Abc c.boxes.length cbc)) := Lib.hid (by rw [hq]; exact (Whole.setRow_far (Whole.setRow (Whole.alloc (Whole.here _ _ _) _) _) (by omega) _))
  have H86 : Hid (TGRow q10 (u9.heap.size + 1) V) := Lib.hid (by rw [hq]; exact (Whole.setRow (Whole.setRow_far (Whole.at_ _ _ _ _ (by simp)) (by omega) _) _))
  clear hq
  obtain ⟨rfl, rfl, rfl, e1, e2, e3, hall⟩ := found_all HGa.out h4a hqX HEb.out HEU.out HEc.out
  have HALL := Lib.hid hall
  clear hall
  subst e1 e2 e3
  have kq := fun W => neq_tag (D := false) hlV hlV (by simp) W
  have hcl := rsamea H80.out H84.out
  go_wp2_with (first
    | (with_reducible refine wpList_load_wanted_at (by with_unfolding_all rfl) 23 _ rfl (u5.heap.size + 1) 0 rfl _ _ (TGRow.range H82.out) Tryd.underlying23 rfl (tag_sz hlV) ?_)
    | (with_reducible refine wpList_load_wanted_at (by with_unfolding_all rfl) 23 _ rfl u7.heap.size 0 rfl _ _ (TGRow.range H83.out) Tryd.underlying23 rfl (tag_sz hlV) ?_)
    | (with_reducible refine wpList_load_wanted_at (by with_unfolding_all rfl) 23 _ rfl (u9.heap.size + 1) 0 rfl _ _ (TGRow.range H86.out) Tryd.underlying23 rfl (tag_sz hlV) ?_)
    | (with_reducible refine wpList_load_alg_w (by with_unfolding_all rfl) _ rfl rfl H81.out ?_)
    | (with_reducible refine wpList_load_alg_w (by with_unfolding_all rfl) _ rfl rfl H85.out ?_))
  refine hcl.mono ?_
  rintro e u11 ⟨rfl, hbu⟩
  clear hcl kq
  have hsu11 : q10.heap.size ≤ u11.heap.size := hbu.size
  have H87 : Hid (Below w.heap.size w u11) := Lib.hid ((Below.trans H74.out (Below.mono hbu (Below.size H74.out))))
  have H88 : Hid (Bytes u11 (Off [(u9.heap.size + 1), u9.heap.size, u7.heap.size, (u5.heap.size + 1), u5.heap.size, u3.heap.size, u1.heap.size, w.heap.size]) (.slice A1 X.length c1) X) := Lib.hid ((Bytes.below H75.out hbu (Nat.le_refl _)))
  have H89 : Hid (Deck w.heap.size u11) := Lib.hid ((Deck.below H76.out hbu (Deck.lt H76.out)))
  have H90 : Hid (AlV u11 (Off [(u9.heap.size + 1), u9.heap.size, u7.heap.size, (u5.heap.size + 1), u5.heap.size, u3.heap.size, u1.heap.size, w.heap.size]) (.agg (alc a.free a.seed a.fresh (.slice Ama a.macs.length cma) (.slice Aba a.boxes.length cba))) a) := Lib.hid ((AlV.below H77.out hbu (Nat.le_refl _)))
  have H91 : Hid (ALRow u11 u1.heap.size a.free a.seed a.fresh (.slice Ama a.macs.length cma) (.slice Aba a.boxes.length cba)) := Lib.hid ((Whole.below H78.out hbu (Whole.lt H78.out)))
  have H92 : Hid (TGRow u11 u3.heap.size K) := Lib.hid ((Whole.below H79.out hbu (Whole.lt H79.out)))
  have H93 : Hid (AlV u11 (Off [(u9.heap.size + 1), u9.heap.size, u7.heap.size, (u5.heap.size + 1), u5.heap.size, u3.heap.size, u1.heap.size, w.heap.size]) (.agg (alc c.free c.seed c.fresh (.slice Amb c.macs.length cmb) (.slice Abb c.boxes.length cbb))) c) := Lib.hid ((AlV.below H80.out hbu (Nat.le_refl _)))
  have H94 : Hid (ALRow u11 u5.heap.size c.free c.seed c.fresh (.slice Amb c.macs.length cmb) (.slice Abb c.boxes.length cbb)) := Lib.hid ((Whole.below H81.out hbu (Whole.lt H81.out)))
  have H95 : Hid (TGRow u11 (u5.heap.size + 1) V) := Lib.hid ((Whole.below H82.out hbu (Whole.lt H82.out)))
  have H96 : Hid (TGRow u11 u7.heap.size V) := Lib.hid ((Whole.below H83.out hbu (Whole.lt H83.out)))
  have H97 : Hid (AlV u11 (Off [(u9.heap.size + 1), u9.heap.size, u7.heap.size, (u5.heap.size + 1), u5.heap.size, u3.heap.size, u1.heap.size, w.heap.size]) (.agg (alc c.free c.seed c.fresh (.slice Amc c.macs.length cmc) (.slice Abc c.boxes.length cbc))) c) := Lib.hid ((AlV.below H84.out hbu (Nat.le_refl _)))
  have H98 : Hid (ALRow u11 u9.heap.size c.free c.seed c.fresh (.slice Amc c.macs.length cmc) (.slice Abc c.boxes.length cbc)) := Lib.hid ((Whole.below H85.out hbu (Whole.lt H85.out)))
  have H99 : Hid (TGRow u11 (u9.heap.size + 1) V) := Lib.hid ((Whole.below H86.out hbu (Whole.lt H86.out)))
  clear H74 H75 H76 H77 H78 H79 H80 H81 H82 H83 H84 H85 H86
  clear hbu
  have k1 := (ALRow.cells H91.out).2.2.1
  have k2 := (ALRow.cells H94.out).2.2.1
  have hgt : ¬ ((a.macs.length : Int) + 1 < (c.macs.length : Int)) := by omega
  go_upto_region 10 with fail
  clear k1 k2 hgt
  have hla : a.macs.length ≤ 4 := h4a
  go_wp2_with fail
  go_loopw [16] (fun v wr => ∃ j : Nat, v = .int .i64 j ∧ j ≤ a.macs.length ∧ Below u11.heap.size u11 wr) (fun v _ => a.macs.length - (intOf v).toNat)
  case atStart => exact ⟨0, rfl, by omega, Below.refl _ _⟩
  case round =>
    obtain ⟨j, rfl, hj, hbw⟩ := hrel
    have hswr : u11.heap.size ≤ wr.heap.size := hbw.size
    have HBW := Lib.hid hbw
    have H100 : Hid (Below w.heap.size w wr) := Lib.hid ((Below.trans H87.out (Below.mono hbw (Below.size H87.out))))
    have H101 : Hid (Bytes wr (Off [(u9.heap.size + 1), u9.heap.size, u7.heap.size, (u5.heap.size + 1), u5.heap.size, u3.heap.size, u1.heap.size, w.heap.size]) (.slice A1 X.length c1) X) := Lib.hid ((Bytes.below H88.out hbw (Nat.le_refl _)))
    have H102 : Hid (Deck w.heap.size wr) := Lib.hid ((Deck.below H89.out hbw (Deck.lt H89.out)))
    have H103 : Hid (AlV wr (Off [(u9.heap.size + 1), u9.heap.size, u7.heap.size, (u5.heap.size + 1), u5.heap.size, u3.heap.size, u1.heap.size, w.heap.size]) (.agg (alc a.free a.seed a.fresh (.slice Ama a.macs.length cma) (.slice Aba a.boxes.length cba))) a) := Lib.hid ((AlV.below H90.out hbw (Nat.le_refl _)))
    have H104 : Hid (ALRow wr u1.heap.size a.free a.seed a.fresh (.slice Ama a.macs.length cma) (.slice Aba a.boxes.length cba)) := Lib.hid ((Whole.below H91.out hbw (Whole.lt H91.out)))
    have H105 : Hid (TGRow wr u3.heap.size K) := Lib.hid ((Whole.below H92.out hbw (Whole.lt H92.out)))
    have H106 : Hid (AlV wr (Off [(u9.heap.size + 1), u9.heap.size, u7.heap.size, (u5.heap.size + 1), u5.heap.size, u3.heap.size, u1.heap.size, w.heap.size]) (.agg (alc c.free c.seed c.fresh (.slice Amb c.macs.length cmb) (.slice Abb c.boxes.length cbb))) c) := Lib.hid ((AlV.below H93.out hbw (Nat.le_refl _)))
    have H107 : Hid (ALRow wr u5.heap.size c.free c.seed c.fresh (.slice Amb c.macs.length cmb) (.slice Abb c.boxes.length cbb)) := Lib.hid ((Whole.below H94.out hbw (Whole.lt H94.out)))
    have H108 : Hid (TGRow wr (u5.heap.size + 1) V) := Lib.hid ((Whole.below H95.out hbw (Whole.lt H95.out)))
    have H109 : Hid (TGRow wr u7.heap.size V) := Lib.hid ((Whole.below H96.out hbw (Whole.lt H96.out)))
    have H110 : Hid (AlV wr (Off [(u9.heap.size + 1), u9.heap.size, u7.heap.size, (u5.heap.size + 1), u5.heap.size, u3.heap.size, u1.heap.size, w.heap.size]) (.agg (alc c.free c.seed c.fresh (.slice Amc c.macs.length cmc) (.slice Abc c.boxes.length cbc))) c) := Lib.hid ((AlV.below H97.out hbw (Nat.le_refl _)))
    have H111 : Hid (ALRow wr u9.heap.size c.free c.seed c.fresh (.slice Amc c.macs.length cmc) (.slice Abc c.boxes.length cbc)) := Lib.hid ((Whole.below H98.out hbw (Whole.lt H98.out)))
    have H112 : Hid (TGRow wr (u9.heap.size + 1) V) := Lib.hid ((Whole.below H99.out hbw (Whole.lt H99.out)))
    clear H87 H88 H89 H90 H91 H92 H93 H94 H95 H96 H97 H98 H99
    have H113 : Hid (Below u11.heap.size u11 wr) := Lib.hid (hbw)
    clear hbw
    have c34 := (ALRow.cells H104.out).2.2.1
    by_cases hlt : j < a.macs.length
    case neg =>
      obtain rfl : j = a.macs.length := by omega
      have hcl := aawk wr (Tables.below HT.out (Nat.le_refl _) H100.out)
      go_wp2_with fail
      refine hcl.mono ?_
      rintro e w9 ⟨rfl, hb9⟩
      clear hcl c34
      have HG := Lib.hid (Below.trans H100.out (Below.mono hb9 (Below.size H100.out)))
      go_wp2
      go_ret
      exact ⟨rfl, HG.out⟩
    obtain ⟨e, he⟩ : ∃ e, a.macs[j]? = some e := ⟨_, List.getElem?_eq_getElem hlt⟩
    have hM := (AlV.parts H103.out).1
    have hme := List.mem_of_getElem? he
    obtain ⟨g0, o, D, dc, hAm, hq, hg, -, -, -, hby, hk32, ht32, hm5, hrow⟩ := Macs.get hM j e he
    rw [hAm] at c34
    clear hAm
    obtain ⟨E, hE⟩ : ∃ E : MeM, E = ⟨e, D, dc⟩ := ⟨_, rfl⟩
    rw [← hE] at hrow
    have hEe : E.e = e := by rw [hE]
    have hEA : E.A = D := by rw [hE]
    have hEc : E.c = dc := by rw [hE]
    have hlo := HALL.out e hme
    have HQ := Lib.hid (And.intro hEe (And.intro hEA (And.intro hEc (And.intro hlo hm5))))
    have j0 : (0 : Int) ≤ (j : Int) := by omega
    have jn : (j : Int) < (a.macs.length : Int) := by omega
    clear hE he hM hme hq hEe hEA hEc hlo
    have H114 : Hid (Bytes wr (Off [(u9.heap.size + 1), u9.heap.size, u7.heap.size, (u5.heap.size + 1), u5.heap.size, u3.heap.size, u1.heap.size, w.heap.size]) (.slice D e.msg.length dc) e.msg) := Lib.hid (hby)
    clear hby
    have ks0 : ∀ z0 : Array Value, Whole (wr.alloc (.cells z0 46)) wr.heap.size 46 z0 := fun _ => (Whole.here _ _ _)
    go_upto_region 14 with (first
      | (with_reducible refine wpList_load_mid rfl 46 _ rfl g0 (o + j * 65) rfl _ _ hrow Tryd.underlying46 rfl (mcl_sz _) ?_)
      | (with_reducible refine wpList_store_mac rfl _ _ rfl (g := wr.heap.size) rfl rfl (ks0 _) rfl (mclm_size _) (mcl_one1 _) ?_))
    clear ks0
    rw [zmr_lit]
    obtain ⟨q12, hq⟩ : ∃ q, q = ((wr.alloc (.cells zmr 46)).setRow wr.heap.size (mcl E).toArray) := ⟨_, rfl⟩
    rw [← hq]
    have hsq12 : wr.heap.size + 1 ≤ q12.heap.size := by rw [hq]; simp
    have H115 : Hid (Below w.heap.size w q12) := Lib.hid (by rw [hq]; exact (below_setRow (Below.trans H100.out (Below.mono (Below.alloc (Below.refl _ _) (Nat.le_refl _) _) (Below.size H100.out))) (by omega) _))
    have H116 : Hid (Bytes q12 (Off [wr.heap.size, (u9.heap.size + 1), u9.heap.size, u7.heap.size, (u5.heap.size + 1), u5.heap.size, u3.heap.size, u1.heap.size, w.heap.size]) (.slice A1 X.length c1) X) := Lib.hid (by rw [hq]; exact (Bytes.store (Bytes.below (Bytes.grow H101.out (by omega)) (Below.alloc (Below.refl _ _) (Nat.le_refl _) _) (Nat.le_refl _)) (by simp) _))
    have H117 : Hid (Deck w.heap.size q12) := Lib.hid (by rw [hq]; exact (Deck.store (Deck.below H102.out (Below.alloc (Below.refl _ _) (Nat.le_refl _) _) (Deck.lt H102.out)) (by omega) _))
    have H118 : Hid (AlV q12 (Off [wr.heap.size, (u9.heap.size + 1), u9.heap.size, u7.heap.size, (u5.heap.size + 1), u5.heap.size, u3.heap.size, u1.heap.size, w.heap.size]) (.agg (alc a.free a.seed a.fresh (.slice Ama a.macs.length cma) (.slice Aba a.boxes.length cba))) a) := Lib.hid (by rw [hq]; exact (AlV.store (AlV.below (AlV.grow H103.out (by omega)) (Below.alloc (Below.refl _ _) (Nat.le_refl _) _) (Nat.le_refl _)) (by simp) _))
    have H119 : Hid (ALRow q12 u1.heap.size a.free a.seed a.fresh (.slice Ama a.macs.length cma) (.slice Aba a.boxes.length cba)) := Lib.hid (by rw [hq]; exact (Whole.setRow_far (Whole.below H104.out (Below.alloc (Below.refl _ _) (Nat.le_refl _) _) (Whole.lt H104.out)) (by omega) _))
    have H120 : Hid (TGRow q12 u3.heap.size K) := Lib.hid (by rw [hq]; exact (Whole.setRow_far (Whole.below H105.out (Below.alloc (Below.refl _ _) (Nat.le_refl _) _) (Whole.lt H105.out)) (by omega) _))
    have H121 : Hid (AlV q12 (Off [wr.heap.size, (u9.heap.size + 1), u9.heap.size, u7.heap.size, (u5.heap.size + 1), u5.heap.size, u3.heap.size, u1.heap.size, w.heap.size]) (.agg (alc c.free c.seed c.fresh (.slice Amb c.macs.length cmb) (.slice Abb c.boxes.length cbb))) c) := Lib.hid (by rw [hq]; exact (AlV.store (AlV.below (AlV.grow H106.out (by omega)) (Below.alloc (Below.refl _ _) (Nat.le_refl _) _) (Nat.le_refl _)) (by simp) _))
    have H122 : Hid (ALRow q12 u5.heap.size c.free c.seed c.fresh (.slice Amb c.macs.length cmb) (.slice Abb c.boxes.length cbb)) := Lib.hid (by rw [hq]; exact (Whole.setRow_far (Whole.below H107.out (Below.alloc (Below.refl _ _) (Nat.le_refl _) _) (Whole.lt H107.out)) (by omega) _))
    have H123 : Hid (TGRow q12 (u5.heap.size + 1) V) := Lib.hid (by rw [hq]; exact (Whole.setRow_far (Whole.below H108.out (Below.alloc (Below.refl _ _) (Nat.le_refl _) _) (Whole.lt H108.out)) (by omega) _))
    have H124 : Hid (TGRow q12 u7.heap.size V) := Lib.hid (by rw [hq]; exact (Whole.setRow_far (Whole.below H109.out (Below.alloc (Below.refl _ _) (Nat.le_refl _) _) (Whole.lt H109.out)) (by omega) _))
    have H125 : Hid (AlV q12 (Off [wr.heap.size, (u9.heap.size + 1), u9.heap.size, u7.heap.size, (u5.heap.size + 1), u5.heap.size, u3.heap.size, u1.heap.size, w.heap.size]) (.agg (alc c.free c.seed c.fresh (.slice Amc c.macs.length cmc) (.slice Abc c.boxes.length cbc))) c) := Lib.hid (by rw [hq]; exact (AlV.store (AlV.below (AlV.grow H110.out (by omega)) (Below.alloc (Below.refl _ _) (Nat.le_refl _) _) (Nat.le_refl _)) (by simp) _))
    have H126 : Hid (ALRow q12 u9.heap.size c.free c.seed c.fresh (.slice Amc c.macs.length cmc) (.slice Abc c.boxes.length cbc)) := Lib.hid (by rw [hq]; exact (Whole.setRow_far (Whole.below H111.out (Below.alloc (Below.refl _ _) (Nat.le_refl _) _) (Whole.lt H111.out)) (by omega) _))
    have H127 : Hid (TGRow q12 (u9.heap.size + 1) V) := Lib.hid (by rw [hq]; exact (Whole.setRow_far (Whole.below H112.out (Below.alloc (Below.refl _ _) (Nat.le_refl _) _) (Whole.lt H112.out)) (by omega) _))
    have H128 : Hid (Below u11.heap.size u11 q12) := Lib.hid (by rw [hq]; exact (below_setRow (Below.trans H113.out (Below.mono (Below.alloc (Below.refl _ _) (Nat.le_refl _) _) (Below.size H113.out))) (by omega) _))
    have H129 : Hid (Bytes q12 (Off [wr.heap.size, (u9.heap.size + 1), u9.heap.size, u7.heap.size, (u5.heap.size + 1), u5.heap.size, u3.heap.size, u1.heap.size, w.heap.size]) (.slice D e.msg.length dc) e.msg) := Lib.hid (by rw [hq]; exact (Bytes.store (Bytes.below (Bytes.grow H114.out (by omega)) (Below.alloc (Below.refl _ _) (Nat.le_refl _) _) (Nat.le_refl _)) (by simp) _))
    clear H100 H101 H102 H103 H104 H105 H106 H107 H108 H109 H110 H111 H112 H113 H114
    have H130 : Hid (Whole q12 wr.heap.size 46 (mcl E).toArray) := Lib.hid (by rw [hq]; exact (Whole.setRow (Whole.here _ _ _) _))
    clear hq
    have hEl : E.e.key.length = 32 := by rw [HQ.out.1]; exact hk32
    have r1 : q12.rangeAt wr.heap.size 0 (e.key.map byt) := by have := MCRow.key H130.out hEl; rw [HQ.out.1] at this; exact this
    have r2 : q12.cell? ⟨wr.heap.size, 32, none⟩ = some (.slice D e.msg.length dc) := by have := MCRow.msg H130.out; rw [HQ.out.1, HQ.out.2.1, HQ.out.2.2.1] at this; exact this
    have hcl := plook (m := e.msg) H121.out hk32 H129.out (by omega) (Tables.below HT.out (Nat.le_refl _) H115.out)
    obtain ⟨R, hR⟩ : ∃ R, R = aLook c e.key e.msg := ⟨_, rfl⟩
    have hlY : R.1.length = 32 := by rw [hR]; exact AlV.look_len H121.out _ _
    rw [← hR] at hcl
    obtain ⟨Y, is⟩ := R
    have HEY := Lib.hid hR
    clear hR
    dsimp only [lres] at hcl hlY
    go_wp2_with (first
      | (with_reducible refine wpList_load_alg rfl _ rfl rfl H122.out (alc_size _ _ _ _ _) ?_)
      | (with_reducible refine wpList_load_mid rfl 23 _ rfl wr.heap.size 0 rfl _ _ r1 Tryd.underlying23 rfl (tag_sz hk32) ?_))
    refine hcl.mono ?_
    rintro e u13 ⟨rfl, hbu⟩
    clear hcl
    have hsu13 : q12.heap.size ≤ u13.heap.size := hbu.size
    have H131 : Hid (Below w.heap.size w u13) := Lib.hid ((Below.trans H115.out (Below.mono hbu (Below.size H115.out))))
    have H132 : Hid (Bytes u13 (Off [wr.heap.size, (u9.heap.size + 1), u9.heap.size, u7.heap.size, (u5.heap.size + 1), u5.heap.size, u3.heap.size, u1.heap.size, w.heap.size]) (.slice A1 X.length c1) X) := Lib.hid ((Bytes.below H116.out hbu (Nat.le_refl _)))
    have H133 : Hid (Deck w.heap.size u13) := Lib.hid ((Deck.below H117.out hbu (Deck.lt H117.out)))
    have H134 : Hid (AlV u13 (Off [wr.heap.size, (u9.heap.size + 1), u9.heap.size, u7.heap.size, (u5.heap.size + 1), u5.heap.size, u3.heap.size, u1.heap.size, w.heap.size]) (.agg (alc a.free a.seed a.fresh (.slice Ama a.macs.length cma) (.slice Aba a.boxes.length cba))) a) := Lib.hid ((AlV.below H118.out hbu (Nat.le_refl _)))
    have H135 : Hid (ALRow u13 u1.heap.size a.free a.seed a.fresh (.slice Ama a.macs.length cma) (.slice Aba a.boxes.length cba)) := Lib.hid ((Whole.below H119.out hbu (Whole.lt H119.out)))
    have H136 : Hid (TGRow u13 u3.heap.size K) := Lib.hid ((Whole.below H120.out hbu (Whole.lt H120.out)))
    have H137 : Hid (AlV u13 (Off [wr.heap.size, (u9.heap.size + 1), u9.heap.size, u7.heap.size, (u5.heap.size + 1), u5.heap.size, u3.heap.size, u1.heap.size, w.heap.size]) (.agg (alc c.free c.seed c.fresh (.slice Amb c.macs.length cmb) (.slice Abb c.boxes.length cbb))) c) := Lib.hid ((AlV.below H121.out hbu (Nat.le_refl _)))
    have H138 : Hid (ALRow u13 u5.heap.size c.free c.seed c.fresh (.slice Amb c.macs.length cmb) (.slice Abb c.boxes.length cbb)) := Lib.hid ((Whole.below H122.out hbu (Whole.lt H122.out)))
    have H139 : Hid (TGRow u13 (u5.heap.size + 1) V) := Lib.hid ((Whole.below H123.out hbu (Whole.lt H123.out)))
    have H140 : Hid (TGRow u13 u7.heap.size V) := Lib.hid ((Whole.below H124.out hbu (Whole.lt H124.out)))
    have H141 : Hid (AlV u13 (Off [wr.heap.size, (u9.heap.size + 1), u9.heap.size, u7.heap.size, (u5.heap.size + 1), u5.heap.size, u3.heap.size, u1.heap.size, w.heap.size]) (.agg (alc c.free c.seed c.fresh (.slice Amc c.macs.length cmc) (.slice Abc c.boxes.length cbc))) c) := Lib.hid ((AlV.below H125.out hbu (Nat.le_refl _)))
    have H142 : Hid (ALRow u13 u9.heap.size c.free c.seed c.fresh (.slice Amc c.macs.length cmc) (.slice Abc c.boxes.length cbc)) := Lib.hid ((Whole.below H126.out hbu (Whole.lt H126.out)))
    have H143 : Hid (TGRow u13 (u9.heap.size + 1) V) := Lib.hid ((Whole.below H127.out hbu (Whole.lt H127.out)))
    have H144 : Hid (Below u11.heap.size u11 u13) := Lib.hid ((Below.trans H128.out (Below.mono hbu (Below.size H128.out))))
    have H145 : Hid (Bytes u13 (Off [wr.heap.size, (u9.heap.size + 1), u9.heap.size, u7.heap.size, (u5.heap.size + 1), u5.heap.size, u3.heap.size, u1.heap.size, w.heap.size]) (.slice D e.msg.length dc) e.msg) := Lib.hid ((Bytes.below H129.out hbu (Nat.le_refl _)))
    have H146 : Hid (Whole u13 wr.heap.size 46 (mcl E).toArray) := Lib.hid ((Whole.below H130.out hbu (Whole.lt H130.out)))
    clear H115 H116 H117 H118 H119 H120 H121 H122 H123 H124 H125 H126 H127 H128 H129 H130
    clear hbu
    have ks0 : ∀ z0 : Array Value, Whole (u13.alloc (.cells z0 23)) u13.heap.size 23 z0 := fun _ => (Whole.here _ _ _)
    go_upto_region 15 with (with_reducible refine wpList_store_tag rfl _ _ rfl (g := u13.heap.size) rfl rfl (ks0 _) rfl (tag_size hlY) (tag_one _) ?_)
    clear ks0
    rw [ztr_lit]
    obtain ⟨q14, hq⟩ : ∃ q, q = ((u13.alloc (.cells ztr 23)).setRow u13.heap.size (Y.map byt).toArray) := ⟨_, rfl⟩
    rw [← hq]
    have hsq14 : u13.heap.size + 1 ≤ q14.heap.size := by rw [hq]; simp
    have H147 : Hid (Below w.heap.size w q14) := Lib.hid (by rw [hq]; exact (below_setRow (Below.trans H131.out (Below.mono (Below.alloc (Below.refl _ _) (Nat.le_refl _) _) (Below.size H131.out))) (by omega) _))
    have H148 : Hid (Bytes q14 (Off [u13.heap.size, wr.heap.size, (u9.heap.size + 1), u9.heap.size, u7.heap.size, (u5.heap.size + 1), u5.heap.size, u3.heap.size, u1.heap.size, w.heap.size]) (.slice A1 X.length c1) X) := Lib.hid (by rw [hq]; exact (Bytes.store (Bytes.below (Bytes.grow H132.out (by omega)) (Below.alloc (Below.refl _ _) (Nat.le_refl _) _) (Nat.le_refl _)) (by simp) _))
    have H149 : Hid (Deck w.heap.size q14) := Lib.hid (by rw [hq]; exact (Deck.store (Deck.below H133.out (Below.alloc (Below.refl _ _) (Nat.le_refl _) _) (Deck.lt H133.out)) (by omega) _))
    have H150 : Hid (AlV q14 (Off [u13.heap.size, wr.heap.size, (u9.heap.size + 1), u9.heap.size, u7.heap.size, (u5.heap.size + 1), u5.heap.size, u3.heap.size, u1.heap.size, w.heap.size]) (.agg (alc a.free a.seed a.fresh (.slice Ama a.macs.length cma) (.slice Aba a.boxes.length cba))) a) := Lib.hid (by rw [hq]; exact (AlV.store (AlV.below (AlV.grow H134.out (by omega)) (Below.alloc (Below.refl _ _) (Nat.le_refl _) _) (Nat.le_refl _)) (by simp) _))
    have H151 : Hid (ALRow q14 u1.heap.size a.free a.seed a.fresh (.slice Ama a.macs.length cma) (.slice Aba a.boxes.length cba)) := Lib.hid (by rw [hq]; exact (Whole.setRow_far (Whole.below H135.out (Below.alloc (Below.refl _ _) (Nat.le_refl _) _) (Whole.lt H135.out)) (by omega) _))
    have H152 : Hid (TGRow q14 u3.heap.size K) := Lib.hid (by rw [hq]; exact (Whole.setRow_far (Whole.below H136.out (Below.alloc (Below.refl _ _) (Nat.le_refl _) _) (Whole.lt H136.out)) (by omega) _))
    have H153 : Hid (AlV q14 (Off [u13.heap.size, wr.heap.size, (u9.heap.size + 1), u9.heap.size, u7.heap.size, (u5.heap.size + 1), u5.heap.size, u3.heap.size, u1.heap.size, w.heap.size]) (.agg (alc c.free c.seed c.fresh (.slice Amb c.macs.length cmb) (.slice Abb c.boxes.length cbb))) c) := Lib.hid (by rw [hq]; exact (AlV.store (AlV.below (AlV.grow H137.out (by omega)) (Below.alloc (Below.refl _ _) (Nat.le_refl _) _) (Nat.le_refl _)) (by simp) _))
    have H154 : Hid (ALRow q14 u5.heap.size c.free c.seed c.fresh (.slice Amb c.macs.length cmb) (.slice Abb c.boxes.length cbb)) := Lib.hid (by rw [hq]; exact (Whole.setRow_far (Whole.below H138.out (Below.alloc (Below.refl _ _) (Nat.le_refl _) _) (Whole.lt H138.out)) (by omega) _))
    have H155 : Hid (TGRow q14 (u5.heap.size + 1) V) := Lib.hid (by rw [hq]; exact (Whole.setRow_far (Whole.below H139.out (Below.alloc (Below.refl _ _) (Nat.le_refl _) _) (Whole.lt H139.out)) (by omega) _))
    have H156 : Hid (TGRow q14 u7.heap.size V) := Lib.hid (by rw [hq]; exact (Whole.setRow_far (Whole.below H140.out (Below.alloc (Below.refl _ _) (Nat.le_refl _) _) (Whole.lt H140.out)) (by omega) _))
    have H157 : Hid (AlV q14 (Off [u13.heap.size, wr.heap.size, (u9.heap.size + 1), u9.heap.size, u7.heap.size, (u5.heap.size + 1), u5.heap.size, u3.heap.size, u1.heap.size, w.heap.size]) (.agg (alc c.free c.seed c.fresh (.slice Amc c.macs.length cmc) (.slice Abc c.boxes.length cbc))) c) := Lib.hid (by rw [hq]; exact (AlV.store (AlV.below (AlV.grow H141.out (by omega)) (Below.alloc (Below.refl _ _) (Nat.le_refl _) _) (Nat.le_refl _)) (by simp) _))
    have H158 : Hid (ALRow q14 u9.heap.size c.free c.seed c.fresh (.slice Amc c.macs.length cmc) (.slice Abc c.boxes.length cbc)) := Lib.hid (by rw [hq]; exact (Whole.setRow_far (Whole.below H142.out (Below.alloc (Below.refl _ _) (Nat.le_refl _) _) (Whole.lt H142.out)) (by omega) _))
    have H159 : Hid (TGRow q14 (u9.heap.size + 1) V) := Lib.hid (by rw [hq]; exact (Whole.setRow_far (Whole.below H143.out (Below.alloc (Below.refl _ _) (Nat.le_refl _) _) (Whole.lt H143.out)) (by omega) _))
    have H160 : Hid (Below u11.heap.size u11 q14) := Lib.hid (by rw [hq]; exact (below_setRow (Below.trans H144.out (Below.mono (Below.alloc (Below.refl _ _) (Nat.le_refl _) _) (Below.size H144.out))) (by omega) _))
    have H161 : Hid (Bytes q14 (Off [u13.heap.size, wr.heap.size, (u9.heap.size + 1), u9.heap.size, u7.heap.size, (u5.heap.size + 1), u5.heap.size, u3.heap.size, u1.heap.size, w.heap.size]) (.slice D e.msg.length dc) e.msg) := Lib.hid (by rw [hq]; exact (Bytes.store (Bytes.below (Bytes.grow H145.out (by omega)) (Below.alloc (Below.refl _ _) (Nat.le_refl _) _) (Nat.le_refl _)) (by simp) _))
    have H162 : Hid (Whole q14 wr.heap.size 46 (mcl E).toArray) := Lib.hid (by rw [hq]; exact (Whole.setRow_far (Whole.below H146.out (Below.alloc (Below.refl _ _) (Nat.le_refl _) _) (Whole.lt H146.out)) (by omega) _))
    clear H131 H132 H133 H134 H135 H136 H137 H138 H139 H140 H141 H142 H143 H144 H145 H146
    have H163 : Hid (TGRow q14 u13.heap.size Y) := Lib.hid (by rw [hq]; exact (Whole.setRow (Whole.here _ _ _) _))
    clear hq
    have hY := HEY.out.trans HQ.out.2.2.2.1
    injection hY with e1 e2
    subst e1 e2
    clear r1 r2
    have kq := fun W => neq_tag (D := false) ht32 ht32 (by simp) W
    have hEl2 : E.e.tag.length = 32 := by rw [HQ.out.1]; exact ht32
    have r3 : q14.rangeAt wr.heap.size 33 (e.tag.map byt) := by have := MCRow.tag H162.out hEl2; rw [HQ.out.1] at this; exact this
    go_wp2_with (first
      | (with_reducible refine wpList_load_wanted_at (by with_unfolding_all rfl) 23 _ rfl u13.heap.size 0 rfl _ _ (TGRow.range H163.out) Tryd.underlying23 rfl (tag_sz ht32) ?_)
      | (with_reducible refine wpList_load_wanted_at (by with_unfolding_all rfl) 23 _ rfl wr.heap.size 33 rfl _ _ r3 Tryd.underlying23 rfl (tag_sz ht32) ?_))
    go_roundw
    case rel => exact ⟨j + 1, by go_num, by omega, H160.out⟩
    case measure => simp [intOf]; omega
end Go.Proofs.YteglmfimgdgchaaDoor
