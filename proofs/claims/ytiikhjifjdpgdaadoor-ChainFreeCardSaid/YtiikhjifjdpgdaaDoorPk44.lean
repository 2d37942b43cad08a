/-
  CFreLaw
-/
import Derived.Deep.CutBlock
import Derived.Deep.RegionHeld3
import Derived.Deep.DeepCutAuto
import Derived.Test.YtiikhjifjdpgdaaDoorPk22
import Derived.Test.YtiikhjifjdpgdaaDoorPk33
import Derived.Test.YtiikhjifjdpgdaaDoorPk42
import Derived.Test.YtiikhjifjdpgdaaDoorPk43
import Derived.Test.YtiikhjifjdpgdaaDoorPk26
import Derived.Test.YtiikhjifjdpgdaaDoorPk32
namespace Go.Proofs.YtiikhjifjdpgdaaDoor
open Go Go.RowKit Sh Leaf

theorem Cavs.oth {w w' : World} {Q : Nat → Prop} {A : Option Addr} {c g : Nat} {l : List Cav} (h : Cavs w Q A c l) (ho : Oth g w w') (hs : w.heap.size ≤ w'.heap.size) (hQ : ∀ b, Q b → b ≠ g) : Cavs w' Q A c l := by
  obtain ⟨L, h1, h2, h3⟩ := h
  exact ⟨L, h1, h2.oth ho hs hQ, fun x hx => ⟨(h3 x hx).1.oth ho hQ, (h3 x hx).2.oth ho hQ⟩⟩
theorem evt (A : Act) (t : Tmp) : A.eval (.tmp t) = A.tmps[t]?.getD undef := by unfold Act.eval; simp
theorem eplSize : (Tryd.prog.info? 49).map (·.size) = some 33 := by kernel_rfl
section
variable {w : World} {g : Nat} {ops : Array Oper} {rest : List Oper} {o : Oper} {a : Act} {Q : Exit → Act → World → Prop}
theorem wpList_store_epo (hgd : o.guard = none) (x y : Operand) (ho : o.op = .store 49 x y) (hx : a.eval x = .pointer (some ⟨g, 0, none⟩)) {z : Int} {K : List B8} (hy : a.eval y = .agg (epl z K).toArray) {cs : Array Value} (hg : Whole w g 49 cs) (hcs : cs.size = 33)
    (h : wpList Tryd.prog ops Q rest (a.put o.dst undef) (w.setRow g (epl z K).toArray)) : wpList Tryd.prog ops Q (o :: rest) a w :=
  wpList_store_row hgd 49 x y ho g _ hx hy 49 _ hg (by rw [eplSize, epl_size]) (by rw [hcs, epl_size]) (epl_one _ _) h
theorem wpList_load_epo (hgd : o.guard = none) (x : Operand) (ho : o.op = .load 49 x) (hx : a.eval x = .pointer (some ⟨g, 0, none⟩)) {z : Int} {K : List B8} (hg : Whole w g 49 (epl z K).toArray)
    (h : wpList Tryd.prog ops Q rest (a.put o.dst (.agg (epl z K).toArray)) w) : wpList Tryd.prog ops Q (o :: rest) a w :=
  wpList_load_row hgd 49 x ho g hx 49 _ (0, 0) _ hg Tryd.underlying49 rfl (by rw [eplSize, epl_size]) h
end
theorem Cavs.grow {w : World} {S : List Nat} {A : Option Addr} {c G : Nat} {l : List Cav} (h : Cavs w (Off S) A c l) (hG : w.heap.size ≤ G) : Cavs w (Off (G :: S)) A c l := h.mono fun b hb hq => off_cons hq (by omega)
theorem Cavs.store {w : World} {S : List Nat} {A : Option Addr} {c G : Nat} {l : List Cav} (h : Cavs w (Off S) A c l) (hG : G ∈ S) (cs : Array Value) : Cavs (w.setRow G cs) (Off S) A c l := h.keep (by simp) fun _ _ hq => setRow_other _ _ _ _ (hq G hG)
theorem Cavs.turn {W W' : World} {S : List Nat} {A : Option Addr} {c g : Nat} {l : List Cav} (h : Cavs W (Off S) A c l) (ht : Turn g W W') (hg : g ∈ S) : Cavs W' (Off S) A c l := h.oth ht.2.2 ht.size fun _ hq => hq g hg
set_option linter.unusedSimpArgs false in
set_option linter.unusedVariables false in
set_option maxRecDepth 100000 in
set_option maxHeartbeats 8000000 in
theorem cfree_law (A0 : Option Addr) (l0 : List Int) (c0 : Nat) (A1 : Option Addr) (l1 : List Int) (c1 : Nat) (sm : Bool) (w : World) (hT : Tables w) (hI0 : Ints w (fun b => b < w.heap.size) A0 c0 l0) (hI1 : Ints w (fun b => b < w.heap.size) A1 c1 l1) :
    Calls Tryd.prog 4 #[.slice A0 l0.length c0, .slice A1 l1.length c1, .bool sm] w fun e w' => e = .returned (.bool true) ∧ Below w.heap.size w w' := by
  have HT := Lib.hid hT
  clear hT
  have H1 : Hid (Below w.heap.size w w) := Lib.hid (Below.refl _ _)
  obtain ⟨n0, hn0⟩ : ∃ n, n = l0.length := ⟨_, rfl⟩
  rw [← hn0]
  have HI0 := Lib.hid hI0
  have HN0 := Lib.hid hn0
  clear hI0 hn0
  obtain ⟨n1, hn1⟩ : ∃ n, n = l1.length := ⟨_, rfl⟩
  rw [← hn1]
  have HI1 := Lib.hid hI1
  have HN1 := Lib.hid hn1
  clear hI1 hn1
  go_enter Tryd.func4, Tryd.ntmps4
  have hcl := rkey (free_av w (fun _ => False))
  obtain ⟨R, hR⟩ : ∃ R, R = aKey freeA := ⟨_, rfl⟩
  rw [← hR] at hcl
  rw [key_freeA] at hR
  obtain ⟨a, K, e0⟩ := R
  obtain ⟨ha, hK⟩ : a = ⟨true, ztag, 1, [], []⟩ ∧ K = sym 107#8 1 := by injection hR with h1 h2; injection h2 with h2 h3; exact ⟨h1, h2⟩
  have hlK : K.length = 32 := by rw [hK]; exact sym_length _ _
  have HKA := Lib.hid (And.intro ha hK)
  clear ha hK hR
  dsimp only [AlgR] at hcl
  go_wp2_with (first
    | (with_reducible refine wpList_build_free rfl _ rfl true rfl ?_))
  refine hcl.mono ?_
  rintro e u1 ⟨⟨x, rfl, hx⟩, hbu⟩
  clear hcl
  obtain ⟨Ama, cma, Aba, cba, rfl, hM, hBx, hA⟩ := hx
  have hsu1 : w.heap.size ≤ u1.heap.size := hbu.size
  have H2 : Hid (Below w.heap.size w u1) := Lib.hid ((Below.trans H1.out (Below.mono hbu (Below.size H1.out))))
  clear H1
  have H3 : Hid (AlV u1 (Off []) (.agg (alc a.free a.seed a.fresh (.slice Ama a.macs.length cma) (.slice Aba a.boxes.length cba))) a) := Lib.hid (AlV.mono ⟨Ama, cma, Aba, cba, rfl, hM, hBx, hA⟩ fun _ _ h => h.elim)
  clear hM hBx hA hbu
  have ks0 : ∀ z0 z1 : Array Value, Whole ((u1.alloc (.cells z0 32)).alloc (.cells z1 28)) u1.heap.size 32 z0 := fun _ _ => (Whole.alloc (Whole.here _ _ _) _)
  have ks1 : ∀ z0 z1 : Array Value, Whole (((u1.alloc (.cells z0 32)).alloc (.cells z1 28)).setRow u1.heap.size (alc a.free a.seed a.fresh (.slice Ama a.macs.length cma) (.slice Aba a.boxes.length cba))) (u1.heap.size + 1) 28 z1 := fun _ _ => (Whole.setRow_far (Whole.at_ _ _ _ _ (by simp)) (by omega) _)
  go_upto_region 2 with (first
    | (with_reducible refine wpList_store_alg rfl _ _ rfl (g := u1.heap.size) rfl rfl (ks0 _ _) rfl (alc_size _ _ _ _ _) (alc_one _ _ _ _ _ _ _ _ _) ?_)
    | (with_reducible refine wpList_store_tag rfl _ _ rfl (g := (u1.heap.size + 1)) rfl rfl (ks1 _ _) rfl (tag_size hlK) (tag_one _) ?_))
  clear ks0 ks1
  rw [ztr_lit]
  rw [zar_lit]
  obtain ⟨q1, hq⟩ : ∃ q, q = ((((u1.alloc (.cells zar 32)).alloc (.cells ztr 28)).setRow u1.heap.size (alc a.free a.seed a.fresh (.slice Ama a.macs.length cma) (.slice Aba a.boxes.length cba))).setRow (u1.heap.size + 1) (K.map byt).toArray) := ⟨_, rfl⟩
  rw [← hq]
  have hsq1 : u1.heap.size + 2 ≤ q1.heap.size := by rw [hq]; simp
  have H4 : Hid (Below w.heap.size w q1) := Lib.hid (by rw [hq]; exact (below_setRow (below_setRow (Below.trans H2.out (Below.mono (Below.alloc (Below.alloc (Below.refl _ _) (Nat.le_refl _) _) (by simp) _) (Below.size H2.out))) (by omega) _) (by omega) _))
  have H5 : Hid (AlV q1 (Off [(u1.heap.size + 1), u1.heap.size]) (.agg (alc a.free a.seed a.fresh (.slice Ama a.macs.length cma) (.slice Aba a.boxes.length cba))) a) := Lib.hid (by rw [hq]; exact (AlV.store (AlV.store (AlV.below (AlV.grow (AlV.grow H3.out (by omega)) (by omega)) (Below.alloc (Below.alloc (Below.refl _ _) (Nat.le_refl _) _) (by simp) _) (Nat.le_refl _)) (by simp) _) (by simp) _))
  clear H2 H3
  have H6 : Hid (ALRow q1 u1.heap.size a.free a.seed a.fresh (.slice Ama a.macs.length cma) (.slice Aba a.boxes.length cba)) := Lib.hid (by rw [hq]; exact (Whole.setRow_far (Whole.setRow (Whole.alloc (Whole.here _ _ _) _) _) (by omega) _))
  have H7 : Hid (TGRow q1 (u1.heap.size + 1) K) := Lib.hid (by rw [hq]; exact (Whole.setRow (Whole.setRow_far (Whole.at_ _ _ _ _ (by simp)) (by omega) _) _))
  clear hq
  have hcl := dnew A0 _ c0 l0 q1 HN0.out ((HI0.out.below H4.out).mono (Below.size H4.out))
  go_wp2_with fail
  refine hcl.mono ?_
  rintro e d0 ⟨rfl, hdk, hbu⟩
  clear hcl
  have hsd0 : q1.heap.size < d0.heap.size := hdk.lt
  have H8 : Hid (AlV q1 (Off [q1.heap.size, (u1.heap.size + 1), u1.heap.size]) (.agg (alc a.free a.seed a.fresh (.slice Ama a.macs.length cma) (.slice Aba a.boxes.length cba))) a) := Lib.hid (AlV.grow H5.out (by omega))
  clear H5
  have H9 : Hid (Below w.heap.size w d0) := Lib.hid ((Below.trans H4.out (Below.mono hbu (Below.size H4.out))))
  have H10 : Hid (AlV d0 (Off [q1.heap.size, (u1.heap.size + 1), u1.heap.size]) (.agg (alc a.free a.seed a.fresh (.slice Ama a.macs.length cma) (.slice Aba a.boxes.length cba))) a) := Lib.hid ((AlV.below H8.out hbu (Nat.le_refl _)))
  have H11 : Hid (ALRow d0 u1.heap.size a.free a.seed a.fresh (.slice Ama a.macs.length cma) (.slice Aba a.boxes.length cba)) := Lib.hid ((Whole.below H6.out hbu (Whole.lt H6.out)))
  have H12 : Hid (TGRow d0 (u1.heap.size + 1) K) := Lib.hid ((Whole.below H7.out hbu (Whole.lt H7.out)))
  clear H4 H8 H6 H7
  have hcl := cgrown q1.heap.size d0 hdk
  go_wp2_with fail
  refine hcl.mono ?_
  rintro e ux ⟨⟨sx, Ax, Cx, lx, rfl, hsxa, hsxb, hlx, hokx, hcav⟩, ht⟩
  clear hcl hdk
  have hszux : d0.heap.size ≤ ux.heap.size := Turn.size ht
  have HOKx := Lib.hid hokx
  clear hokx
  have H13 : Hid (Below w.heap.size w ux) := Lib.hid ((base_turn H9.out ht (by omega)))
  have H14 : Hid (AlV ux (Off [q1.heap.size, (u1.heap.size + 1), u1.heap.size]) (.agg (alc a.free a.seed a.fresh (.slice Ama a.macs.length cma) (.slice Aba a.boxes.length cba))) a) := Lib.hid ((AlV.turn H10.out ht (by simp) (Turn.size ht)))
  have H15 : Hid (ALRow ux u1.heap.size a.free a.seed a.fresh (.slice Ama a.macs.length cma) (.slice Aba a.boxes.length cba)) := Lib.hid (((ht).2.2.oth _ _ _ (by omega) H11.out))
  have H16 : Hid (TGRow ux (u1.heap.size + 1) K) := Lib.hid (((ht).2.2.oth _ _ _ (by omega) H12.out))
  clear H9 H10 H11 H12
  have H17 : Hid (Cavs ux (Off [q1.heap.size, (u1.heap.size + 1), u1.heap.size]) Ax Cx lx) := Lib.hid (Cavs.mono hcav fun b _ hb y hy => by simp at hy; omega)
  clear hcav ht
  have hcl := dnew A1 _ c1 l1 ux HN1.out ((HI1.out.below H13.out).mono (Below.size H13.out))
  go_wp2_with fail
  refine hcl.mono ?_
  rintro e d1 ⟨rfl, hdk, hbu⟩
  clear hcl
  have hsd1 : ux.heap.size < d1.heap.size := hdk.lt
  have H18 : Hid (AlV ux (Off [ux.heap.size, q1.heap.size, (u1.heap.size + 1), u1.heap.size]) (.agg (alc a.free a.seed a.fresh (.slice Ama a.macs.length cma) (.slice Aba a.boxes.length cba))) a) := Lib.hid (AlV.grow H14.out (by omega))
  have H19 : Hid (Cavs ux (Off [ux.heap.size, q1.heap.size, (u1.heap.size + 1), u1.heap.size]) Ax Cx lx) := Lib.hid ((Cavs.grow H17.out (by omega)))
  clear H14 H17
  have H20 : Hid (Below w.heap.size w d1) := Lib.hid ((Below.trans H13.out (Below.mono hbu (Below.size H13.out))))
  have H21 : Hid (AlV d1 (Off [ux.heap.size, q1.heap.size, (u1.heap.size + 1), u1.heap.size]) (.agg (alc a.free a.seed a.fresh (.slice Ama a.macs.length cma) (.slice Aba a.boxes.length cba))) a) := Lib.hid ((AlV.below H18.out hbu (Nat.le_refl _)))
  have H22 : Hid (ALRow d1 u1.heap.size a.free a.seed a.fresh (.slice Ama a.macs.length cma) (.slice Aba a.boxes.length cba)) := Lib.hid ((Whole.below H15.out hbu (Whole.lt H15.out)))
  have H23 : Hid (TGRow d1 (u1.heap.size + 1) K) := Lib.hid ((Whole.below H16.out hbu (Whole.lt H16.out)))
  have H24 : Hid (Cavs d1 (Off [ux.heap.size, q1.heap.size, (u1.heap.size + 1), u1.heap.size]) Ax Cx lx) := Lib.hid ((Cavs.below H19.out hbu (Nat.le_refl _)))
  clear H13 H18 H15 H16 H19
  have hcl := cgrown ux.heap.size d1 hdk
  go_wp2_with fail
  refine hcl.mono ?_
  rintro e uy ⟨⟨sy, Ay, Cy, ly, rfl, hsya, hsyb, hly, hoky, hcav⟩, ht⟩
  clear hcl hdk
  have hszuy : d1.heap.size ≤ uy.heap.size := Turn.size ht
  have HOKy := Lib.hid hoky
  clear hoky
  have H25 : Hid (Below w.heap.size w uy) := Lib.hid ((base_turn H20.out ht (by omega)))
  have H26 : Hid (AlV uy (Off [ux.heap.size, q1.heap.size, (u1.heap.size + 1), u1.heap.size]) (.agg (alc a.free a.seed a.fresh (.slice Ama a.macs.length cma) (.slice Aba a.boxes.length cba))) a) := Lib.hid ((AlV.turn H21.out ht (by simp) (Turn.size ht)))
  have H27 : Hid (ALRow uy u1.heap.size a.free a.seed a.fresh (.slice Ama a.macs.length cma) (.slice Aba a.boxes.length cba)) := Lib.hid (((ht).2.2.oth _ _ _ (by omega) H22.out))
  have H28 : Hid (TGRow uy (u1.heap.size + 1) K) := Lib.hid (((ht).2.2.oth _ _ _ (by omega) H23.out))
  have H29 : Hid (Cavs uy (Off [ux.heap.size, q1.heap.size, (u1.heap.size + 1), u1.heap.size]) Ax Cx lx) := Lib.hid ((Cavs.turn H24.out ht (by simp)))
  clear H20 H21 H22 H23 H24
  have H30 : Hid (Cavs uy (Off [ux.heap.size, q1.heap.size, (u1.heap.size + 1), u1.heap.size]) Ay Cy ly) := Lib.hid (Cavs.mono hcav fun b _ hb y hy => by simp at hy; omega)
  clear hcav ht
  go_upto_region 3 with fail
  obtain ⟨q0, hq⟩ : ∃ q, q = (uy.alloc (.cells #[.int .i64 sx, .int .i64 0, .slice Ax lx.length Cx] 46)).alloc (.cells #[.int .i64 sy, .int .i64 0, .slice Ay ly.length Cy] 46) := ⟨_, rfl⟩
  rw [← hq]
  have hbq : Below uy.heap.size uy q0 := by rw [hq]; exact ((Below.refl _ _).alloc (Nat.le_refl _) _).alloc (by simp) _
  have hrx : Whole q0 uy.heap.size 46 #[.int .i64 sx, .int .i64 0, .slice Ax lx.length Cx] := by rw [hq]; exact (Whole.here _ _ _).alloc _
  have hry : Whole q0 (uy.heap.size + 1) 46 #[.int .i64 sy, .int .i64 0, .slice Ay ly.length Cy] := by rw [hq]; exact Whole.at_ _ _ _ _ (by simp)
  have hsq0 : uy.heap.size + 2 ≤ q0.heap.size := by rw [hq]; simp
  clear hq
  have H31 : Hid (AlV uy (Off [uy.heap.size, ux.heap.size, q1.heap.size, (u1.heap.size + 1), u1.heap.size]) (.agg (alc a.free a.seed a.fresh (.slice Ama a.macs.length cma) (.slice Aba a.boxes.length cba))) a) := Lib.hid (AlV.grow H26.out (by omega))
  have H32 : Hid (Cavs uy (Off [uy.heap.size, ux.heap.size, q1.heap.size, (u1.heap.size + 1), u1.heap.size]) Ax Cx lx) := Lib.hid ((Cavs.grow H29.out (by omega)))
  have H33 : Hid (Cavs uy (Off [uy.heap.size, ux.heap.size, q1.heap.size, (u1.heap.size + 1), u1.heap.size]) Ay Cy ly) := Lib.hid ((Cavs.grow H30.out (by omega)))
  clear H26 H29 H30
  have H34 : Hid (AlV uy (Off [(uy.heap.size + 1), uy.heap.size, ux.heap.size, q1.heap.size, (u1.heap.size + 1), u1.heap.size]) (.agg (alc a.free a.seed a.fresh (.slice Ama a.macs.length cma) (.slice Aba a.boxes.length cba))) a) := Lib.hid (AlV.grow H31.out (by omega))
  have H35 : Hid (Cavs uy (Off [(uy.heap.size + 1), uy.heap.size, ux.heap.size, q1.heap.size, (u1.heap.size + 1), u1.heap.size]) Ax Cx lx) := Lib.hid ((Cavs.grow H32.out (by omega)))
  have H36 : Hid (Cavs uy (Off [(uy.heap.size + 1), uy.heap.size, ux.heap.size, q1.heap.size, (u1.heap.size + 1), u1.heap.size]) Ay Cy ly) := Lib.hid ((Cavs.grow H33.out (by omega)))
  clear H31 H32 H33
  have H37 : Hid (Below w.heap.size w q0) := Lib.hid ((Below.trans H25.out (Below.mono hbq (Below.size H25.out))))
  have H38 : Hid (AlV q0 (Off [(uy.heap.size + 1), uy.heap.size, ux.heap.size, q1.heap.size, (u1.heap.size + 1), u1.heap.size]) (.agg (alc a.free a.seed a.fresh (.slice Ama a.macs.length cma) (.slice Aba a.boxes.length cba))) a) := Lib.hid ((AlV.below H34.out hbq (Nat.le_refl _)))
  have H39 : Hid (ALRow q0 u1.heap.size a.free a.seed a.fresh (.slice Ama a.macs.length cma) (.slice Aba a.boxes.length cba)) := Lib.hid ((Whole.below H27.out hbq (Whole.lt H27.out)))
  have H40 : Hid (TGRow q0 (u1.heap.size + 1) K) := Lib.hid ((Whole.below H28.out hbq (Whole.lt H28.out)))
  have H41 : Hid (Cavs q0 (Off [(uy.heap.size + 1), uy.heap.size, ux.heap.size, q1.heap.size, (u1.heap.size + 1), u1.heap.size]) Ax Cx lx) := Lib.hid ((Cavs.below H35.out hbq (Nat.le_refl _)))
  have H42 : Hid (Cavs q0 (Off [(uy.heap.size + 1), uy.heap.size, ux.heap.size, q1.heap.size, (u1.heap.size + 1), u1.heap.size]) Ay Cy ly) := Lib.hid ((Cavs.below H36.out hbq (Nat.le_refl _)))
  clear H25 H34 H27 H28 H35 H36
  have H43 : Hid (Whole q0 uy.heap.size 46 #[.int .i64 sx, .int .i64 0, .slice Ax lx.length Cx]) := Lib.hid (hrx)
  have H44 : Hid (Whole q0 (uy.heap.size + 1) 46 #[.int .i64 sy, .int .i64 0, .slice Ay ly.length Cy]) := Lib.hid (hry)
  clear hbq hrx hry
  have HKEEP := Lib.hid (And.intro H37.out (And.intro H38.out (And.intro H39.out (And.intro H40.out (And.intro H41.out (And.intro H42.out (And.intro H43.out H44.out)))))))
  go_upto_if 30 with fail
  go_cut [] (fun wx => ∃ (sy : Int) (Ay : Option Addr) (Cy : Nat) (ly : List Cav), 1 ≤ sy ∧ sy ≤ 3 ∧ ly.length ≤ 4 ∧ (∀ x ∈ ly, cvok x ∧ Cwf x) ∧ Below w.heap.size w wx ∧ AlV wx (Off [(uy.heap.size + 1), uy.heap.size, ux.heap.size, q1.heap.size, (u1.heap.size + 1), u1.heap.size]) (.agg (alc a.free a.seed a.fresh (.slice Ama a.macs.length cma) (.slice Aba a.boxes.length cba))) a ∧ ALRow wx u1.heap.size a.free a.seed a.fresh (.slice Ama a.macs.length cma) (.slice Aba a.boxes.length cba) ∧ TGRow wx (u1.heap.size + 1) K ∧ Cavs wx (Off [(uy.heap.size + 1), uy.heap.size, ux.heap.size, q1.heap.size, (u1.heap.size + 1), u1.heap.size]) Ax Cx lx ∧ Cavs wx (Off [(uy.heap.size + 1), uy.heap.size, ux.heap.size, q1.heap.size, (u1.heap.size + 1), u1.heap.size]) Ay Cy ly ∧ Whole wx uy.heap.size 46 #[.int .i64 sx, .int .i64 0, .slice Ax lx.length Cx] ∧ Whole wx (uy.heap.size + 1) 46 #[.int .i64 sy, .int .i64 0, .slice Ay ly.length Cy] ∧ q0.heap.size ≤ wx.heap.size)
  case first =>
    cases sm with
    | false =>
      go_wp2_with fail
      go_meet
      exact ⟨sy, Ay, Cy, ly, hsya, hsyb, hly, HOKy.out, HKEEP.out.1, HKEEP.out.2.1, HKEEP.out.2.2.1, HKEEP.out.2.2.2.1, HKEEP.out.2.2.2.2.1, HKEEP.out.2.2.2.2.2.1, HKEEP.out.2.2.2.2.2.2.1, HKEEP.out.2.2.2.2.2.2.2, Nat.le_refl _⟩
    | true =>
      clear HKEEP
      have hcl := dnew A0 _ c0 l0 q0 HN0.out ((HI0.out.below H37.out).mono (Below.size H37.out))
      go_wp2_with fail
      refine hcl.mono ?_
      rintro e d2 ⟨rfl, hdk, hbu⟩
      clear hcl
      have hsd2 : q0.heap.size < d2.heap.size := hdk.lt
      have H45 : Hid (AlV q0 (Off [q0.heap.size, (uy.heap.size + 1), uy.heap.size, ux.heap.size, q1.heap.size, (u1.heap.size + 1), u1.heap.size]) (.agg (alc a.free a.seed a.fresh (.slice Ama a.macs.length cma) (.slice Aba a.boxes.length cba))) a) := Lib.hid (AlV.grow H38.out (by omega))
      have H46 : Hid (Cavs q0 (Off [q0.heap.size, (uy.heap.size + 1), uy.heap.size, ux.heap.size, q1.heap.size, (u1.heap.size + 1), u1.heap.size]) Ax Cx lx) := Lib.hid ((Cavs.grow H41.out (by omega)))
      have H47 : Hid (Cavs q0 (Off [q0.heap.size, (uy.heap.size + 1), uy.heap.size, ux.heap.size, q1.heap.size, (u1.heap.size + 1), u1.heap.size]) Ay Cy ly) := Lib.hid ((Cavs.grow H42.out (by omega)))
      clear H38 H41 H42
      have H48 : Hid (Below w.heap.size w d2) := Lib.hid ((Below.trans H37.out (Below.mono hbu (Below.size H37.out))))
      have H49 : Hid (AlV d2 (Off [q0.heap.size, (uy.heap.size + 1), uy.heap.size, ux.heap.size, q1.heap.size, (u1.heap.size + 1), u1.heap.size]) (.agg (alc a.free a.seed a.fresh (.slice Ama a.macs.length cma) (.slice Aba a.boxes.length cba))) a) := Lib.hid ((AlV.below H45.out hbu (Nat.le_refl _)))
      have H50 : Hid (ALRow d2 u1.heap.size a.free a.seed a.fresh (.slice Ama a.macs.length cma) (.slice Aba a.boxes.length cba)) := Lib.hid ((Whole.below H39.out hbu (Whole.lt H39.out)))
      have H51 : Hid (TGRow d2 (u1.heap.size + 1) K) := Lib.hid ((Whole.below H40.out hbu (Whole.lt H40.out)))
      have H52 : Hid (Cavs d2 (Off [q0.heap.size, (uy.heap.size + 1), uy.heap.size, ux.heap.size, q1.heap.size, (u1.heap.size + 1), u1.heap.size]) Ax Cx lx) := Lib.hid ((Cavs.below H46.out hbu (Nat.le_refl _)))
      have H53 : Hid (Cavs d2 (Off [q0.heap.size, (uy.heap.size + 1), uy.heap.size, ux.heap.size, q1.heap.size, (u1.heap.size + 1), u1.heap.size]) Ay Cy ly) := Lib.hid ((Cavs.below H47.out hbu (Nat.le_refl _)))
      have H54 : Hid (Whole d2 uy.heap.size 46 #[.int .i64 sx, .int .i64 0, .slice Ax lx.length Cx]) := Lib.hid ((Whole.below H43.out hbu (Whole.lt H43.out)))
      have H55 : Hid (Whole d2 (uy.heap.size + 1) 46 #[.int .i64 sy, .int .i64 0, .slice Ay ly.length Cy]) := Lib.hid ((Whole.below H44.out hbu (Whole.lt H44.out)))
      clear H37 H45 H39 H40 H46 H47 H43 H44
      have hcl := cgrown q0.heap.size d2 hdk
      go_wp2_with fail
      refine hcl.mono ?_
      rintro e uz ⟨⟨sz, Az, Cz, lz, rfl, hsza, hszb, hlz, hokz, hcav⟩, ht⟩
      clear hcl hdk
      have hszuz : d2.heap.size ≤ uz.heap.size := Turn.size ht
      have HOKz := Lib.hid hokz
      clear hokz
      have H56 : Hid (Below w.heap.size w uz) := Lib.hid ((base_turn H48.out ht (by omega)))
      have H57 : Hid (AlV uz (Off [q0.heap.size, (uy.heap.size + 1), uy.heap.size, ux.heap.size, q1.heap.size, (u1.heap.size + 1), u1.heap.size]) (.agg (alc a.free a.seed a.fresh (.slice Ama a.macs.length cma) (.slice Aba a.boxes.length cba))) a) := Lib.hid ((AlV.turn H49.out ht (by simp) (Turn.size ht)))
      have H58 : Hid (ALRow uz u1.heap.size a.free a.seed a.fresh (.slice Ama a.macs.length cma) (.slice Aba a.boxes.length cba)) := Lib.hid (((ht).2.2.oth _ _ _ (by omega) H50.out))
      have H59 : Hid (TGRow uz (u1.heap.size + 1) K) := Lib.hid (((ht).2.2.oth _ _ _ (by omega) H51.out))
      have H60 : Hid (Cavs uz (Off [q0.heap.size, (uy.heap.size + 1), uy.heap.size, ux.heap.size, q1.heap.size, (u1.heap.size + 1), u1.heap.size]) Ax Cx lx) := Lib.hid ((Cavs.turn H52.out ht (by simp)))
      have H61 : Hid (Cavs uz (Off [q0.heap.size, (uy.heap.size + 1), uy.heap.size, ux.heap.size, q1.heap.size, (u1.heap.size + 1), u1.heap.size]) Ay Cy ly) := Lib.hid ((Cavs.turn H53.out ht (by simp)))
      have H62 : Hid (Whole uz uy.heap.size 46 #[.int .i64 sx, .int .i64 0, .slice Ax lx.length Cx]) := Lib.hid (((ht).2.2.oth _ _ _ (by omega) H54.out))
      have H63 : Hid (Whole uz (uy.heap.size + 1) 46 #[.int .i64 sy, .int .i64 0, .slice Ay ly.length Cy]) := Lib.hid (((ht).2.2.oth _ _ _ (by omega) H55.out))
      clear H48 H49 H50 H51 H52 H53 H54 H55
      have H64 : Hid (Cavs uz (Off [q0.heap.size, (uy.heap.size + 1), uy.heap.size, ux.heap.size, q1.heap.size, (u1.heap.size + 1), u1.heap.size]) Az Cz lz) := Lib.hid (Cavs.mono hcav fun b _ hb y hy => by simp at hy; omega)
      clear hcav ht
      go_wp2_with (first
        | (with_reducible refine wpList_store_mint rfl _ _ rfl (g := (uy.heap.size + 1)) rfl rfl H63.out ?_))
      go_meet
      exact ⟨sz, Az, Cz, lz, hsza, hszb, hlz, HOKz.out, below_setRow H56.out (by omega) _, AlV.mono (AlV.store H57.out (by simp) _) (fun b _ h y hy => h y (List.mem_cons_of_mem _ hy)), Whole.setRow_far H58.out (by omega) _, Whole.setRow_far H59.out (by omega) _, (Cavs.store H60.out (by simp) _).mono (fun b _ h y hy => h y (List.mem_cons_of_mem _ hy)), (Cavs.store H64.out (by simp) _).mono (fun b _ h y hy => h y (List.mem_cons_of_mem _ hy)), Whole.setRow_far H62.out (by omega) _, Whole.setRow H63.out _, by simp; omega⟩
  case rest =>
    rename_i hcut
    clear HKEEP HOKy hsya hsyb hly H37 H38 H39 H40 H41 H42 H43 H44
    clear sy Ay Cy ly
    obtain ⟨sy, Ay, Cy, ly, hsya, hsyb, hly, hoky, f1, f2, f3, f4, f5, f6, f7, f8, hswc⟩ := hcut
    have HOKy := Lib.hid hoky
    clear hoky
    have H65 : Hid (Below w.heap.size w wc) := Lib.hid f1
    have H66 : Hid (AlV wc (Off [(uy.heap.size + 1), uy.heap.size, ux.heap.size, q1.heap.size, (u1.heap.size + 1), u1.heap.size]) (.agg (alc a.free a.seed a.fresh (.slice Ama a.macs.length cma) (.slice Aba a.boxes.length cba))) a) := Lib.hid f2
    have H67 : Hid (ALRow wc u1.heap.size a.free a.seed a.fresh (.slice Ama a.macs.length cma) (.slice Aba a.boxes.length cba)) := Lib.hid f3
    have H68 : Hid (TGRow wc (u1.heap.size + 1) K) := Lib.hid f4
    have H69 : Hid (Cavs wc (Off [(uy.heap.size + 1), uy.heap.size, ux.heap.size, q1.heap.size, (u1.heap.size + 1), u1.heap.size]) Ax Cx lx) := Lib.hid f5
    have H70 : Hid (Cavs wc (Off [(uy.heap.size + 1), uy.heap.size, ux.heap.size, q1.heap.size, (u1.heap.size + 1), u1.heap.size]) Ay Cy ly) := Lib.hid f6
    have H71 : Hid (Whole wc uy.heap.size 46 #[.int .i64 sx, .int .i64 0, .slice Ax lx.length Cx]) := Lib.hid f7
    have H72 : Hid (Whole wc (uy.heap.size + 1) 46 #[.int .i64 sy, .int .i64 0, .slice Ay ly.length Cy]) := Lib.hid f8
    clear f1 f2 f3 f4 f5 f6 f7 f8
    have ks : ∀ z, Whole (wc.alloc (.cells z 49)) wc.heap.size 49 z := fun z => Whole.here _ _ _
    go_upto_region 6 with (first
      | (with_reducible refine wpList_load_tag rfl _ rfl rfl H68.out (tag_size hlK) ?_)
      | (with_reducible refine wpList_build_epoch rfl _ _ rfl hlK rfl rfl ?_)
      | (with_reducible refine wpList_store_epo rfl _ _ rfl (g := wc.heap.size) rfl rfl (ks _) rfl ?_))
    obtain ⟨q5, hq⟩ : ∃ q, q = (wc.alloc (.cells #[.int .i64 0, .int .u8 0, .int .u8 0, .int .u8 0, .int .u8 0, .int .u8 0, .int .u8 0, .int .u8 0, .int .u8 0, .int .u8 0, .int .u8 0, .int .u8 0, .int .u8 0, .int .u8 0, .int .u8 0, .int .u8 0, .int .u8 0, .int .u8 0, .int .u8 0, .int .u8 0, .int .u8 0, .int .u8 0, .int .u8 0, .int .u8 0, .int .u8 0, .int .u8 0, .int .u8 0, .int .u8 0, .int .u8 0, .int .u8 0, .int .u8 0, .int .u8 0, .int .u8 0] 49)).setRow wc.heap.size (epl 1 K).toArray := ⟨_, rfl⟩
    rw [← hq]
    have hbq : Below wc.heap.size wc q5 := by rw [hq]; exact below_setRow ((Below.refl _ _).alloc (Nat.le_refl _) _) (Nat.le_refl _) _
    have hre : Whole q5 wc.heap.size 49 (epl 1 K).toArray := by rw [hq]; exact Whole.setRow (Whole.here _ _ _) _
    have hsq5 : wc.heap.size < q5.heap.size := hre.lt
    clear hq ks
    have H73 : Hid (AlV wc (Off [wc.heap.size, (uy.heap.size + 1), uy.heap.size, ux.heap.size, q1.heap.size, (u1.heap.size + 1), u1.heap.size]) (.agg (alc a.free a.seed a.fresh (.slice Ama a.macs.length cma) (.slice Aba a.boxes.length cba))) a) := Lib.hid (AlV.grow H66.out (by omega))
    have H74 : Hid (Cavs wc (Off [wc.heap.size, (uy.heap.size + 1), uy.heap.size, ux.heap.size, q1.heap.size, (u1.heap.size + 1), u1.heap.size]) Ax Cx lx) := Lib.hid ((Cavs.grow H69.out (by omega)))
    have H75 : Hid (Cavs wc (Off [wc.heap.size, (uy.heap.size + 1), uy.heap.size, ux.heap.size, q1.heap.size, (u1.heap.size + 1), u1.heap.size]) Ay Cy ly) := Lib.hid ((Cavs.grow H70.out (by omega)))
    clear H66 H69 H70
    have H76 : Hid (Below w.heap.size w q5) := Lib.hid ((Below.trans H65.out (Below.mono hbq (Below.size H65.out))))
    have H77 : Hid (AlV q5 (Off [wc.heap.size, (uy.heap.size + 1), uy.heap.size, ux.heap.size, q1.heap.size, (u1.heap.size + 1), u1.heap.size]) (.agg (alc a.free a.seed a.fresh (.slice Ama a.macs.length cma) (.slice Aba a.boxes.length cba))) a) := Lib.hid ((AlV.below H73.out hbq (Nat.le_refl _)))
    have H78 : Hid (ALRow q5 u1.heap.size a.free a.seed a.fresh (.slice Ama a.macs.length cma) (.slice Aba a.boxes.length cba)) := Lib.hid ((Whole.below H67.out hbq (Whole.lt H67.out)))
    have H79 : Hid (TGRow q5 (u1.heap.size + 1) K) := Lib.hid ((Whole.below H68.out hbq (Whole.lt H68.out)))
    have H80 : Hid (Cavs q5 (Off [wc.heap.size, (uy.heap.size + 1), uy.heap.size, ux.heap.size, q1.heap.size, (u1.heap.size + 1), u1.heap.size]) Ax Cx lx) := Lib.hid ((Cavs.below H74.out hbq (Nat.le_refl _)))
    have H81 : Hid (Cavs q5 (Off [wc.heap.size, (uy.heap.size + 1), uy.heap.size, ux.heap.size, q1.heap.size, (u1.heap.size + 1), u1.heap.size]) Ay Cy ly) := Lib.hid ((Cavs.below H75.out hbq (Nat.le_refl _)))
    have H82 : Hid (Whole q5 uy.heap.size 46 #[.int .i64 sx, .int .i64 0, .slice Ax lx.length Cx]) := Lib.hid ((Whole.below H71.out hbq (Whole.lt H71.out)))
    have H83 : Hid (Whole q5 (uy.heap.size + 1) 46 #[.int .i64 sy, .int .i64 0, .slice Ay ly.length Cy]) := Lib.hid ((Whole.below H72.out hbq (Whole.lt H72.out)))
    clear H65 H73 H67 H68 H74 H75 H71 H72
    have H84 : Hid (Whole q5 wc.heap.size 49 (epl 1 K).toArray) := Lib.hid (hre)
    clear hbq hre
    have ha0 : a.macs.length ≤ 0 := by rw [HKA.out.1]; exact Nat.le_refl _
    have HGDa : Hid (GoodA a ∧ a.free = true) := Lib.hid (by rw [HKA.out.1]; exact ⟨good_key1, rfl⟩)
    have hcl := cmint (K := K) 1 sx H77.out (by omega) hlK (Tables.below HT.out (Nat.le_refl _) H76.out)
    obtain ⟨R, hR⟩ : ∃ R, R = pMint a 1 K sx := ⟨_, rfl⟩
    have HRb := Lib.hid (mint_chn HGDa.out.1 HGDa.out.2 (by omega) ⟨hsxa, hsxb⟩ hR)
    rw [← hR] at hcl
    clear hR
    obtain ⟨b, px, ex⟩ := R
    dsimp only at HRb
    obtain ⟨he, hg1, hg2, hx, hpc, hch⟩ := HRb.out
    subst he
    have HGDb := Lib.hid (And.intro hg1 hg2)
    have hnb : b.macs.length ≤ a.macs.length + 2 := by obtain ⟨x, hx1, hx2⟩ := hx; rw [hx1, List.length_append]; omega
    have HXb := Lib.hid hx
    have HCHb := Lib.hid (And.intro hpc hch)
    clear hg1 hg2 hx hpc hch HRb
    unfold PssR at hcl
    dsimp only at hcl
    have km0 := (H82.out).cell 0
    go_wp2_with (first
      | (with_reducible refine wpList_load_alg rfl _ rfl rfl H78.out (alc_size _ _ _ _ _) ?_)
      | (with_reducible refine wpList_load_epo rfl _ rfl rfl H84.out ?_))
    refine hcl.mono ?_
    rintro e u2 ⟨⟨v, x, rfl, hvb, hvq⟩, hbu⟩
    clear hcl km0
    obtain ⟨Amb, cmb, Abb, cbb, rfl, hM, hBx, hA⟩ := hvb
    obtain ⟨Aqx, cqx, rfl, hcs, hlqx⟩ := hvq
    have hsu2 : q5.heap.size ≤ u2.heap.size := hbu.size
    have hlast : ∀ y ∈ ([wc.heap.size, (uy.heap.size + 1), uy.heap.size, ux.heap.size, q1.heap.size, (u1.heap.size + 1), u1.heap.size] : List Nat), y < q5.heap.size := by intro y hy; simp at hy; omega
    have H85 : Hid (Below w.heap.size w u2) := Lib.hid ((Below.trans H76.out (Below.mono hbu (Below.size H76.out))))
    have H86 : Hid (ALRow u2 u1.heap.size a.free a.seed a.fresh (.slice Ama a.macs.length cma) (.slice Aba a.boxes.length cba)) := Lib.hid ((Whole.below H78.out hbu (Whole.lt H78.out)))
    have H87 : Hid (TGRow u2 (u1.heap.size + 1) K) := Lib.hid ((Whole.below H79.out hbu (Whole.lt H79.out)))
    have H88 : Hid (Cavs u2 (Off [wc.heap.size, (uy.heap.size + 1), uy.heap.size, ux.heap.size, q1.heap.size, (u1.heap.size + 1), u1.heap.size]) Ax Cx lx) := Lib.hid ((Cavs.below H80.out hbu (Nat.le_refl _)))
    have H89 : Hid (Cavs u2 (Off [wc.heap.size, (uy.heap.size + 1), uy.heap.size, ux.heap.size, q1.heap.size, (u1.heap.size + 1), u1.heap.size]) Ay Cy ly) := Lib.hid ((Cavs.below H81.out hbu (Nat.le_refl _)))
    have H90 : Hid (Whole u2 uy.heap.size 46 #[.int .i64 sx, .int .i64 0, .slice Ax lx.length Cx]) := Lib.hid ((Whole.below H82.out hbu (Whole.lt H82.out)))
    have H91 : Hid (Whole u2 (uy.heap.size + 1) 46 #[.int .i64 sy, .int .i64 0, .slice Ay ly.length Cy]) := Lib.hid ((Whole.below H83.out hbu (Whole.lt H83.out)))
    have H92 : Hid (Whole u2 wc.heap.size 49 (epl 1 K).toArray) := Lib.hid ((Whole.below H84.out hbu (Whole.lt H84.out)))
    clear H76 H78 H79 H80 H81 H82 H83 H84
    have H93 : Hid (AlV u2 (Off [wc.heap.size, (uy.heap.size + 1), uy.heap.size, ux.heap.size, q1.heap.size, (u1.heap.size + 1), u1.heap.size]) (.agg (alc b.free b.seed b.fresh (.slice Amb b.macs.length cmb) (.slice Abb b.boxes.length cbb))) b) := Lib.hid (AlV.fresh ⟨Amb, cmb, Abb, cbb, rfl, hM, hBx, hA⟩ hlast)
    have H94 : Hid (Cavs u2 (Off [wc.heap.size, (uy.heap.size + 1), uy.heap.size, ux.heap.size, q1.heap.size, (u1.heap.size + 1), u1.heap.size]) Aqx cqx px.cavs) := Lib.hid (Cavs.mono hcs fun b _ hq => hq.elim id fun hq y hy => by have := hlast y hy; omega)
    clear hM hBx hA hbu hcs hlast
    have ks0 : ∀ z0 : Array Value, Whole (u2.alloc (.cells z0 51)) u1.heap.size 32 (alc a.free a.seed a.fresh (.slice Ama a.macs.length cma) (.slice Aba a.boxes.length cba)) := fun _ => (Whole.below H86.out (Below.alloc (Below.refl _ _) (Nat.le_refl _) _) (Whole.lt H86.out))
    have ks1 : ∀ z0 : Array Value, Whole ((u2.alloc (.cells z0 51)).setRow u1.heap.size (alc b.free b.seed b.fresh (.slice Amb b.macs.length cmb) (.slice Abb b.boxes.length cbb))) u2.heap.size 51 z0 := fun _ => (Whole.setRow_far (Whole.here _ _ _) (by omega) _)
    go_upto_region 7 with (first
      | (with_reducible refine wpList_store_alg rfl _ _ rfl (g := u1.heap.size) rfl rfl (ks0 _) (alc_size _ _ _ _ _) (alc_size _ _ _ _ _) (alc_one _ _ _ _ _ _ _ _ _) ?_)
      | (with_reducible refine wpList_store_pass rfl _ _ rfl (g := u2.heap.size) rfl rfl (ks1 _) rfl (psl_size _ _ _ _) (psl_one _ _ _ _ _ _) ?_))
    clear ks0 ks1
    rw [zps_lit]
    obtain ⟨q3, hq⟩ : ∃ q, q = (((u2.alloc (.cells zps 51)).setRow u1.heap.size (alc b.free b.seed b.fresh (.slice Amb b.macs.length cmb) (.slice Abb b.boxes.length cbb))).setRow u2.heap.size (psl px.epoch px.serial (.slice Aqx px.cavs.length cqx) px.tag).toArray) := ⟨_, rfl⟩
    rw [← hq]
    have hsq3 : u2.heap.size + 1 ≤ q3.heap.size := by rw [hq]; simp
    have H95 : Hid (Below w.heap.size w q3) := Lib.hid (by rw [hq]; exact (below_setRow (below_setRow (Below.trans H85.out (Below.mono (Below.alloc (Below.refl _ _) (Nat.le_refl _) _) (Below.size H85.out))) (by omega) _) (by omega) _))
    have H96 : Hid (ALRow q3 u1.heap.size b.free b.seed b.fresh (.slice Amb b.macs.length cmb) (.slice Abb b.boxes.length cbb)) := Lib.hid (by rw [hq]; exact (Whole.setRow_far (Whole.setRow (Whole.below H86.out (Below.alloc (Below.refl _ _) (Nat.le_refl _) _) (Whole.lt H86.out)) _) (by omega) _))
    have H97 : Hid (TGRow q3 (u1.heap.size + 1) K) := Lib.hid (by rw [hq]; exact (Whole.setRow_far (Whole.setRow_far (Whole.below H87.out (Below.alloc (Below.refl _ _) (Nat.le_refl _) _) (Whole.lt H87.out)) (by omega) _) (by omega) _))
    have H98 : Hid (Cavs q3 (Off [u2.heap.size, wc.heap.size, (uy.heap.size + 1), uy.heap.size, ux.heap.size, q1.heap.size, (u1.heap.size + 1), u1.heap.size]) Ax Cx lx) := Lib.hid (by rw [hq]; exact (Cavs.store (Cavs.store (Cavs.below (Cavs.grow H88.out (by omega)) (Below.alloc (Below.refl _ _) (Nat.le_refl _) _) (Nat.le_refl _)) (by simp) _) (by simp) _))
    have H99 : Hid (Cavs q3 (Off [u2.heap.size, wc.heap.size, (uy.heap.size + 1), uy.heap.size, ux.heap.size, q1.heap.size, (u1.heap.size + 1), u1.heap.size]) Ay Cy ly) := Lib.hid (by rw [hq]; exact (Cavs.store (Cavs.store (Cavs.below (Cavs.grow H89.out (by omega)) (Below.alloc (Below.refl _ _) (Nat.le_refl _) _) (Nat.le_refl _)) (by simp) _) (by simp) _))
    have H100 : Hid (Whole q3 uy.heap.size 46 #[.int .i64 sx, .int .i64 0, .slice Ax lx.length Cx]) := Lib.hid (by rw [hq]; exact (Whole.setRow_far (Whole.setRow_far (Whole.below H90.out (Below.alloc (Below.refl _ _) (Nat.le_refl _) _) (Whole.lt H90.out)) (by omega) _) (by omega) _))
    have H101 : Hid (Whole q3 (uy.heap.size + 1) 46 #[.int .i64 sy, .int .i64 0, .slice Ay ly.length Cy]) := Lib.hid (by rw [hq]; exact (Whole.setRow_far (Whole.setRow_far (Whole.below H91.out (Below.alloc (Below.refl _ _) (Nat.le_refl _) _) (Whole.lt H91.out)) (by omega) _) (by omega) _))
    have H102 : Hid (Whole q3 wc.heap.size 49 (epl 1 K).toArray) := Lib.hid (by rw [hq]; exact (Whole.setRow_far (Whole.setRow_far (Whole.below H92.out (Below.alloc (Below.refl _ _) (Nat.le_refl _) _) (Whole.lt H92.out)) (by omega) _) (by omega) _))
    have H103 : Hid (AlV q3 (Off [u2.heap.size, wc.heap.size, (uy.heap.size + 1), uy.heap.size, ux.heap.size, q1.heap.size, (u1.heap.size + 1), u1.heap.size]) (.agg (alc b.free b.seed b.fresh (.slice Amb b.macs.length cmb) (.slice Abb b.boxes.length cbb))) b) := Lib.hid (by rw [hq]; exact (AlV.store (AlV.store (AlV.below (AlV.grow H93.out (by omega)) (Below.alloc (Below.refl _ _) (Nat.le_refl _) _) (Nat.le_refl _)) (by simp) _) (by simp) _))
    have H104 : Hid (Cavs q3 (Off [u2.heap.size, wc.heap.size, (uy.heap.size + 1), uy.heap.size, ux.heap.size, q1.heap.size, (u1.heap.size + 1), u1.heap.size]) Aqx cqx px.cavs) := Lib.hid (by rw [hq]; exact (Cavs.store (Cavs.store (Cavs.below (Cavs.grow H94.out (by omega)) (Below.alloc (Below.refl _ _) (Nat.le_refl _) _) (Nat.le_refl _)) (by simp) _) (by simp) _))
    clear H85 H86 H87 H88 H89 H90 H91 H92 H93 H94
    have H105 : Hid (Whole q3 u2.heap.size 51 (psl px.epoch px.serial (.slice Aqx px.cavs.length cqx) px.tag).toArray) := Lib.hid (by rw [hq]; exact (Whole.setRow (Whole.setRow_far (Whole.here _ _ _) (by omega) _) _))
    clear hq
    go_wp2_with fail
    go_loopw [15, 14] (fun v15 v14 wr => ∃ (i : Nat) (a : Alg) (p : Pss) (Ama Aba Aqk : Option Addr) (cma cba cqk : Nat), v15 = .int .i64 (i : Int) ∧ v14 = .int .i64 0 ∧ i ≤ lx.length ∧ a.macs.length ≤ 2 + 2 * i ∧ (GoodA a ∧ a.free = true) ∧ p.tag.length = 32 ∧ (p.cavs = lx.take i ∧ Chn a K (msgs sx p.cavs) p.tag) ∧ AlV wr (Off [u2.heap.size, wc.heap.size, (uy.heap.size + 1), uy.heap.size, ux.heap.size, q1.heap.size, (u1.heap.size + 1), u1.heap.size]) (.agg (alc a.free a.seed a.fresh (.slice Ama a.macs.length cma) (.slice Aba a.boxes.length cba))) a ∧ ALRow wr u1.heap.size a.free a.seed a.fresh (.slice Ama a.macs.length cma) (.slice Aba a.boxes.length cba) ∧ Cavs wr (Off [u2.heap.size, wc.heap.size, (uy.heap.size + 1), uy.heap.size, ux.heap.size, q1.heap.size, (u1.heap.size + 1), u1.heap.size]) Aqk cqk p.cavs ∧ Whole wr u2.heap.size 51 (psl p.epoch p.serial (.slice Aqk p.cavs.length cqk) p.tag).toArray ∧ (Below w.heap.size w wr) ∧ (TGRow wr (u1.heap.size + 1) K) ∧ (Cavs wr (Off [u2.heap.size, wc.heap.size, (uy.heap.size + 1), uy.heap.size, ux.heap.size, q1.heap.size, (u1.heap.size + 1), u1.heap.size]) Ax Cx lx) ∧ (Cavs wr (Off [u2.heap.size, wc.heap.size, (uy.heap.size + 1), uy.heap.size, ux.heap.size, q1.heap.size, (u1.heap.size + 1), u1.heap.size]) Ay Cy ly) ∧ (Whole wr uy.heap.size 46 #[.int .i64 sx, .int .i64 0, .slice Ax lx.length Cx]) ∧ (Whole wr (uy.heap.size + 1) 46 #[.int .i64 sy, .int .i64 0, .slice Ay ly.length Cy]) ∧ (Whole wr wc.heap.size 49 (epl 1 K).toArray)) (fun v15 _ _ => lx.length - (intOf v15).toNat)
    case atStart => exact ⟨0, b, px, _, _, _, _, _, _, rfl, rfl, by omega, by omega, HGDb.out, hlqx, ⟨by rw [HCHb.out.1]; rfl, by rw [HCHb.out.1]; exact HCHb.out.2⟩, H103.out, H96.out, H104.out, H105.out, H95.out, H97.out, H98.out, H99.out, H100.out, H101.out, H102.out⟩
    case round =>
      obtain ⟨i, a, p, Ama, Aba, Aqk, cma, cba, cqk, rfl, rfl, hi, hna, hgd, htl, hch, f1, f2, f3, f4, k0, k1, k2, k3, k4, k5, k6⟩ := hrel
      clear H95 H96 H97 H98 H99 H100 H101 H102 H103 H104 H105
      have H106 : Hid (Below w.heap.size w wr) := Lib.hid k0
      have H107 : Hid (TGRow wr (u1.heap.size + 1) K) := Lib.hid k1
      have H108 : Hid (Cavs wr (Off [u2.heap.size, wc.heap.size, (uy.heap.size + 1), uy.heap.size, ux.heap.size, q1.heap.size, (u1.heap.size + 1), u1.heap.size]) Ax Cx lx) := Lib.hid k2
      have H109 : Hid (Cavs wr (Off [u2.heap.size, wc.heap.size, (uy.heap.size + 1), uy.heap.size, ux.heap.size, q1.heap.size, (u1.heap.size + 1), u1.heap.size]) Ay Cy ly) := Lib.hid k3
      have H110 : Hid (Whole wr uy.heap.size 46 #[.int .i64 sx, .int .i64 0, .slice Ax lx.length Cx]) := Lib.hid k4
      have H111 : Hid (Whole wr (uy.heap.size + 1) 46 #[.int .i64 sy, .int .i64 0, .slice Ay ly.length Cy]) := Lib.hid k5
      have H112 : Hid (Whole wr wc.heap.size 49 (epl 1 K).toArray) := Lib.hid k6
      have H113 : Hid (AlV wr (Off [u2.heap.size, wc.heap.size, (uy.heap.size + 1), uy.heap.size, ux.heap.size, q1.heap.size, (u1.heap.size + 1), u1.heap.size]) (.agg (alc a.free a.seed a.fresh (.slice Ama a.macs.length cma) (.slice Aba a.boxes.length cba))) a) := Lib.hid (f1)
      have H114 : Hid (ALRow wr u1.heap.size a.free a.seed a.fresh (.slice Ama a.macs.length cma) (.slice Aba a.boxes.length cba)) := Lib.hid (f2)
      have H115 : Hid (Whole wr u2.heap.size 51 (psl p.epoch p.serial (.slice Aqk p.cavs.length cqk) p.tag).toArray) := Lib.hid (f4)
      have H116 : Hid (Cavs wr (Off [u2.heap.size, wc.heap.size, (uy.heap.size + 1), uy.heap.size, ux.heap.size, q1.heap.size, (u1.heap.size + 1), u1.heap.size]) Aqk cqk p.cavs) := Lib.hid (f3)
      have HGDa := Lib.hid hgd
      have HTLa := Lib.hid htl
      have HCHa := Lib.hid hch
      have hpl : p.cavs.length ≤ lx.length := by rw [hch.1, List.length_take]; omega
      clear f1 f2 f3 f4 hgd htl hch k0 k1 k2 k3 k4 k5 k6
      have hsGa : u1.heap.size < wr.heap.size := H114.out.lt
      have hsGp : u2.heap.size < wr.heap.size := H115.out.lt
      by_cases hlt : i < lx.length
      case neg =>
        have hin : ¬ (i : Int) < (lx.length : Int) := by omega
        have km := (H110.out).cell 2
        have hcx : Chn a K (msgs sx lx) p.tag := by have h := HCHa.out.2; rw [HCHa.out.1, List.take_of_length_le (by omega)] at h; exact h
        have HCX0 := Lib.hid hcx
        clear hcx
        obtain ⟨tpx, htpx⟩ : ∃ t, t = p.tag := ⟨_, rfl⟩
        have hTPL : tpx.length = 32 := by rw [htpx]; exact HTLa.out
        have HCX1 : Hid (Chn a K (msgs sx lx) tpx) := Lib.hid (by rw [htpx]; exact HCX0.out)
        have HTPX := Lib.hid htpx
        clear htpx HCX0
        go_upto_region 13 with fail
        clear km
        clear H116
        have hcl := cmint (K := K) 1 sy H113.out (by omega) hlK (Tables.below HT.out (Nat.le_refl _) H106.out)
        obtain ⟨R, hR⟩ : ∃ R, R = pMint a 1 K sy := ⟨_, rfl⟩
        have HRd := Lib.hid (mint_chn HGDa.out.1 HGDa.out.2 (by omega) ⟨hsya, hsyb⟩ hR)
        rw [← hR] at hcl
        clear hR
        obtain ⟨d, py, ey⟩ := R
        dsimp only at HRd
        obtain ⟨he, hg1, hg2, hx, hpc, hch⟩ := HRd.out
        subst he
        have HGDd := Lib.hid (And.intro hg1 hg2)
        have hnd : d.macs.length ≤ a.macs.length + 2 := by obtain ⟨x, hx1, hx2⟩ := hx; rw [hx1, List.length_append]; omega
        have HXd := Lib.hid hx
        have HCHd := Lib.hid (And.intro hpc hch)
        clear hg1 hg2 hx hpc hch HRd
        unfold PssR at hcl
        dsimp only at hcl
        have km0 := (H111.out).cell 0
        go_wp2_with (first
          | (with_reducible refine wpList_load_alg rfl _ rfl rfl H114.out (alc_size _ _ _ _ _) ?_)
          | (with_reducible refine wpList_load_epo rfl _ rfl rfl H112.out ?_))
        refine hcl.mono ?_
        rintro e u4 ⟨⟨v, x, rfl, hvb, hvq⟩, hbu⟩
        clear hcl km0
        obtain ⟨Amd, cmd, Abd, cbd, rfl, hM, hBx, hA⟩ := hvb
        obtain ⟨Aqy, cqy, rfl, hcs, hlqy⟩ := hvq
        have hsu4 : wr.heap.size ≤ u4.heap.size := hbu.size
        have hlast : ∀ y ∈ ([u2.heap.size, wc.heap.size, (uy.heap.size + 1), uy.heap.size, ux.heap.size, q1.heap.size, (u1.heap.size + 1), u1.heap.size] : List Nat), y < wr.heap.size := by intro y hy; simp at hy; omega
        have H117 : Hid (Below w.heap.size w u4) := Lib.hid ((Below.trans H106.out (Below.mono hbu (Below.size H106.out))))
        have H118 : Hid (TGRow u4 (u1.heap.size + 1) K) := Lib.hid ((Whole.below H107.out hbu (Whole.lt H107.out)))
        have H119 : Hid (Cavs u4 (Off [u2.heap.size, wc.heap.size, (uy.heap.size + 1), uy.heap.size, ux.heap.size, q1.heap.size, (u1.heap.size + 1), u1.heap.size]) Ax Cx lx) := Lib.hid ((Cavs.below H108.out hbu (Nat.le_refl _)))
        have H120 : Hid (Cavs u4 (Off [u2.heap.size, wc.heap.size, (uy.heap.size + 1), uy.heap.size, ux.heap.size, q1.heap.size, (u1.heap.size + 1), u1.heap.size]) Ay Cy ly) := Lib.hid ((Cavs.below H109.out hbu (Nat.le_refl _)))
        have H121 : Hid (Whole u4 uy.heap.size 46 #[.int .i64 sx, .int .i64 0, .slice Ax lx.length Cx]) := Lib.hid ((Whole.below H110.out hbu (Whole.lt H110.out)))
        have H122 : Hid (Whole u4 (uy.heap.size + 1) 46 #[.int .i64 sy, .int .i64 0, .slice Ay ly.length Cy]) := Lib.hid ((Whole.below H111.out hbu (Whole.lt H111.out)))
        have H123 : Hid (Whole u4 wc.heap.size 49 (epl 1 K).toArray) := Lib.hid ((Whole.below H112.out hbu (Whole.lt H112.out)))
        have H124 : Hid (ALRow u4 u1.heap.size a.free a.seed a.fresh (.slice Ama a.macs.length cma) (.slice Aba a.boxes.length cba)) := Lib.hid ((Whole.below H114.out hbu (Whole.lt H114.out)))
        have H125 : Hid (Whole u4 u2.heap.size 51 (psl p.epoch p.serial (.slice Aqk p.cavs.length cqk) p.tag).toArray) := Lib.hid ((Whole.below H115.out hbu (Whole.lt H115.out)))
        clear H106 H107 H108 H109 H110 H111 H112 H114 H115
        have H126 : Hid (AlV u4 (Off [u2.heap.size, wc.heap.size, (uy.heap.size + 1), uy.heap.size, ux.heap.size, q1.heap.size, (u1.heap.size + 1), u1.heap.size]) (.agg (alc d.free d.seed d.fresh (.slice Amd d.macs.length cmd) (.slice Abd d.boxes.length cbd))) d) := Lib.hid (AlV.fresh ⟨Amd, cmd, Abd, cbd, rfl, hM, hBx, hA⟩ hlast)
        have H127 : Hid (Cavs u4 (Off [u2.heap.size, wc.heap.size, (uy.heap.size + 1), uy.heap.size, ux.heap.size, q1.heap.size, (u1.heap.size + 1), u1.heap.size]) Aqy cqy py.cavs) := Lib.hid (Cavs.mono hcs fun b _ hq => hq.elim id fun hq y hy => by have := hlast y hy; omega)
        clear hM hBx hA hbu hcs hlast
        have ks0 : ∀ z0 : Array Value, Whole (u4.alloc (.cells z0 51)) u1.heap.size 32 (alc a.free a.seed a.fresh (.slice Ama a.macs.length cma) (.slice Aba a.boxes.length cba)) := fun _ => (Whole.below H124.out (Below.alloc (Below.refl _ _) (Nat.le_refl _) _) (Whole.lt H124.out))
        have ks1 : ∀ z0 : Array Value, Whole ((u4.alloc (.cells z0 51)).setRow u1.heap.size (alc d.free d.seed d.fresh (.slice Amd d.macs.length cmd) (.slice Abd d.boxes.length cbd))) u4.heap.size 51 z0 := fun _ => (Whole.setRow_far (Whole.here _ _ _) (by omega) _)
        go_upto_region 14 with (first
          | (with_reducible refine wpList_store_alg rfl _ _ rfl (g := u1.heap.size) rfl rfl (ks0 _) (alc_size _ _ _ _ _) (alc_size _ _ _ _ _) (alc_one _ _ _ _ _ _ _ _ _) ?_)
          | (with_reducible refine wpList_store_pass rfl _ _ rfl (g := u4.heap.size) rfl rfl (ks1 _) rfl (psl_size _ _ _ _) (psl_one _ _ _ _ _ _) ?_))
        clear ks0 ks1
        rw [zps_lit]
        obtain ⟨q5, hq⟩ : ∃ q, q = (((u4.alloc (.cells zps 51)).setRow u1.heap.size (alc d.free d.seed d.fresh (.slice Amd d.macs.length cmd) (.slice Abd d.boxes.length cbd))).setRow u4.heap.size (psl py.epoch py.serial (.slice Aqy py.cavs.length cqy) py.tag).toArray) := ⟨_, rfl⟩
        rw [← hq]
        have hsq5 : u4.heap.size + 1 ≤ q5.heap.size := by rw [hq]; simp
        have H128 : Hid (Below w.heap.size w q5) := Lib.hid (by rw [hq]; exact (below_setRow (below_setRow (Below.trans H117.out (Below.mono (Below.alloc (Below.refl _ _) (Nat.le_refl _) _) (Below.size H117.out))) (by omega) _) (by omega) _))
        have H129 : Hid (TGRow q5 (u1.heap.size + 1) K) := Lib.hid (by rw [hq]; exact (Whole.setRow_far (Whole.setRow_far (Whole.below H118.out (Below.alloc (Below.refl _ _) (Nat.le_refl _) _) (Whole.lt H118.out)) (by omega) _) (by omega) _))
        have H130 : Hid (Cavs q5 (Off [u4.heap.size, u2.heap.size, wc.heap.size, (uy.heap.size + 1), uy.heap.size, ux.heap.size, q1.heap.size, (u1.heap.size + 1), u1.heap.size]) Ax Cx lx) := Lib.hid (by rw [hq]; exact (Cavs.store (Cavs.store (Cavs.below (Cavs.grow H119.out (by omega)) (Below.alloc (Below.refl _ _) (Nat.le_refl _) _) (Nat.le_refl _)) (by simp) _) (by simp) _))
        have H131 : Hid (Cavs q5 (Off [u4.heap.size, u2.heap.size, wc.heap.size, (uy.heap.size + 1), uy.heap.size, ux.heap.size, q1.heap.size, (u1.heap.size + 1), u1.heap.size]) Ay Cy ly) := Lib.hid (by rw [hq]; exact (Cavs.store (Cavs.store (Cavs.below (Cavs.grow H120.out (by omega)) (Below.alloc (Below.refl _ _) (Nat.le_refl _) _) (Nat.le_refl _)) (by simp) _) (by simp) _))
        have H132 : Hid (Whole q5 uy.heap.size 46 #[.int .i64 sx, .int .i64 0, .slice Ax lx.length Cx]) := Lib.hid (by rw [hq]; exact (Whole.setRow_far (Whole.setRow_far (Whole.below H121.out (Below.alloc (Below.refl _ _) (Nat.le_refl _) _) (Whole.lt H121.out)) (by omega) _) (by omega) _))
        have H133 : Hid (Whole q5 (uy.heap.size + 1) 46 #[.int .i64 sy, .int .i64 0, .slice Ay ly.length Cy]) := Lib.hid (by rw [hq]; exact (Whole.setRow_far (Whole.setRow_far (Whole.below H122.out (Below.alloc (Below.refl _ _) (Nat.le_refl _) _) (Whole.lt H122.out)) (by omega) _) (by omega) _))
        have H134 : Hid (Whole q5 wc.heap.size 49 (epl 1 K).toArray) := Lib.hid (by rw [hq]; exact (Whole.setRow_far (Whole.setRow_far (Whole.below H123.out (Below.alloc (Below.refl _ _) (Nat.le_refl _) _) (Whole.lt H123.out)) (by omega) _) (by omega) _))
        have H135 : Hid (ALRow q5 u1.heap.size d.free d.seed d.fresh (.slice Amd d.macs.length cmd) (.slice Abd d.boxes.length cbd)) := Lib.hid (by rw [hq]; exact (Whole.setRow_far (Whole.setRow (Whole.below H124.out (Below.alloc (Below.refl _ _) (Nat.le_refl _) _) (Whole.lt H124.out)) _) (by omega) _))
        have H136 : Hid (Whole q5 u2.heap.size 51 (psl p.epoch p.serial (.slice Aqk p.cavs.length cqk) p.tag).toArray) := Lib.hid (by rw [hq]; exact (Whole.setRow_far (Whole.setRow_far (Whole.below H125.out (Below.alloc (Below.refl _ _) (Nat.le_refl _) _) (Whole.lt H125.out)) (by omega) _) (by omega) _))
        have H137 : Hid (AlV q5 (Off [u4.heap.size, u2.heap.size, wc.heap.size, (uy.heap.size + 1), uy.heap.size, ux.heap.size, q1.heap.size, (u1.heap.size + 1), u1.heap.size]) (.agg (alc d.free d.seed d.fresh (.slice Amd d.macs.length cmd) (.slice Abd d.boxes.length cbd))) d) := Lib.hid (by rw [hq]; exact (AlV.store (AlV.store (AlV.below (AlV.grow H126.out (by omega)) (Below.alloc (Below.refl _ _) (Nat.le_refl _) _) (Nat.le_refl _)) (by simp) _) (by simp) _))
        have H138 : Hid (Cavs q5 (Off [u4.heap.size, u2.heap.size, wc.heap.size, (uy.heap.size + 1), uy.heap.size, ux.heap.size, q1.heap.size, (u1.heap.size + 1), u1.heap.size]) Aqy cqy py.cavs) := Lib.hid (by rw [hq]; exact (Cavs.store (Cavs.store (Cavs.below (Cavs.grow H127.out (by omega)) (Below.alloc (Below.refl _ _) (Nat.le_refl _) _) (Nat.le_refl _)) (by simp) _) (by simp) _))
        clear H117 H118 H119 H120 H121 H122 H123 H124 H125 H126 H127
        have H139 : Hid (Whole q5 u4.heap.size 51 (psl py.epoch py.serial (.slice Aqy py.cavs.length cqy) py.tag).toArray) := Lib.hid (by rw [hq]; exact (Whole.setRow (Whole.setRow_far (Whole.here _ _ _) (by omega) _) _))
        clear hq
        have HCX2 := Lib.hid (Chn.grow HCX1.out HXd.out)
        clear HCX1
        go_wp2_with fail
        go_loopw [17, 14] (fun v15 v14 wr => ∃ (i2 : Nat) (a2 : Alg) (p2 : Pss) (Ama2 Aba2 Aqk2 : Option Addr) (cma2 cba2 cqk2 : Nat), v15 = .int .i64 (i2 : Int) ∧ v14 = .int .i64 0 ∧ i2 ≤ ly.length ∧ a2.macs.length ≤ 14 + 2 * i2 ∧ (GoodA a2 ∧ a2.free = true) ∧ p2.tag.length = 32 ∧ (p2.cavs = ly.take i2 ∧ Chn a2 K (msgs sy p2.cavs) p2.tag) ∧ Chn a2 K (msgs sx lx) tpx ∧ AlV wr (Off [u4.heap.size, u2.heap.size, wc.heap.size, (uy.heap.size + 1), uy.heap.size, ux.heap.size, q1.heap.size, (u1.heap.size + 1), u1.heap.size]) (.agg (alc a2.free a2.seed a2.fresh (.slice Ama2 a2.macs.length cma2) (.slice Aba2 a2.boxes.length cba2))) a2 ∧ ALRow wr u1.heap.size a2.free a2.seed a2.fresh (.slice Ama2 a2.macs.length cma2) (.slice Aba2 a2.boxes.length cba2) ∧ Cavs wr (Off [u4.heap.size, u2.heap.size, wc.heap.size, (uy.heap.size + 1), uy.heap.size, ux.heap.size, q1.heap.size, (u1.heap.size + 1), u1.heap.size]) Aqk2 cqk2 p2.cavs ∧ Whole wr u4.heap.size 51 (psl p2.epoch p2.serial (.slice Aqk2 p2.cavs.length cqk2) p2.tag).toArray ∧ (Below w.heap.size w wr) ∧ (TGRow wr (u1.heap.size + 1) K) ∧ (Cavs wr (Off [u4.heap.size, u2.heap.size, wc.heap.size, (uy.heap.size + 1), uy.heap.size, ux.heap.size, q1.heap.size, (u1.heap.size + 1), u1.heap.size]) Ax Cx lx) ∧ (Cavs wr (Off [u4.heap.size, u2.heap.size, wc.heap.size, (uy.heap.size + 1), uy.heap.size, ux.heap.size, q1.heap.size, (u1.heap.size + 1), u1.heap.size]) Ay Cy ly) ∧ (Whole wr uy.heap.size 46 #[.int .i64 sx, .int .i64 0, .slice Ax lx.length Cx]) ∧ (Whole wr (uy.heap.size + 1) 46 #[.int .i64 sy, .int .i64 0, .slice Ay ly.length Cy]) ∧ (Whole wr wc.heap.size 49 (epl 1 K).toArray) ∧ (Whole wr u2.heap.size 51 (psl p.epoch p.serial (.slice Aqk p.cavs.length cqk) p.tag).toArray)) (fun v15 _ _ => ly.length - (intOf v15).toNat)
        case atStart => exact ⟨0, d, py, _, _, _, _, _, _, rfl, rfl, by omega, by omega, HGDd.out, hlqy, ⟨by rw [HCHd.out.1]; rfl, by rw [HCHd.out.1]; exact HCHd.out.2⟩, HCX2.out, H137.out, H135.out, H138.out, H139.out, H128.out, H129.out, H130.out, H131.out, H132.out, H133.out, H134.out, H136.out⟩
        case round =>
          obtain ⟨i2, a2, p2, Ama2, Aba2, Aqk2, cma2, cba2, cqk2, rfl, rfl, hi2, hna2, hgd, htl, hch, hcx2, f1, f2, f3, f4, k0, k1, k2, k3, k4, k5, k6, k7⟩ := hrel
          clear H128 H129 H130 H131 H132 H133 H134 H135 H136 H137 H138 H139
          have H140 : Hid (Below w.heap.size w wr) := Lib.hid k0
          have H141 : Hid (TGRow wr (u1.heap.size + 1) K) := Lib.hid k1
          have H142 : Hid (Cavs wr (Off [u4.heap.size, u2.heap.size, wc.heap.size, (uy.heap.size + 1), uy.heap.size, ux.heap.size, q1.heap.size, (u1.heap.size + 1), u1.heap.size]) Ax Cx lx) := Lib.hid k2
          have H143 : Hid (Cavs wr (Off [u4.heap.size, u2.heap.size, wc.heap.size, (uy.heap.size + 1), uy.heap.size, ux.heap.size, q1.heap.size, (u1.heap.size + 1), u1.heap.size]) Ay Cy ly) := Lib.hid k3
          have H144 : Hid (Whole wr uy.heap.size 46 #[.int .i64 sx, .int .i64 0, .slice Ax lx.length Cx]) := Lib.hid k4
          have H145 : Hid (Whole wr (uy.heap.size + 1) 46 #[.int .i64 sy, .int .i64 0, .slice Ay ly.length Cy]) := Lib.hid k5
          have H146 : Hid (Whole wr wc.heap.size 49 (epl 1 K).toArray) := Lib.hid k6
          have H147 : Hid (Whole wr u2.heap.size 51 (psl p.epoch p.serial (.slice Aqk p.cavs.length cqk) p.tag).toArray) := Lib.hid k7
          have H148 : Hid (AlV wr (Off [u4.heap.size, u2.heap.size, wc.heap.size, (uy.heap.size + 1), uy.heap.size, ux.heap.size, q1.heap.size, (u1.heap.size + 1), u1.heap.size]) (.agg (alc a2.free a2.seed a2.fresh (.slice Ama2 a2.macs.length cma2) (.slice Aba2 a2.boxes.length cba2))) a2) := Lib.hid (f1)
          have H149 : Hid (ALRow wr u1.heap.size a2.free a2.seed a2.fresh (.slice Ama2 a2.macs.length cma2) (.slice Aba2 a2.boxes.length cba2)) := Lib.hid (f2)
          have H150 : Hid (Whole wr u4.heap.size 51 (psl p2.epoch p2.serial (.slice Aqk2 p2.cavs.length cqk2) p2.tag).toArray) := Lib.hid (f4)
          have H151 : Hid (Cavs wr (Off [u4.heap.size, u2.heap.size, wc.heap.size, (uy.heap.size + 1), uy.heap.size, ux.heap.size, q1.heap.size, (u1.heap.size + 1), u1.heap.size]) Aqk2 cqk2 p2.cavs) := Lib.hid (f3)
          have HGDa2 := Lib.hid hgd
          have HTLa2 := Lib.hid htl
          have HCHa2 := Lib.hid hch
          have hpl2 : p2.cavs.length ≤ ly.length := by rw [hch.1, List.length_take]; omega
          clear f1 f2 f3 f4 hgd htl hch k0 k1 k2 k3 k4 k5 k6 k7
          have HCX3 := Lib.hid hcx2
          clear hcx2
          have hsGa : u1.heap.size < wr.heap.size := H149.out.lt
          have hsGp : u4.heap.size < wr.heap.size := H150.out.lt
          by_cases hlt2 : i2 < ly.length
          case neg =>
            have hin : ¬ (i2 : Int) < (ly.length : Int) := by omega
            have km := (H145.out).cell 2
            have hcy : Chn a2 K (msgs sy ly) p2.tag := by have h := HCHa2.out.2; rw [HCHa2.out.1, List.take_of_length_le (by omega)] at h; exact h
            have hpf := pass_free (a := a2) (z := 1) HGDa2.out.1 HGDa2.out.2 (by omega) HKA.out.2 ⟨hsxa, by omega⟩ ⟨hsya, by omega⟩ (fun c hc => ⟨(HOKx.out c hc).1, by have := (HOKx.out c hc).2.1; omega⟩) (fun c hc => ⟨(HOKy.out c hc).1, by have := (HOKy.out c hc).2.1; omega⟩) HCX3.out hcy
            rw [HTPX.out] at hpf
            have HPF := Lib.hid hpf
            clear hcy hpf
            go_upto_region 20 with fail
            clear km
            by_cases hs : sx = sy
            case neg =>
              have hD : decide (p.tag = p2.tag) = false := by rw [HPF.out, decide_eq_false hs]; rfl
              have hsb : (sx == sy) = false := by simpa using hs
              have kq := fun W => eql_tag HTLa.out HTLa2.out hD W
              clear hs
              have hcc : ∀ W, Below wr.heap.size wr W → (fun W : World => W.rangeAt u2.heap.size 3 (p.tag.map byt) ∧ W.rangeAt u4.heap.size 3 (p2.tag.map byt) ∧ W.cell? ⟨uy.heap.size, 0, none⟩ = some (.int .i64 sx) ∧ W.cell? ⟨(uy.heap.size + 1), 0, none⟩ = some (.int .i64 sy) ∧ W.cell? ⟨uy.heap.size, 2, none⟩ = some (.slice Ax lx.length Cx) ∧ W.cell? ⟨(uy.heap.size + 1), 2, none⟩ = some (.slice Ay ly.length Cy)) W := fun W hb => ⟨psl_tag HTLa.out (Whole.below H147.out hb (Whole.lt H147.out)), psl_tag HTLa2.out (Whole.below H150.out hb (Whole.lt H150.out)), (Whole.below H144.out hb (Whole.lt H144.out)).cell 0, (Whole.below H145.out hb (Whole.lt H145.out)).cell 0, (Whole.below H144.out hb (Whole.lt H144.out)).cell 2, (Whole.below H145.out hb (Whole.lt H145.out)).cell 2⟩
              have HCC := Lib.hid hcc
              clear hcc
              have hb0 : Below wr.heap.size wr wr.drew := Below.drew (Below.refl _ _)
              refine wp_region_held_drew (S := fun W : World => W.rangeAt u2.heap.size 3 (p.tag.map byt) ∧ W.rangeAt u4.heap.size 3 (p2.tag.map byt) ∧ W.cell? ⟨uy.heap.size, 0, none⟩ = some (.int .i64 sx) ∧ W.cell? ⟨(uy.heap.size + 1), 0, none⟩ = some (.int .i64 sy) ∧ W.cell? ⟨uy.heap.size, 2, none⟩ = some (.slice Ax lx.length Cx) ∧ W.cell? ⟨(uy.heap.size + 1), 2, none⟩ = some (.slice Ay ly.length Cy)) (by kernel_rfl) (HCC.out _ hb0) (fun hHeld => ?_)
              apply wpAnyH_take (i := 0) rfl (by kernel_rfl) (by kernel_rfl) (by kernel_rfl)
              case hQ => exact fun _ _ _ h => h
              case hS => exact hHeld
              case hy => (refine Or.inl ⟨by rfl, ?_⟩; intro w hSw; (try go_split_ands); go_simp; (try with_reducible rfl))
              (try simp only [List.getElem_toArray, List.getElem_cons_zero, Act.put, List.setIfInBounds_toArray, List.set_cons_zero, List.set_cons_succ])
              apply wpAnyH_take (i := 1) rfl (by kernel_rfl) (by kernel_rfl) (by kernel_rfl)
              case hQ => exact fun _ _ _ h => h
              case hS => exact hHeld
              case hy => exact yieldsIf_load_mid (by rfl) 28 _ rfl u2.heap.size (3) rfl ((p.tag.map byt)) _ (fun w hS => hS.1) Tryd.underlying28 rfl (by rw [tagSize, List.length_map, HTLa.out])
              (try simp only [List.getElem_toArray, List.getElem_cons_succ, List.getElem_cons_zero, Act.put, List.setIfInBounds_toArray, List.set_cons_zero, List.set_cons_succ])
              apply wpAnyH_take (i := 2) rfl (by kernel_rfl) (by kernel_rfl) (by kernel_rfl)
              case hQ => exact fun _ _ _ h => h
              case hS => exact hHeld
              case hy => (refine Or.inl ⟨by rfl, ?_⟩; intro w hSw; (try go_split_ands); go_simp; (try with_reducible rfl))
              (try simp only [List.getElem_toArray, List.getElem_cons_succ, List.getElem_cons_zero, Act.put, List.setIfInBounds_toArray, List.set_cons_zero, List.set_cons_succ])
              apply wpAnyH_take (i := 3) rfl (by kernel_rfl) (by kernel_rfl) (by kernel_rfl)
              case hQ => exact fun _ _ _ h => h
              case hS => exact hHeld
              case hy => exact yieldsIf_load_mid (by rfl) 28 _ rfl u4.heap.size (3) rfl ((p2.tag.map byt)) _ (fun w hS => hS.2.1) Tryd.underlying28 rfl (by rw [tagSize, List.length_map, HTLa2.out])
              (try simp only [List.getElem_toArray, List.getElem_cons_succ, List.getElem_cons_zero, Act.put, List.setIfInBounds_toArray, List.set_cons_zero, List.set_cons_succ])
              apply wpAnyH_take (i := 4) rfl (by kernel_rfl) (by kernel_rfl) (by kernel_rfl)
              case hQ => exact fun _ _ _ h => h
              case hS => exact hHeld
              case hy => (refine Or.inl ⟨by rfl, ?_⟩; intro w hSw; (try go_split_ands); go_simp; (try with_reducible rfl))
              (try simp only [List.getElem_toArray, List.getElem_cons_succ, List.getElem_cons_zero, Act.put, List.setIfInBounds_toArray, List.set_cons_zero, List.set_cons_succ])
              apply wpAnyH_take (i := 5) rfl (by kernel_rfl) (by kernel_rfl) (by kernel_rfl)
              case hQ => exact fun _ _ _ h => h
              case hS => exact hHeld
              case hy => (refine Or.inl ⟨by rfl, ?_⟩; intro w hSw; (try go_split_ands); go_simp; (try with_reducible rfl))
              (try simp only [List.getElem_toArray, List.getElem_cons_succ, List.getElem_cons_zero, Act.put, List.setIfInBounds_toArray, List.set_cons_zero, List.set_cons_succ])
              apply wpAnyH_take (i := 6) rfl (by kernel_rfl) (by kernel_rfl) (by kernel_rfl)
              case hQ => exact fun _ _ _ h => h
              case hS => exact hHeld
              case hy => (refine Or.inl ⟨by rfl, ?_⟩; intro w hSw; (try go_split_ands); go_simp; (try with_reducible rfl))
              (try simp only [List.getElem_toArray, List.getElem_cons_succ, List.getElem_cons_zero, Act.put, List.setIfInBounds_toArray, List.set_cons_zero, List.set_cons_succ])
              apply wpAnyH_take (i := 7) rfl (by kernel_rfl) (by kernel_rfl) (by kernel_rfl)
              case hQ => exact fun _ _ _ h => h
              case hS => exact hHeld
              case hy => (refine Or.inl ⟨by rfl, ?_⟩; intro w hSw; (try go_split_ands); go_simp; (try with_reducible rfl))
              (try simp only [List.getElem_toArray, List.getElem_cons_succ, List.getElem_cons_zero, Act.put, List.setIfInBounds_toArray, List.set_cons_zero, List.set_cons_succ])
              apply wpAnyH_take (i := 8) rfl (by kernel_rfl) (by kernel_rfl) (by kernel_rfl)
              case hQ => exact fun _ _ _ h => h
              case hS => exact hHeld
              case hy => (refine Or.inl ⟨by rfl, ?_⟩; intro w hSw; (try go_split_ands); go_simp; (try with_reducible rfl))
              (try simp only [List.getElem_toArray, List.getElem_cons_succ, List.getElem_cons_zero, Act.put, List.setIfInBounds_toArray, List.set_cons_zero, List.set_cons_succ])
              apply wpAnyH_take (i := 9) rfl (by kernel_rfl) (by kernel_rfl) (by kernel_rfl)
              case hQ => exact fun _ _ _ h => h
              case hS => exact hHeld
              case hy => (refine Or.inl ⟨by rfl, ?_⟩; intro w hSw; (try go_split_ands); go_simp; (try with_reducible rfl))
              (try simp only [List.getElem_toArray, List.getElem_cons_succ, List.getElem_cons_zero, Act.put, List.setIfInBounds_toArray, List.set_cons_zero, List.set_cons_succ])
              apply wpAnyH_take (i := 10) rfl (by kernel_rfl) (by kernel_rfl) (by kernel_rfl)
              case hQ => exact fun _ _ _ h => h
              case hS => exact hHeld
              case hy => (refine Or.inl ⟨by rfl, ?_⟩; intro w hSw; (try go_split_ands); go_simp; (try with_reducible rfl))
              (try simp only [List.getElem_toArray, List.getElem_cons_succ, List.getElem_cons_zero, Act.put, List.setIfInBounds_toArray, List.set_cons_zero, List.set_cons_succ])
              apply wpAnyH_take (i := 11) rfl (by kernel_rfl) (by kernel_rfl) (by kernel_rfl)
              case hQ => exact fun _ _ _ h => h
              case hS => exact hHeld
              case hy => exact Or.inr ⟨by rfl, rfl⟩
              (try simp only [List.getElem_toArray, List.getElem_cons_succ, List.getElem_cons_zero, Act.put, List.setIfInBounds_toArray, List.set_cons_zero, List.set_cons_succ])
              apply wpAnyH_take (i := 12) rfl (by kernel_rfl) (by kernel_rfl) (by kernel_rfl)
              case hQ => exact fun _ _ _ h => h
              case hS => exact hHeld
              case hy => exact Or.inr ⟨by rfl, rfl⟩
              (try simp only [List.getElem_toArray, List.getElem_cons_succ, List.getElem_cons_zero, Act.put, List.setIfInBounds_toArray, List.set_cons_zero, List.set_cons_succ])
              apply wpAnyH_take (i := 13) rfl (by kernel_rfl) (by kernel_rfl) (by kernel_rfl)
              case hQ => exact fun _ _ _ h => h
              case hS => exact hHeld
              case hy => exact Or.inr ⟨by rfl, rfl⟩
              (try simp only [List.getElem_toArray, List.getElem_cons_succ, List.getElem_cons_zero, Act.put, List.setIfInBounds_toArray, List.set_cons_zero, List.set_cons_succ])
              apply wpAnyH_take (i := 14) rfl (by kernel_rfl) (by kernel_rfl) (by kernel_rfl)
              case hQ => exact fun _ _ _ h => h
              case hS => exact hHeld
              case hy => exact Or.inr ⟨by rfl, rfl⟩
              (try simp only [List.getElem_toArray, List.getElem_cons_succ, List.getElem_cons_zero, Act.put, List.setIfInBounds_toArray, List.set_cons_zero, List.set_cons_succ])
              apply wpAnyH_take (i := 15) rfl (by kernel_rfl) (by kernel_rfl) (by kernel_rfl)
              case hQ => exact fun _ _ _ h => h
              case hS => exact hHeld
              case hy => exact Or.inr ⟨by rfl, rfl⟩
              (try simp only [List.getElem_toArray, List.getElem_cons_succ, List.getElem_cons_zero, Act.put, List.setIfInBounds_toArray, List.set_cons_zero, List.set_cons_succ])
              apply wpAnyH_take (i := 16) rfl (by kernel_rfl) (by kernel_rfl) (by kernel_rfl)
              case hQ => exact fun _ _ _ h => h
              case hS => exact hHeld
              case hy => (refine Or.inl ⟨by rfl, ?_⟩; intro w hSw; (try go_split_ands); go_simp; (try with_reducible rfl))
              (try simp only [List.getElem_toArray, List.getElem_cons_succ, List.getElem_cons_zero, Act.put, List.setIfInBounds_toArray, List.set_cons_zero, List.set_cons_succ])
              apply wpAnyH_take (i := 17) rfl (by kernel_rfl) (by kernel_rfl) (by kernel_rfl)
              case hQ => exact fun _ _ _ h => h
              case hS => exact hHeld
              case hy => (refine Or.inl ⟨by rfl, ?_⟩; intro w hSw; (try go_split_ands); go_simp; (try with_reducible rfl))
              (try simp only [List.getElem_toArray, List.getElem_cons_succ, List.getElem_cons_zero, Act.put, List.setIfInBounds_toArray, List.set_cons_zero, List.set_cons_succ])
              apply wpAnyH_take (i := 18) rfl (by kernel_rfl) (by kernel_rfl) (by kernel_rfl)
              case hQ => exact fun _ _ _ h => h
              case hS => exact hHeld
              case hy => (refine Or.inl ⟨by rfl, ?_⟩; intro w hSw; (try go_split_ands); go_simp; (try with_reducible rfl))
              (try simp only [List.getElem_toArray, List.getElem_cons_succ, List.getElem_cons_zero, Act.put, List.setIfInBounds_toArray, List.set_cons_zero, List.set_cons_succ])
              refine wpAnyH_ready (rs := [19]) (by kernel_rfl) (by simp) ?_
              refine AllReadyH.cons rfl (fun KK hKK => ?_) AllReadyH.nil
              (try simp only [List.getElem_toArray, List.getElem_cons_succ, List.getElem_cons_zero])
              go_simp
              go_at_call 22
              refine (cawk13 _ (Tables.below (Tables.below HT.out (Nat.le_refl _) H140.out) (Nat.le_refl _) hb0)).mono ?_
              rintro e W2 ⟨rfl, hz2⟩
              have hz2t := Below.trans hb0 (Below.mono hz2 (Below.size hb0))
              clear hz2
              refine hKK.out _ _ (HCC.out _ hz2t) (fun hHeld => ?_)
              clear hKK KK
              (try simp only [List.getElem_toArray, List.getElem_cons_succ, List.getElem_cons_zero, Act.put, List.setIfInBounds_toArray, List.set_cons_zero, List.set_cons_succ])
              apply wpAnyH_take (i := 20) rfl (by kernel_rfl) (by kernel_rfl) (by kernel_rfl)
              case hQ => exact fun _ _ _ h => h
              case hS => exact hHeld
              case hy => (refine Or.inl ⟨by rfl, ?_⟩; intro w hSw; (try go_split_ands); go_simp; (try with_reducible rfl))
              (try simp only [List.getElem_toArray, List.getElem_cons_succ, List.getElem_cons_zero, Act.put, List.setIfInBounds_toArray, List.set_cons_zero, List.set_cons_succ])
              apply wpAnyH_take (i := 21) rfl (by kernel_rfl) (by kernel_rfl) (by kernel_rfl)
              case hQ => exact fun _ _ _ h => h
              case hS => exact hHeld
              case hy => (refine Or.inl ⟨by rfl, ?_⟩; intro w hSw; (try go_split_ands); go_simp; (try with_reducible rfl))
              (try simp only [List.getElem_toArray, List.getElem_cons_succ, List.getElem_cons_zero, Act.put, List.setIfInBounds_toArray, List.set_cons_zero, List.set_cons_succ])
              refine wpAnyH_done (by kernel_rfl) ?_ _
              have HG := Lib.hid (Below.trans H140.out (Below.mono hz2t (Below.size H140.out)))
              go_wp2
              go_ret
              exact ⟨rfl, HG.out⟩
            by_cases hl : lx = ly
            case neg =>
              have hD : decide (p.tag = p2.tag) = false := by rw [HPF.out, decide_eq_false hl]; simp
              have hE2 : decide (lx = ly) = false := decide_eq_false hl
              have hsb : (sx == sy) = true := by simpa using hs
              have kq := fun W => eql_tag HTLa.out HTLa2.out hD W
              have hsm : ∀ W, Below wr.heap.size wr W → Calls Tryd.prog 21 #[.slice Ax lx.length Cx, .slice Ay ly.length Cy] W fun e w' => e = .returned (.bool false) ∧ Below W.heap.size W w' := fun W hb => by
                have h := rcsame (ca := Cx) (cb := Cy) (Cavs.cvs (Cavs.below H142.out hb (Nat.le_refl _))) (Cavs.cvs (Cavs.below H143.out hb (Nat.le_refl _))) (by omega) (by omega)
                rw [hE2] at h
                exact h
              have HSM := Lib.hid hsm
              clear hsm hE2
              clear hs hl
              have hcc : ∀ W, Below wr.heap.size wr W → (fun W : World => W.rangeAt u2.heap.size 3 (p.tag.map byt) ∧ W.rangeAt u4.heap.size 3 (p2.tag.map byt) ∧ W.cell? ⟨uy.heap.size, 0, none⟩ = some (.int .i64 sx) ∧ W.cell? ⟨(uy.heap.size + 1), 0, none⟩ = some (.int .i64 sy) ∧ W.cell? ⟨uy.heap.size, 2, none⟩ = some (.slice Ax lx.length Cx) ∧ W.cell? ⟨(uy.heap.size + 1), 2, none⟩ = some (.slice Ay ly.length Cy)) W := fun W hb => ⟨psl_tag HTLa.out (Whole.below H147.out hb (Whole.lt H147.out)), psl_tag HTLa2.out (Whole.below H150.out hb (Whole.lt H150.out)), (Whole.below H144.out hb (Whole.lt H144.out)).cell 0, (Whole.below H145.out hb (Whole.lt H145.out)).cell 0, (Whole.below H144.out hb (Whole.lt H144.out)).cell 2, (Whole.below H145.out hb (Whole.lt H145.out)).cell 2⟩
              have HCC := Lib.hid hcc
              clear hcc
              have hb0 : Below wr.heap.size wr wr.drew := Below.drew (Below.refl _ _)
              refine wp_region_held_drew (S := fun W : World => W.rangeAt u2.heap.size 3 (p.tag.map byt) ∧ W.rangeAt u4.heap.size 3 (p2.tag.map byt) ∧ W.cell? ⟨uy.heap.size, 0, none⟩ = some (.int .i64 sx) ∧ W.cell? ⟨(uy.heap.size + 1), 0, none⟩ = some (.int .i64 sy) ∧ W.cell? ⟨uy.heap.size, 2, none⟩ = some (.slice Ax lx.length Cx) ∧ W.cell? ⟨(uy.heap.size + 1), 2, none⟩ = some (.slice Ay ly.length Cy)) (by kernel_rfl) (HCC.out _ hb0) (fun hHeld => ?_)
              apply wpAnyH_take (i := 0) rfl (by kernel_rfl) (by kernel_rfl) (by kernel_rfl)
              case hQ => exact fun _ _ _ h => h
              case hS => exact hHeld
              case hy => (refine Or.inl ⟨by rfl, ?_⟩; intro w hSw; (try go_split_ands); go_simp; (try with_reducible rfl))
              (try simp only [List.getElem_toArray, List.getElem_cons_zero, Act.put, List.setIfInBounds_toArray, List.set_cons_zero, List.set_cons_succ])
              apply wpAnyH_take (i := 1) rfl (by kernel_rfl) (by kernel_rfl) (by kernel_rfl)
              case hQ => exact fun _ _ _ h => h
              case hS => exact hHeld
              case hy => exact yieldsIf_load_mid (by rfl) 28 _ rfl u2.heap.size (3) rfl ((p.tag.map byt)) _ (fun w hS => hS.1) Tryd.underlying28 rfl (by rw [tagSize, List.length_map, HTLa.out])
              (try simp only [List.getElem_toArray, List.getElem_cons_succ, List.getElem_cons_zero, Act.put, List.setIfInBounds_toArray, List.set_cons_zero, List.set_cons_succ])
              apply wpAnyH_take (i := 2) rfl (by kernel_rfl) (by kernel_rfl) (by kernel_rfl)
              case hQ => exact fun _ _ _ h => h
              case hS => exact hHeld
              case hy => (refine Or.inl ⟨by rfl, ?_⟩; intro w hSw; (try go_split_ands); go_simp; (try with_reducible rfl))
              (try simp only [List.getElem_toArray, List.getElem_cons_succ, List.getElem_cons_zero, Act.put, List.setIfInBounds_toArray, List.set_cons_zero, List.set_cons_succ])
              apply wpAnyH_take (i := 3) rfl (by kernel_rfl) (by kernel_rfl) (by kernel_rfl)
              case hQ => exact fun _ _ _ h => h
              case hS => exact hHeld
              case hy => exact yieldsIf_load_mid (by rfl) 28 _ rfl u4.heap.size (3) rfl ((p2.tag.map byt)) _ (fun w hS => hS.2.1) Tryd.underlying28 rfl (by rw [tagSize, List.length_map, HTLa2.out])
              (try simp only [List.getElem_toArray, List.getElem_cons_succ, List.getElem_cons_zero, Act.put, List.setIfInBounds_toArray, List.set_cons_zero, List.set_cons_succ])
              apply wpAnyH_take (i := 4) rfl (by kernel_rfl) (by kernel_rfl) (by kernel_rfl)
              case hQ => exact fun _ _ _ h => h
              case hS => exact hHeld
              case hy => (refine Or.inl ⟨by rfl, ?_⟩; intro w hSw; (try go_split_ands); go_simp; (try with_reducible rfl))
              (try simp only [List.getElem_toArray, List.getElem_cons_succ, List.getElem_cons_zero, Act.put, List.setIfInBounds_toArray, List.set_cons_zero, List.set_cons_succ])
              apply wpAnyH_take (i := 5) rfl (by kernel_rfl) (by kernel_rfl) (by kernel_rfl)
              case hQ => exact fun _ _ _ h => h
              case hS => exact hHeld
              case hy => (refine Or.inl ⟨by rfl, ?_⟩; intro w hSw; (try go_split_ands); go_simp; (try with_reducible rfl))
              (try simp only [List.getElem_toArray, List.getElem_cons_succ, List.getElem_cons_zero, Act.put, List.setIfInBounds_toArray, List.set_cons_zero, List.set_cons_succ])
              apply wpAnyH_take (i := 6) rfl (by kernel_rfl) (by kernel_rfl) (by kernel_rfl)
              case hQ => exact fun _ _ _ h => h
              case hS => exact hHeld
              case hy => (refine Or.inl ⟨by rfl, ?_⟩; intro w hSw; (try go_split_ands); go_simp; (try with_reducible rfl))
              (try simp only [List.getElem_toArray, List.getElem_cons_succ, List.getElem_cons_zero, Act.put, List.setIfInBounds_toArray, List.set_cons_zero, List.set_cons_succ])
              apply wpAnyH_take (i := 7) rfl (by kernel_rfl) (by kernel_rfl) (by kernel_rfl)
              case hQ => exact fun _ _ _ h => h
              case hS => exact hHeld
              case hy => (refine Or.inl ⟨by rfl, ?_⟩; intro w hSw; (try go_split_ands); go_simp; (try with_reducible rfl))
              (try simp only [List.getElem_toArray, List.getElem_cons_succ, List.getElem_cons_zero, Act.put, List.setIfInBounds_toArray, List.set_cons_zero, List.set_cons_succ])
              apply wpAnyH_take (i := 8) rfl (by kernel_rfl) (by kernel_rfl) (by kernel_rfl)
              case hQ => exact fun _ _ _ h => h
              case hS => exact hHeld
              case hy => (refine Or.inl ⟨by rfl, ?_⟩; intro w hSw; (try go_split_ands); go_simp; (try with_reducible rfl))
              (try simp only [List.getElem_toArray, List.getElem_cons_succ, List.getElem_cons_zero, Act.put, List.setIfInBounds_toArray, List.set_cons_zero, List.set_cons_succ])
              apply wpAnyH_take (i := 9) rfl (by kernel_rfl) (by kernel_rfl) (by kernel_rfl)
              case hQ => exact fun _ _ _ h => h
              case hS => exact hHeld
              case hy => (refine Or.inl ⟨by rfl, ?_⟩; intro w hSw; (try go_split_ands); go_simp; (try with_reducible rfl))
              (try simp only [List.getElem_toArray, List.getElem_cons_succ, List.getElem_cons_zero, Act.put, List.setIfInBounds_toArray, List.set_cons_zero, List.set_cons_succ])
              apply wpAnyH_take (i := 10) rfl (by kernel_rfl) (by kernel_rfl) (by kernel_rfl)
              case hQ => exact fun _ _ _ h => h
              case hS => exact hHeld
              case hy => (refine Or.inl ⟨by rfl, ?_⟩; intro w hSw; (try go_split_ands); go_simp; (try with_reducible rfl))
              (try simp only [List.getElem_toArray, List.getElem_cons_succ, List.getElem_cons_zero, Act.put, List.setIfInBounds_toArray, List.set_cons_zero, List.set_cons_succ])
              apply wpAnyH_take (i := 11) rfl (by kernel_rfl) (by kernel_rfl) (by kernel_rfl)
              case hQ => exact fun _ _ _ h => h
              case hS => exact hHeld
              case hy => (refine Or.inl ⟨by rfl, ?_⟩; intro w hSw; (try go_split_ands); go_simp; (try with_reducible rfl))
              (try simp only [List.getElem_toArray, List.getElem_cons_succ, List.getElem_cons_zero, Act.put, List.setIfInBounds_toArray, List.set_cons_zero, List.set_cons_succ])
              apply wpAnyH_take (i := 12) rfl (by kernel_rfl) (by kernel_rfl) (by kernel_rfl)
              case hQ => exact fun _ _ _ h => h
              case hS => exact hHeld
              case hy => (refine Or.inl ⟨by rfl, ?_⟩; intro w hSw; (try go_split_ands); go_simp; (try with_reducible rfl))
              (try simp only [List.getElem_toArray, List.getElem_cons_succ, List.getElem_cons_zero, Act.put, List.setIfInBounds_toArray, List.set_cons_zero, List.set_cons_succ])
              apply wpAnyH_take (i := 13) rfl (by kernel_rfl) (by kernel_rfl) (by kernel_rfl)
              case hQ => exact fun _ _ _ h => h
              case hS => exact hHeld
              case hy => (refine Or.inl ⟨by rfl, ?_⟩; intro w hSw; (try go_split_ands); go_simp; (try with_reducible rfl))
              (try simp only [List.getElem_toArray, List.getElem_cons_succ, List.getElem_cons_zero, Act.put, List.setIfInBounds_toArray, List.set_cons_zero, List.set_cons_succ])
              apply wpAnyH_take (i := 14) rfl (by kernel_rfl) (by kernel_rfl) (by kernel_rfl)
              case hQ => exact fun _ _ _ h => h
              case hS => exact hHeld
              case hy => (refine Or.inl ⟨by rfl, ?_⟩; intro w hSw; (try go_split_ands); go_simp; (try with_reducible rfl))
              (try simp only [List.getElem_toArray, List.getElem_cons_succ, List.getElem_cons_zero, Act.put, List.setIfInBounds_toArray, List.set_cons_zero, List.set_cons_succ])
              refine wpAnyH_ready (rs := [15]) (by kernel_rfl) (by simp) ?_
              refine AllReadyH.cons rfl (fun KK hKK => ?_) AllReadyH.nil
              (try simp only [List.getElem_toArray, List.getElem_cons_succ, List.getElem_cons_zero])
              go_simp
              go_at_call 21
              refine (HSM.out _ hb0).mono ?_
              rintro e W1 ⟨rfl, hz1⟩
              have hz1t := Below.trans hb0 (Below.mono hz1 (Below.size hb0))
              clear hz1
              refine hKK.out _ _ (HCC.out _ hz1t) (fun hHeld => ?_)
              clear hKK KK
              (try simp only [List.getElem_toArray, List.getElem_cons_succ, List.getElem_cons_zero, Act.put, List.setIfInBounds_toArray, List.set_cons_zero, List.set_cons_succ])
              apply wpAnyH_take (i := 16) rfl (by kernel_rfl) (by kernel_rfl) (by kernel_rfl)
              case hQ => exact fun _ _ _ h => h
              case hS => exact hHeld
              case hy => (refine Or.inl ⟨by rfl, ?_⟩; intro w hSw; (try go_split_ands); go_simp; (try with_reducible rfl))
              (try simp only [List.getElem_toArray, List.getElem_cons_succ, List.getElem_cons_zero, Act.put, List.setIfInBounds_toArray, List.set_cons_zero, List.set_cons_succ])
              apply wpAnyH_take (i := 17) rfl (by kernel_rfl) (by kernel_rfl) (by kernel_rfl)
              case hQ => exact fun _ _ _ h => h
              case hS => exact hHeld
              case hy => (refine Or.inl ⟨by rfl, ?_⟩; intro w hSw; (try go_split_ands); go_simp; (try with_reducible rfl))
              (try simp only [List.getElem_toArray, List.getElem_cons_succ, List.getElem_cons_zero, Act.put, List.setIfInBounds_toArray, List.set_cons_zero, List.set_cons_succ])
              apply wpAnyH_take (i := 18) rfl (by kernel_rfl) (by kernel_rfl) (by kernel_rfl)
              case hQ => exact fun _ _ _ h => h
              case hS => exact hHeld
              case hy => (refine Or.inl ⟨by rfl, ?_⟩; intro w hSw; (try go_split_ands); go_simp; (try with_reducible rfl))
              (try simp only [List.getElem_toArray, List.getElem_cons_succ, List.getElem_cons_zero, Act.put, List.setIfInBounds_toArray, List.set_cons_zero, List.set_cons_succ])
              refine wpAnyH_ready (rs := [19]) (by kernel_rfl) (by simp) ?_
              refine AllReadyH.cons rfl (fun KK hKK => ?_) AllReadyH.nil
              (try simp only [List.getElem_toArray, List.getElem_cons_succ, List.getElem_cons_zero])
              go_simp
              go_at_call 22
              refine (cawk13 _ (Tables.below (Tables.below HT.out (Nat.le_refl _) H140.out) (Nat.le_refl _) hz1t)).mono ?_
              rintro e W2 ⟨rfl, hz2⟩
              have hz2t := Below.trans hz1t (Below.mono hz2 (Below.size hz1t))
              clear hz2
              refine hKK.out _ _ (HCC.out _ hz2t) (fun hHeld => ?_)
              clear hKK KK
              (try simp only [List.getElem_toArray, List.getElem_cons_succ, List.getElem_cons_zero, Act.put, List.setIfInBounds_toArray, List.set_cons_zero, List.set_cons_succ])
              apply wpAnyH_take (i := 20) rfl (by kernel_rfl) (by kernel_rfl) (by kernel_rfl)
              case hQ => exact fun _ _ _ h => h
              case hS => exact hHeld
              case hy => (refine Or.inl ⟨by rfl, ?_⟩; intro w hSw; (try go_split_ands); go_simp; (try with_reducible rfl))
              (try simp only [List.getElem_toArray, List.getElem_cons_succ, List.getElem_cons_zero, Act.put, List.setIfInBounds_toArray, List.set_cons_zero, List.set_cons_succ])
              apply wpAnyH_take (i := 21) rfl (by kernel_rfl) (by kernel_rfl) (by kernel_rfl)
              case hQ => exact fun _ _ _ h => h
              case hS => exact hHeld
              case hy => (refine Or.inl ⟨by rfl, ?_⟩; intro w hSw; (try go_split_ands); go_simp; (try with_reducible rfl))
              (try simp only [List.getElem_toArray, List.getElem_cons_succ, List.getElem_cons_zero, Act.put, List.setIfInBounds_toArray, List.set_cons_zero, List.set_cons_succ])
              refine wpAnyH_done (by kernel_rfl) ?_ _
              have HG := Lib.hid (Below.trans H140.out (Below.mono hz2t (Below.size H140.out)))
              go_wp2
              go_ret
              exact ⟨rfl, HG.out⟩
            have hD : decide (p.tag = p2.tag) = true := by rw [HPF.out, decide_eq_true hs, decide_eq_true hl]; rfl
            have hE2 : decide (lx = ly) = true := decide_eq_true hl
            have hsb : (sx == sy) = true := by simpa using hs
            have kq := fun W => eql_tag HTLa.out HTLa2.out hD W
            have hsm : ∀ W, Below wr.heap.size wr W → Calls Tryd.prog 21 #[.slice Ax lx.length Cx, .slice Ay ly.length Cy] W fun e w' => e = .returned (.bool true) ∧ Below W.heap.size W w' := fun W hb => by
              have h := rcsame (ca := Cx) (cb := Cy) (Cavs.cvs (Cavs.below H142.out hb (Nat.le_refl _))) (Cavs.cvs (Cavs.below H143.out hb (Nat.le_refl _))) (by omega) (by omega)
              rw [hE2] at h
              exact h
            have HSM := Lib.hid hsm
            clear hsm hE2
            clear hs hl
            have hcc : ∀ W, Below wr.heap.size wr W → (fun W : World => W.rangeAt u2.heap.size 3 (p.tag.map byt) ∧ W.rangeAt u4.heap.size 3 (p2.tag.map byt) ∧ W.cell? ⟨uy.heap.size, 0, none⟩ = some (.int .i64 sx) ∧ W.cell? ⟨(uy.heap.size + 1), 0, none⟩ = some (.int .i64 sy) ∧ W.cell? ⟨uy.heap.size, 2, none⟩ = some (.slice Ax lx.length Cx) ∧ W.cell? ⟨(uy.heap.size + 1), 2, none⟩ = some (.slice Ay ly.length Cy)) W := fun W hb => ⟨psl_tag HTLa.out (Whole.below H147.out hb (Whole.lt H147.out)), psl_tag HTLa2.out (Whole.below H150.out hb (Whole.lt H150.out)), (Whole.below H144.out hb (Whole.lt H144.out)).cell 0, (Whole.below H145.out hb (Whole.lt H145.out)).cell 0, (Whole.below H144.out hb (Whole.lt H144.out)).cell 2, (Whole.below H145.out hb (Whole.lt H145.out)).cell 2⟩
            have HCC := Lib.hid hcc
            clear hcc
            have hb0 : Below wr.heap.size wr wr.drew := Below.drew (Below.refl _ _)
            refine wp_region_held_drew (S := fun W : World => W.rangeAt u2.heap.size 3 (p.tag.map byt) ∧ W.rangeAt u4.heap.size 3 (p2.tag.map byt) ∧ W.cell? ⟨uy.heap.size, 0, none⟩ = some (.int .i64 sx) ∧ W.cell? ⟨(uy.heap.size + 1), 0, none⟩ = some (.int .i64 sy) ∧ W.cell? ⟨uy.heap.size, 2, none⟩ = some (.slice Ax lx.length Cx) ∧ W.cell? ⟨(uy.heap.size + 1), 2, none⟩ = some (.slice Ay ly.length Cy)) (by kernel_rfl) (HCC.out _ hb0) (fun hHeld => ?_)
            apply wpAnyH_take (i := 0) rfl (by kernel_rfl) (by kernel_rfl) (by kernel_rfl)
            case hQ => exact fun _ _ _ h => h
            case hS => exact hHeld
            case hy => (refine Or.inl ⟨by rfl, ?_⟩; intro w hSw; (try go_split_ands); go_simp; (try with_reducible rfl))
            (try simp only [List.getElem_toArray, List.getElem_cons_zero, Act.put, List.setIfInBounds_toArray, List.set_cons_zero, List.set_cons_succ])
            apply wpAnyH_take (i := 1) rfl (by kernel_rfl) (by kernel_rfl) (by kernel_rfl)
            case hQ => exact fun _ _ _ h => h
            case hS => exact hHeld
            case hy => exact yieldsIf_load_mid (by rfl) 28 _ rfl u2.heap.size (3) rfl ((p.tag.map byt)) _ (fun w hS => hS.1) Tryd.underlying28 rfl (by rw [tagSize, List.length_map, HTLa.out])
            (try simp only [List.getElem_toArray, List.getElem_cons_succ, List.getElem_cons_zero, Act.put, List.setIfInBounds_toArray, List.set_cons_zero, List.set_cons_succ])
            apply wpAnyH_take (i := 2) rfl (by kernel_rfl) (by kernel_rfl) (by kernel_rfl)
            case hQ => exact fun _ _ _ h => h
            case hS => exact hHeld
            case hy => (refine Or.inl ⟨by rfl, ?_⟩; intro w hSw; (try go_split_ands); go_simp; (try with_reducible rfl))
            (try simp only [List.getElem_toArray, List.getElem_cons_succ, List.getElem_cons_zero, Act.put, List.setIfInBounds_toArray, List.set_cons_zero, List.set_cons_succ])
            apply wpAnyH_take (i := 3) rfl (by kernel_rfl) (by kernel_rfl) (by kernel_rfl)
            case hQ => exact fun _ _ _ h => h
            case hS => exact hHeld
            case hy => exact yieldsIf_load_mid (by rfl) 28 _ rfl u4.heap.size (3) rfl ((p2.tag.map byt)) _ (fun w hS => hS.2.1) Tryd.underlying28 rfl (by rw [tagSize, List.length_map, HTLa2.out])
            (try simp only [List.getElem_toArray, List.getElem_cons_succ, List.getElem_cons_zero, Act.put, List.setIfInBounds_toArray, List.set_cons_zero, List.set_cons_succ])
            apply wpAnyH_take (i := 4) rfl (by kernel_rfl) (by kernel_rfl) (by kernel_rfl)
            case hQ => exact fun _ _ _ h => h
            case hS => exact hHeld
            case hy => (refine Or.inl ⟨by rfl, ?_⟩; intro w hSw; (try go_split_ands); go_simp; (try with_reducible rfl))
            (try simp only [List.getElem_toArray, List.getElem_cons_succ, List.getElem_cons_zero, Act.put, List.setIfInBounds_toArray, List.set_cons_zero, List.set_cons_succ])
            apply wpAnyH_take (i := 5) rfl (by kernel_rfl) (by kernel_rfl) (by kernel_rfl)
            case hQ => exact fun _ _ _ h => h
            case hS => exact hHeld
            case hy => (refine Or.inl ⟨by rfl, ?_⟩; intro w hSw; (try go_split_ands); go_simp; (try with_reducible rfl))
            (try simp only [List.getElem_toArray, List.getElem_cons_succ, List.getElem_cons_zero, Act.put, List.setIfInBounds_toArray, List.set_cons_zero, List.set_cons_succ])
            apply wpAnyH_take (i := 6) rfl (by kernel_rfl) (by kernel_rfl) (by kernel_rfl)
            case hQ => exact fun _ _ _ h => h
            case hS => exact hHeld
            case hy => (refine Or.inl ⟨by rfl, ?_⟩; intro w hSw; (try go_split_ands); go_simp; (try with_reducible rfl))
            (try simp only [List.getElem_toArray, List.getElem_cons_succ, List.getElem_cons_zero, Act.put, List.setIfInBounds_toArray, List.set_cons_zero, List.set_cons_succ])
            apply wpAnyH_take (i := 7) rfl (by kernel_rfl) (by kernel_rfl) (by kernel_rfl)
            case hQ => exact fun _ _ _ h => h
            case hS => exact hHeld
            case hy => (refine Or.inl ⟨by rfl, ?_⟩; intro w hSw; (try go_split_ands); go_simp; (try with_reducible rfl))
            (try simp only [List.getElem_toArray, List.getElem_cons_succ, List.getElem_cons_zero, Act.put, List.setIfInBounds_toArray, List.set_cons_zero, List.set_cons_succ])
            apply wpAnyH_take (i := 8) rfl (by kernel_rfl) (by kernel_rfl) (by kernel_rfl)
            case hQ => exact fun _ _ _ h => h
            case hS => exact hHeld
            case hy => (refine Or.inl ⟨by rfl, ?_⟩; intro w hSw; (try go_split_ands); go_simp; (try with_reducible rfl))
            (try simp only [List.getElem_toArray, List.getElem_cons_succ, List.getElem_cons_zero, Act.put, List.setIfInBounds_toArray, List.set_cons_zero, List.set_cons_succ])
            apply wpAnyH_take (i := 9) rfl (by kernel_rfl) (by kernel_rfl) (by kernel_rfl)
            case hQ => exact fun _ _ _ h => h
            case hS => exact hHeld
            case hy => (refine Or.inl ⟨by rfl, ?_⟩; intro w hSw; (try go_split_ands); go_simp; (try with_reducible rfl))
            (try simp only [List.getElem_toArray, List.getElem_cons_succ, List.getElem_cons_zero, Act.put, List.setIfInBounds_toArray, List.set_cons_zero, List.set_cons_succ])
            apply wpAnyH_take (i := 10) rfl (by kernel_rfl) (by kernel_rfl) (by kernel_rfl)
            case hQ => exact fun _ _ _ h => h
            case hS => exact hHeld
            case hy => (refine Or.inl ⟨by rfl, ?_⟩; intro w hSw; (try go_split_ands); go_simp; (try with_reducible rfl))
            (try simp only [List.getElem_toArray, List.getElem_cons_succ, List.getElem_cons_zero, Act.put, List.setIfInBounds_toArray, List.set_cons_zero, List.set_cons_succ])
            apply wpAnyH_take (i := 11) rfl (by kernel_rfl) (by kernel_rfl) (by kernel_rfl)
            case hQ => exact fun _ _ _ h => h
            case hS => exact hHeld
            case hy => (refine Or.inl ⟨by rfl, ?_⟩; intro w hSw; (try go_split_ands); go_simp; (try with_reducible rfl))
            (try simp only [List.getElem_toArray, List.getElem_cons_succ, List.getElem_cons_zero, Act.put, List.setIfInBounds_toArray, List.set_cons_zero, List.set_cons_succ])
            apply wpAnyH_take (i := 12) rfl (by kernel_rfl) (by kernel_rfl) (by kernel_rfl)
            case hQ => exact fun _ _ _ h => h
            case hS => exact hHeld
            case hy => (refine Or.inl ⟨by rfl, ?_⟩; intro w hSw; (try go_split_ands); go_simp; (try with_reducible rfl))
            (try simp only [List.getElem_toArray, List.getElem_cons_succ, List.getElem_cons_zero, Act.put, List.setIfInBounds_toArray, List.set_cons_zero, List.set_cons_succ])
            apply wpAnyH_take (i := 13) rfl (by kernel_rfl) (by kernel_rfl) (by kernel_rfl)
            case hQ => exact fun _ _ _ h => h
            case hS => exact hHeld
            case hy => (refine Or.inl ⟨by rfl, ?_⟩; intro w hSw; (try go_split_ands); go_simp; (try with_reducible rfl))
            (try simp only [List.getElem_toArray, List.getElem_cons_succ, List.getElem_cons_zero, Act.put, List.setIfInBounds_toArray, List.set_cons_zero, List.set_cons_succ])
            apply wpAnyH_take (i := 14) rfl (by kernel_rfl) (by kernel_rfl) (by kernel_rfl)
            case hQ => exact fun _ _ _ h => h
            case hS => exact hHeld
            case hy => (refine Or.inl ⟨by rfl, ?_⟩; intro w hSw; (try go_split_ands); go_simp; (try with_reducible rfl))
            (try simp only [List.getElem_toArray, List.getElem_cons_succ, List.getElem_cons_zero, Act.put, List.setIfInBounds_toArray, List.set_cons_zero, List.set_cons_succ])
            refine wpAnyH_ready (rs := [15]) (by kernel_rfl) (by simp) ?_
            refine AllReadyH.cons rfl (fun KK hKK => ?_) AllReadyH.nil
            (try simp only [List.getElem_toArray, List.getElem_cons_succ, List.getElem_cons_zero])
            go_simp
            go_at_call 21
            refine (HSM.out _ hb0).mono ?_
            rintro e W1 ⟨rfl, hz1⟩
            have hz1t := Below.trans hb0 (Below.mono hz1 (Below.size hb0))
            clear hz1
            refine hKK.out _ _ (HCC.out _ hz1t) (fun hHeld => ?_)
            clear hKK KK
            (try simp only [List.getElem_toArray, List.getElem_cons_succ, List.getElem_cons_zero, Act.put, List.setIfInBounds_toArray, List.set_cons_zero, List.set_cons_succ])
            apply wpAnyH_take (i := 16) rfl (by kernel_rfl) (by kernel_rfl) (by kernel_rfl)
            case hQ => exact fun _ _ _ h => h
            case hS => exact hHeld
            case hy => (refine Or.inl ⟨by rfl, ?_⟩; intro w hSw; (try go_split_ands); go_simp; (try with_reducible rfl))
            (try simp only [List.getElem_toArray, List.getElem_cons_succ, List.getElem_cons_zero, Act.put, List.setIfInBounds_toArray, List.set_cons_zero, List.set_cons_succ])
            apply wpAnyH_take (i := 17) rfl (by kernel_rfl) (by kernel_rfl) (by kernel_rfl)
            case hQ => exact fun _ _ _ h => h
            case hS => exact hHeld
            case hy => (refine Or.inl ⟨by rfl, ?_⟩; intro w hSw; (try go_split_ands); go_simp; (try with_reducible rfl))
            (try simp only [List.getElem_toArray, List.getElem_cons_succ, List.getElem_cons_zero, Act.put, List.setIfInBounds_toArray, List.set_cons_zero, List.set_cons_succ])
            apply wpAnyH_take (i := 18) rfl (by kernel_rfl) (by kernel_rfl) (by kernel_rfl)
            case hQ => exact fun _ _ _ h => h
            case hS => exact hHeld
            case hy => (refine Or.inl ⟨by rfl, ?_⟩; intro w hSw; (try go_split_ands); go_simp; (try with_reducible rfl))
            (try simp only [List.getElem_toArray, List.getElem_cons_succ, List.getElem_cons_zero, Act.put, List.setIfInBounds_toArray, List.set_cons_zero, List.set_cons_succ])
            refine wpAnyH_ready (rs := [19]) (by kernel_rfl) (by simp) ?_
            refine AllReadyH.cons rfl (fun KK hKK => ?_) AllReadyH.nil
            (try simp only [List.getElem_toArray, List.getElem_cons_succ, List.getElem_cons_zero])
            go_simp
            go_at_call 22
            refine (cawk13 _ (Tables.below (Tables.below HT.out (Nat.le_refl _) H140.out) (Nat.le_refl _) hz1t)).mono ?_
            rintro e W2 ⟨rfl, hz2⟩
            have hz2t := Below.trans hz1t (Below.mono hz2 (Below.size hz1t))
            clear hz2
            refine hKK.out _ _ (HCC.out _ hz2t) (fun hHeld => ?_)
            clear hKK KK
            (try simp only [List.getElem_toArray, List.getElem_cons_succ, List.getElem_cons_zero, Act.put, List.setIfInBounds_toArray, List.set_cons_zero, List.set_cons_succ])
            apply wpAnyH_take (i := 20) rfl (by kernel_rfl) (by kernel_rfl) (by kernel_rfl)
            case hQ => exact fun _ _ _ h => h
            case hS => exact hHeld
            case hy => (refine Or.inl ⟨by rfl, ?_⟩; intro w hSw; (try go_split_ands); go_simp; (try with_reducible rfl))
            (try simp only [List.getElem_toArray, List.getElem_cons_succ, List.getElem_cons_zero, Act.put, List.setIfInBounds_toArray, List.set_cons_zero, List.set_cons_succ])
            apply wpAnyH_take (i := 21) rfl (by kernel_rfl) (by kernel_rfl) (by kernel_rfl)
            case hQ => exact fun _ _ _ h => h
            case hS => exact hHeld
            case hy => (refine Or.inl ⟨by rfl, ?_⟩; intro w hSw; (try go_split_ands); go_simp; (try with_reducible rfl))
            (try simp only [List.getElem_toArray, List.getElem_cons_succ, List.getElem_cons_zero, Act.put, List.setIfInBounds_toArray, List.set_cons_zero, List.set_cons_succ])
            refine wpAnyH_done (by kernel_rfl) ?_ _
            have HG := Lib.hid (Below.trans H140.out (Below.mono hz2t (Below.size H140.out)))
            go_wp2
            go_ret
            exact ⟨rfl, HG.out⟩
          have hin : (i2 : Int) < (ly.length : Int) := by omega
          have km := (H145.out).cell 2
          go_upto_region 17 with fail
          clear km
          have hiL : i2 < ly.length := hlt2
          obtain ⟨L, hLe, hSq, hBL⟩ := id H143.out
          have hLl : L.length = ly.length := by rw [← hLe, List.length_map]
          obtain ⟨X, hX⟩ : ∃ X, L[i2]? = some X := ⟨_, List.getElem?_eq_getElem (by omega)⟩
          have hXe : ly[i2]? = some X.e := by rw [← hLe, List.getElem?_map, hX]; rfl
          have hXm := List.mem_of_getElem? hX
          obtain ⟨g0, o, hAx, hq0, hg0, hcell⟩ := Seq.get cvl_len hSq i2 X hX
          have hXok := HOKy.out X.e (List.mem_of_getElem? hXe)
          have HXC := Lib.hid (And.intro hAx (And.intro hq0 (And.intro hg0 (And.intro hcell (And.intro (hBL X hXm).1 (And.intro (hBL X hXm).2 hXe))))))
          clear hSq hBL hX hXm hcell hLe hLl hq0 hg0 hAx hXe L
          obtain ⟨R, hR⟩ : ∃ R, R = pAtt a2 p2 X.e := ⟨_, rfl⟩
          have HRR := Lib.hid (att_chn HGDa2.out.1 HGDa2.out.2 (by omega) hXok.1 (by omega) HCHa2.out.2 hR)
          have HEc := Lib.hid hR
          clear hR
          obtain ⟨c2a, q2a, er⟩ := R
          dsimp only at HRR
          obtain ⟨her, hg1, hg2, hxx, hpc, hch⟩ := HRR.out
          subst her
          have HCC := Lib.hid (And.intro hg1 (And.intro hg2 (And.intro hxx (And.intro hpc hch))))
          clear hg1 hg2 hxx hpc hch HRR
          have hqz : ∀ g, (Off [u4.heap.size, u2.heap.size, wc.heap.size, (uy.heap.size + 1), uy.heap.size, ux.heap.size, q1.heap.size, (u1.heap.size + 1), u1.heap.size]) g → ∀ k, AtZ u1.heap.size u4.heap.size k ≠ some g := fun g hg k h => (AtZ_is h).elim (fun h => hg _ (by simp) h.2) fun h => hg _ (by simp) h.2
          have hsr := fun ix v v' T x hi h => AtF_sup u1.heap.size u4.heap.size (.agg (alc a2.free a2.seed a2.fresh (.slice Ama2 a2.macs.length cma2) (.slice Aba2 a2.boxes.length cba2))) (.agg (psl p2.epoch p2.serial (.slice Aqk2 p2.cavs.length cqk2) p2.tag).toArray) (.slice Ay ly.length Cy) (.agg (cvl X).toArray) g0 o i2 (uy.heap.size + 1) wr.heap.size (Off [u4.heap.size, u2.heap.size, wc.heap.size, (uy.heap.size + 1), uy.heap.size, ux.heap.size, q1.heap.size, (u1.heap.size + 1), u1.heap.size]) (c2a, q2a, 0) ix v v' T x hi h
          have hkr := fun ix v T x x' hi hf hs hk => AtF_keep u1.heap.size u4.heap.size (.agg (alc a2.free a2.seed a2.fresh (.slice Ama2 a2.macs.length cma2) (.slice Aba2 a2.boxes.length cba2))) (.agg (psl p2.epoch p2.serial (.slice Aqk2 p2.cavs.length cqk2) p2.tag).toArray) (.slice Ay ly.length Cy) (.agg (cvl X).toArray) g0 o i2 (uy.heap.size + 1) wr.heap.size (Off [u4.heap.size, u2.heap.size, wc.heap.size, (uy.heap.size + 1), uy.heap.size, ux.heap.size, q1.heap.size, (u1.heap.size + 1), u1.heap.size]) (c2a, q2a, 0) hqz ix v T x x' hi hf hs hk
          refine wp_region_puts (w0 := wr) (by kernel_rfl) (AtF u1.heap.size u4.heap.size (.agg (alc a2.free a2.seed a2.fresh (.slice Ama2 a2.macs.length cma2) (.slice Aba2 a2.boxes.length cba2))) (.agg (psl p2.epoch p2.serial (.slice Aqk2 p2.cavs.length cqk2) p2.tag).toArray) (.slice Ay ly.length Cy) (.agg (cvl X).toArray) g0 o i2 (uy.heap.size + 1) wr.heap.size (Off [u4.heap.size, u2.heap.size, wc.heap.size, (uy.heap.size + 1), uy.heap.size, ux.heap.size, q1.heap.size, (u1.heap.size + 1), u1.heap.size]) (c2a, q2a, 0)) AtB (AtZ u1.heap.size u4.heap.size) AtS (by kernel_rfl) (by kernel_rfl) (fun i j g h h2 => by rcases AtZ_is h with ⟨q1, q2⟩ | ⟨q1, q2⟩ <;> rcases AtZ_is h2 with ⟨q3, q4⟩ | ⟨q3, q4⟩ <;> omega) (fun i g h => by rcases AtZ_is h with ⟨q1, q2⟩ | ⟨q1, q2⟩ <;> omega) (fun c i h => by unfold AtB at h; split at h <;> first | rfl | cases h) (by kernel_rfl) hsr hkr ?_ ?_
          · clear hsr hkr
            intro ll v TT W0 ix hi hdep hun hS A KK hE hE0 hK
            obtain rfl | rfl | rfl | rfl | rfl | rfl | rfl | rfl | rfl | rfl | rfl | rfl | rfl | rfl | rfl : ix = 0 ∨ ix = 1 ∨ ix = 2 ∨ ix = 3 ∨ ix = 4 ∨ ix = 5 ∨ ix = 6 ∨ ix = 7 ∨ ix = 8 ∨ ix = 9 ∨ ix = 10 ∨ ix = 11 ∨ ix = 12 ∨ ix = 13 ∨ ix = 14 := by have : ix < 15 := hi; omega
            · have hr : ALRow W0 u1.heap.size a2.free a2.seed a2.fresh (.slice Ama2 a2.macs.length cma2) (.slice Aba2 a2.boxes.length cba2) := (hS.old _ H149.out.lt fun k hk h => by rcases AtZ_is h with ⟨q1, q2⟩ | ⟨q1, q2⟩ <;> first | omega | (subst q1; have := hS.wait hk (j := 0) (by kernel_rfl); rw [hun] at this; cases this)).trans H149.out
              refine wpOp_row rfl rfl rfl (b := u1.heap.size) (f := 0) ((hE0 7 (by kernel_rfl)).trans rfl) (Whole.range hr) Tryd.underlying32 rfl (by rw [algSize, alcl_length]) (hK _ _ W0 (Gives.read rfl))
            · have hr : Whole W0 u4.heap.size 51 (psl p2.epoch p2.serial (.slice Aqk2 p2.cavs.length cqk2) p2.tag).toArray := (hS.old _ H150.out.lt fun k hk h => by rcases AtZ_is h with ⟨q1, q2⟩ | ⟨q1, q2⟩ <;> first | omega | (subst q1; have := hS.wait hk (j := 1) (by kernel_rfl); rw [hun] at this; cases this)).trans H150.out
              refine wpOp_row rfl rfl rfl (b := u4.heap.size) (f := 0) ((hE0 16 (by kernel_rfl)).trans rfl) (Whole.range hr) Tryd.underlying51 rfl (by rw [passSize, psl_len]) (hK _ _ W0 (Gives.read rfl))
            · have hx : A.eval (.tmp 11) = .pointer (some ⟨(uy.heap.size + 1), 0, none⟩) := ((hE0 11 (by kernel_rfl)).trans rfl)
              refine wpOp_val rfl rfl (x := .pointer (some ⟨(uy.heap.size + 1), 2, none⟩)) (w' := W0) (by rw [evt] at hx; unfold execOp; go_simp) (hK _ _ W0 (Gives.read rfl))
            · have l2 := hdep 2 (by kernel_rfl)
              have hold : ∀ g, g < wr.heap.size → g ≠ u1.heap.size → g ≠ u4.heap.size → W0.heap[g]? = wr.heap[g]? := fun g hg h1 h2 => hS.old g hg fun k _ h => (AtZ_is h).elim (fun h => h1 h.2) fun h => h2 h.2
              have hx : A.eval (.tmp 93) = .pointer (some ⟨(uy.heap.size + 1), 2, none⟩) := (hE 2 93 l2 (lt_k (by kernel_rfl)) (by kernel_rfl) (lt_k (by kernel_rfl))).trans (hS.f 2 (Live.none_ l2 rfl))
              have hm : Whole W0 (uy.heap.size + 1) 46 #[.int .i64 sy, .int .i64 0, .slice Ay ly.length Cy] := (hold _ H145.out.lt (by omega) (by omega)).trans H145.out
              have hc := hm.cell 2
              refine wpOp_val rfl rfl (x := .slice Ay ly.length Cy) (w' := W0) (by rw [evt] at hx; unfold execOp; go_simp) (hK _ _ W0 (Gives.read rfl))
            · refine wpOp_move rfl rfl (.inl rfl) ((hE0 17 (by kernel_rfl)).trans rfl) (hK _ _ W0 (Gives.read rfl))
            · have l3 := hdep 3 (by kernel_rfl)
              have l4 := hdep 4 (by kernel_rfl)
              have hx : A.eval (.tmp 94) = .slice (some ⟨g0, o, none⟩) ly.length Cy := by rw [← HXC.out.1]; exact (hE 3 94 l3 (lt_k (by kernel_rfl)) (by kernel_rfl) (lt_k (by kernel_rfl))).trans (hS.f 3 (Live.none_ l3 rfl))
              have hi : A.eval (.tmp 95) = .int .i64 (i2 : Int) := (hE 4 95 l4 (lt_k (by kernel_rfl)) (by kernel_rfl) (lt_k (by kernel_rfl))).trans (hS.f 4 (Live.none_ l4 rfl))
              have h1 : (i2 : Int) < (ly.length : Int) := by omega
              have h0 : (0 : Int) ≤ (i2 : Int) := by omega
              refine wpOp_val rfl rfl (x := .pointer (some ⟨g0, o + i2 * 10, none⟩)) (w' := W0) (by rw [evt] at hx hi; unfold execOp; go_simp) (hK _ _ W0 (Gives.read rfl))
            · have l5 := hdep 5 (by kernel_rfl)
              have hold : ∀ g, g < wr.heap.size → g ≠ u1.heap.size → g ≠ u4.heap.size → W0.heap[g]? = wr.heap[g]? := fun g hg h1 h2 => hS.old g hg fun k _ h => (AtZ_is h).elim (fun h => h1 h.2) fun h => h2 h.2
              have hh := hold g0 HXC.out.2.2.1 (HXC.out.2.1 u1.heap.size (by simp)) (HXC.out.2.1 u4.heap.size (by simp))
              have hr : W0.rangeAt g0 (o + i2 * 10) (cvl X) := fun k u hu => (World.cell?_of_block (a := ⟨g0, o + i2 * 10 + k, none⟩) hh).trans (HXC.out.2.2.2.1 k u hu)
              refine wpOp_row rfl rfl rfl ((hE 5 96 l5 (lt_k (by kernel_rfl)) (by kernel_rfl) (lt_k (by kernel_rfl))).trans (hS.f 5 (Live.none_ l5 rfl))) hr Tryd.underlying59 rfl (by rw [cavSize]; rfl) (hK _ _ W0 (Gives.read rfl))
            · have l0 := hdep 0 (by kernel_rfl)
              have l1 := hdep 1 (by kernel_rfl)
              have l6 := hdep 6 (by kernel_rfl)
              have hold : ∀ g, g < wr.heap.size → g ≠ u1.heap.size → g ≠ u4.heap.size → W0.heap[g]? = wr.heap[g]? := fun g hg h1 h2 => hS.old g hg fun k _ h => (AtZ_is h).elim (fun h => h1 h.2) fun h => h2 h.2
              have e0 : v 0 = .agg (alc a2.free a2.seed a2.fresh (.slice Ama2 a2.macs.length cma2) (.slice Aba2 a2.boxes.length cba2)) := hS.f 0 (Live.none_ l0 rfl)
              have e1 : v 1 = .agg (psl p2.epoch p2.serial (.slice Aqk2 p2.cavs.length cqk2) p2.tag).toArray := hS.f 1 (Live.none_ l1 rfl)
              have e6 : v 6 = .agg (cvl X).toArray := hS.f 6 (Live.none_ l6 rfl)
              have hav : AlV W0 (fun g => g < wr.heap.size ∧ (Off [u4.heap.size, u2.heap.size, wc.heap.size, (uy.heap.size + 1), uy.heap.size, ux.heap.size, q1.heap.size, (u1.heap.size + 1), u1.heap.size]) g) (.agg (alc a2.free a2.seed a2.fresh (.slice Ama2 a2.macs.length cma2) (.slice Aba2 a2.boxes.length cba2))) a2 := AlV.keep (AlV.mono H148.out fun g hg q => ⟨hg, q⟩) hS.low.size fun g hg h => hold g h.1 (h.2 _ (by simp)) (h.2 _ (by simp))
              have hpv : PssV W0 (fun g => g < wr.heap.size ∧ (Off [u4.heap.size, u2.heap.size, wc.heap.size, (uy.heap.size + 1), uy.heap.size, ux.heap.size, q1.heap.size, (u1.heap.size + 1), u1.heap.size]) g) (.agg (psl p2.epoch p2.serial (.slice Aqk2 p2.cavs.length cqk2) p2.tag).toArray) p2 := ⟨_, _, rfl, Cavs.keep (Cavs.mono H151.out fun g hg q => ⟨hg, q⟩) hS.low.size fun g hg h => hold g h.1 (h.2 _ (by simp)) (h.2 _ (by simp)), HTLa2.out⟩
              have hcv : CavV W0 (fun g => g < wr.heap.size ∧ (Off [u4.heap.size, u2.heap.size, wc.heap.size, (uy.heap.size + 1), uy.heap.size, ux.heap.size, q1.heap.size, (u1.heap.size + 1), u1.heap.size]) g) (.agg (cvl X).toArray) X.e := ⟨_, _, _, _, rfl, Bytes.keep (Bytes.mono HXC.out.2.2.2.2.1 fun g hg q => ⟨hg, q⟩) fun g hg h => hold g h.1 (h.2 _ (by simp)) (h.2 _ (by simp)), Bytes.keep (Bytes.mono HXC.out.2.2.2.2.2.1 fun g hg q => ⟨hg, q⟩) fun g hg h => hold g h.1 (h.2 _ (by simp)) (h.2 _ (by simp)), hXok.2⟩
              have hcl := catt hav (by omega) hpv (by omega) hcv (Tables.below HT.out (Nat.le_refl _) (Below.trans H140.out (hS.below (Below.size H140.out) (fun k g h => by rcases AtZ_is h with ⟨q1, q2⟩ | ⟨q1, q2⟩ <;> omega))))
              rw [← HEc.out] at hcl
              refine wpOp_call rfl rfl rfl Tryd.func20 (by kernel_rfl) (by kernel_rfl) (vs := #[.agg (alc a2.free a2.seed a2.fresh (.slice Ama2 a2.macs.length cma2) (.slice Aba2 a2.boxes.length cba2)), .agg (psl p2.epoch p2.serial (.slice Aqk2 p2.cavs.length cqk2) p2.tag).toArray, .agg (cvl X).toArray]) (by simp only [List.map_toArray, List.map_cons, List.map_nil, (hE 0 91 l0 (lt_k (by kernel_rfl)) (by kernel_rfl) (lt_k (by kernel_rfl))).trans e0, (hE 1 92 l1 (lt_k (by kernel_rfl)) (by kernel_rfl) (lt_k (by kernel_rfl))).trans e1, (hE 6 97 l6 (lt_k (by kernel_rfl)) (by kernel_rfl) (lt_k (by kernel_rfl))).trans e6]) (hcl.mono ?_)
              rintro e w' ⟨⟨x, y, rfl, hx, hy⟩, hb⟩
              exact ⟨_, rfl, hK _ (fun g => W0.heap.size ≤ g ∧ g < w'.heap.size) _ (Gives.make hb ⟨x, y, rfl, AlV.mono hx fun g hg q => q.imp id fun q => ⟨q, hg⟩, PssV.mono hy fun g hg q => q.imp id fun q => ⟨q, hg⟩⟩ fun _ h => h)⟩
            · have l7 := hdep 7 (by kernel_rfl)
              refine wpOp_move rfl rfl (.inl rfl) (hE 7 98 l7 (lt_k (by kernel_rfl)) (by kernel_rfl) (lt_k (by kernel_rfl))) (hK _ _ W0 (Gives.read rfl))
            · have l8 := hdep 8 (by kernel_rfl)
              have l7 := hS.wait l8 (j := 7) (by kernel_rfl)
              obtain ⟨x, y, e7, h7, h7b⟩ := hS.f 7 (Live.none_ l7 rfl)
              have e8 : v 8 = v 7 := hS.f 8 (Live.none_ l8 rfl)
              refine wpOp_extract rfl rfl rfl ((hE 8 90 l8 (lt_k (by kernel_rfl)) (by kernel_rfl) (lt_k (by kernel_rfl))).trans (e8.trans e7)) rfl (hK _ _ W0 (Gives.read ⟨_, _, e8.trans e7⟩))
            · have l8 := hdep 8 (by kernel_rfl)
              have l7 := hS.wait l8 (j := 7) (by kernel_rfl)
              obtain ⟨x, y, e7, h7, h7b⟩ := hS.f 7 (Live.none_ l7 rfl)
              have e8 : v 8 = v 7 := hS.f 8 (Live.none_ l8 rfl)
              refine wpOp_extract rfl rfl rfl ((hE 8 90 l8 (lt_k (by kernel_rfl)) (by kernel_rfl) (lt_k (by kernel_rfl))).trans (e8.trans e7)) rfl (hK _ _ W0 (Gives.read ⟨_, _, e8.trans e7⟩))
            · have l8 := hdep 8 (by kernel_rfl)
              have l7 := hS.wait l8 (j := 7) (by kernel_rfl)
              obtain ⟨x, y, e7, h7, h7b⟩ := hS.f 7 (Live.none_ l7 rfl)
              have e8 : v 8 = v 7 := hS.f 8 (Live.none_ l8 rfl)
              refine wpOp_extract rfl rfl rfl ((hE 8 90 l8 (lt_k (by kernel_rfl)) (by kernel_rfl) (lt_k (by kernel_rfl))).trans (e8.trans e7)) rfl (hK _ _ W0 (Gives.read ⟨_, _, e8.trans e7⟩))
            · have l9 := hdep 9 (by kernel_rfl)
              have l8 := hS.wait l9 (j := 8) (by kernel_rfl)
              have l7 := hS.wait l8 (j := 7) (by kernel_rfl)
              obtain ⟨x, y, e7, h7, h7b⟩ := hS.f 7 (Live.none_ l7 rfl)
              have e8 : v 8 = v 7 := hS.f 8 (Live.none_ l8 rfl)
              obtain ⟨s, t, e10⟩ := hS.f 9 (Live.none_ l9 rfl)
              have hx := (tup3 (e10.symm.trans (e8.trans e7))).1
              obtain ⟨Am, cm, Ab, cb, hxe, -, -, -⟩ := id h7
              have hx := hx.trans hxe
              have hp : ALRow W0 u1.heap.size a2.free a2.seed a2.fresh (.slice Ama2 a2.macs.length cma2) (.slice Aba2 a2.boxes.length cba2) := (hS.old _ H149.out.lt fun k hk h => by rcases AtZ_is h with ⟨q1, q2⟩ | ⟨q1, q2⟩ <;> first | omega | (subst q1; rw [hun] at hk; cases hk)).trans H149.out
              refine wpOp_store rfl rfl rfl ((hE0 7 (by kernel_rfl)).trans rfl) ((hE 9 99 l9 (lt_k (by kernel_rfl)) (by kernel_rfl) (lt_k (by kernel_rfl))).trans hx) hp (by rw [algSize, alc_size]) (by rw [alc_size, alc_size]) (alc_one _ _ _ _ _ _ _ _ _) (hK _ (fun g => g = u1.heap.size) _ (Gives.old rfl (below_setRow (Below.refl _ _) (Nat.zero_le _) _) (fun g _ h => setRow_other _ _ _ _ h) (by simp; exact hp.lt) ⟨_, hx, fun _ h => h, Whole.setRow hp _⟩))
            · have l10 := hdep 10 (by kernel_rfl)
              have l8 := hS.wait l10 (j := 8) (by kernel_rfl)
              have l7 := hS.wait l8 (j := 7) (by kernel_rfl)
              obtain ⟨x, y, e7, h7, h7b⟩ := hS.f 7 (Live.none_ l7 rfl)
              have e8 : v 8 = v 7 := hS.f 8 (Live.none_ l8 rfl)
              obtain ⟨s, t, e10⟩ := hS.f 10 (Live.none_ l10 rfl)
              have hx := (tup3 (e10.symm.trans (e8.trans e7))).2.1
              obtain ⟨Aqn, cqn, hxe, -, -⟩ := id h7b
              have hx := hx.trans hxe
              have hp : Whole W0 u4.heap.size 51 (psl p2.epoch p2.serial (.slice Aqk2 p2.cavs.length cqk2) p2.tag).toArray := (hS.old _ H150.out.lt fun k hk h => by rcases AtZ_is h with ⟨q1, q2⟩ | ⟨q1, q2⟩ <;> first | omega | (subst q1; rw [hun] at hk; cases hk)).trans H150.out
              refine wpOp_store rfl rfl rfl ((hE0 16 (by kernel_rfl)).trans rfl) ((hE 10 100 l10 (lt_k (by kernel_rfl)) (by kernel_rfl) (lt_k (by kernel_rfl))).trans hx) hp (by rw [passSize, psl_size]) (by rw [psl_size, psl_size]) (psl_one _ _ _ _ _ _) (hK _ (fun g => g = u4.heap.size) _ (Gives.old rfl (below_setRow (Below.refl _ _) (Nat.zero_le _) _) (fun g _ h => setRow_other _ _ _ _ h) (by simp; exact hp.lt) ⟨_, hx, fun _ h => h, Whole.setRow hp _⟩))
            · have l11 := hdep 11 (by kernel_rfl)
              refine wpOp_move rfl rfl (.inr rfl) (hE 11 101 l11 (lt_k (by kernel_rfl)) (by kernel_rfl) (lt_k (by kernel_rfl))) (hK _ _ W0 (Gives.read rfl))
          clear hsr hkr
          intro ll v TT r6 hall hS
          obtain ⟨x, y, e7, h7, h7b⟩ := hS.f 7 (Live.all hall (lt_k (by kernel_rfl)) rfl)
          have e8 : v 8 = v 7 := hS.f 8 (Live.all hall (lt_k (by kernel_rfl)) rfl)
          obtain ⟨s9, t9, e9⟩ := hS.f 9 (Live.all hall (lt_k (by kernel_rfl)) rfl)
          obtain ⟨s10, t10, e10⟩ := hS.f 10 (Live.all hall (lt_k (by kernel_rfl)) rfl)
          obtain ⟨s11, t11, e11⟩ := hS.f 11 (Live.all hall (lt_k (by kernel_rfl)) rfl)
          have x9 := (tup3 (e9.symm.trans (e8.trans e7))).1
          have x10 := (tup3 (e10.symm.trans (e8.trans e7))).2.1
          have x11 := (tup3 (e11.symm.trans (e8.trans e7))).2.2
          obtain ⟨Amc2a, cmc2a, Abc2a, cbc2a, rfl, hM, hBx, hA⟩ := id h7
          obtain ⟨Aqn2, cqn2, rfl, hcs, hlq2⟩ := id h7b
          obtain ⟨ca, ea, ta, hra⟩ := hS.f 12 (Live.all hall (lt_k (by kernel_rfl)) rfl)
          obtain ⟨cp', ep, tp, hrp⟩ := hS.f 13 (Live.all hall (lt_k (by kernel_rfl)) rfl)
          have e14 : v 14 = v 11 := hS.f 14 (Live.all hall (lt_k (by kernel_rfl)) rfl)
          have hca : ca = (alc c2a.free c2a.seed c2a.fresh (.slice Amc2a c2a.macs.length cmc2a) (.slice Abc2a c2a.boxes.length cbc2a)) := by have := ea.symm.trans x9; injection this
          have hcp : cp' = (psl q2a.epoch q2a.serial (.slice Aqn2 q2a.cavs.length cqn2) q2a.tag).toArray := by have := ep.symm.trans x10; injection this
          subst hca hcp
          have ht7 : ∀ g, TT 7 g → wr.heap.size ≤ g := fun g h => (hS.t 7 (Live.all hall (lt_k (by kernel_rfl)) rfl) g h).1.elim id fun h => by rcases AtZ_is h with ⟨q1, q2⟩ | ⟨q1, q2⟩ <;> omega
          change Exit.inBlock _ (Exit.then _ _) Exit.normal (Act.put (Act.put (Act.put (Act.put (Act.put (Act.put (Act.put (Act.put (Act.put (Act.put (Act.put (Act.put (Act.put (Act.put (Act.put _ (some 91) (v 0)) (some 92) (v 1)) (some 93) (v 2)) (some 94) (v 3)) (some 95) (v 4)) (some 96) (v 5)) (some 97) (v 6)) (some 98) (v 7)) (some 90) (v 8)) (some 99) (v 9)) (some 100) (v 10)) (some 101) (v 11)) none (v 12)) none (v 13)) (some 14) (v 14)) _
          rw [e14, x11]
          simp only [putAll_zero, Act.put, List.setIfInBounds_toArray, List.set_cons_zero, List.set_cons_succ]
          have hol : ∀ g, g < wr.heap.size → g ≠ u1.heap.size → g ≠ u4.heap.size → r6.heap[g]? = wr.heap[g]? := fun g hg h1 h2 => hS.old g hg fun k _ h => (AtZ_is h).elim (fun h => h1 h.2) fun h => h2 h.2
          have hsr6 : wr.heap.size ≤ r6.heap.size := hS.low.size
          have hba : Below w.heap.size w r6 := Below.trans H140.out (hS.below (Below.size H140.out) (fun k g h => by rcases AtZ_is h with ⟨q1, q2⟩ | ⟨q1, q2⟩ <;> omega))
          have H152 : Hid (Below w.heap.size w r6) := Lib.hid (hba)
          have H153 : Hid (TGRow r6 (u1.heap.size + 1) K) := Lib.hid (((hol _ (Whole.lt H141.out) (by omega) (by omega)).trans H141.out))
          have H154 : Hid (Cavs r6 (Off [u4.heap.size, u2.heap.size, wc.heap.size, (uy.heap.size + 1), uy.heap.size, ux.heap.size, q1.heap.size, (u1.heap.size + 1), u1.heap.size]) Ax Cx lx) := Lib.hid ((Cavs.keep H142.out hS.low.size fun g hg h => hol g hg (h _ (by simp)) (h _ (by simp))))
          have H155 : Hid (Cavs r6 (Off [u4.heap.size, u2.heap.size, wc.heap.size, (uy.heap.size + 1), uy.heap.size, ux.heap.size, q1.heap.size, (u1.heap.size + 1), u1.heap.size]) Ay Cy ly) := Lib.hid ((Cavs.keep H143.out hS.low.size fun g hg h => hol g hg (h _ (by simp)) (h _ (by simp))))
          have H156 : Hid (Whole r6 uy.heap.size 46 #[.int .i64 sx, .int .i64 0, .slice Ax lx.length Cx]) := Lib.hid (((hol _ (Whole.lt H144.out) (by omega) (by omega)).trans H144.out))
          have H157 : Hid (Whole r6 (uy.heap.size + 1) 46 #[.int .i64 sy, .int .i64 0, .slice Ay ly.length Cy]) := Lib.hid (((hol _ (Whole.lt H145.out) (by omega) (by omega)).trans H145.out))
          have H158 : Hid (Whole r6 wc.heap.size 49 (epl 1 K).toArray) := Lib.hid (((hol _ (Whole.lt H146.out) (by omega) (by omega)).trans H146.out))
          have H159 : Hid (Whole r6 u2.heap.size 51 (psl p.epoch p.serial (.slice Aqk p.cavs.length cqk) p.tag).toArray) := Lib.hid (((hol _ (Whole.lt H147.out) (by omega) (by omega)).trans H147.out))
          clear H140 H141 H142 H143 H144 H145 H146 H147
          have H160 : Hid (ALRow r6 u1.heap.size c2a.free c2a.seed c2a.fresh (.slice Amc2a c2a.macs.length cmc2a) (.slice Abc2a c2a.boxes.length cbc2a)) := Lib.hid (hra)
          have H161 : Hid (AlV r6 (Off [u4.heap.size, u2.heap.size, wc.heap.size, (uy.heap.size + 1), uy.heap.size, ux.heap.size, q1.heap.size, (u1.heap.size + 1), u1.heap.size]) (.agg (alc c2a.free c2a.seed c2a.fresh (.slice Amc2a c2a.macs.length cmc2a) (.slice Abc2a c2a.boxes.length cbc2a))) c2a) := Lib.hid (AlV.mono h7 (fun g hg qq y hy => qq.elim (fun q => q.2 y hy) fun q => by have := ht7 g q; simp at hy; omega))
          have H162 : Hid (Whole r6 u4.heap.size 51 (psl q2a.epoch q2a.serial (.slice Aqn2 q2a.cavs.length cqn2) q2a.tag).toArray) := Lib.hid (hrp)
          have H163 : Hid (Cavs r6 (Off [u4.heap.size, u2.heap.size, wc.heap.size, (uy.heap.size + 1), uy.heap.size, ux.heap.size, q1.heap.size, (u1.heap.size + 1), u1.heap.size]) Aqn2 cqn2 q2a.cavs) := Lib.hid (Cavs.mono hcs (fun g hg qq y hy => qq.elim (fun q => q.2 y hy) fun q => by have := ht7 g q; simp at hy; omega))
          have HTLc2a : Hid (q2a.tag.length = 32) := Lib.hid hlq2
          clear hol hba hra hrp h7 h7b hS hall hM hBx hA hcs hlq2 x9 x10 x11 e7 e8 e9 e10 e11 e14 ea ep ta tp ht7 hqz
          go_wp2_with fail
          go_roundw
          case rel =>
            have hcn : c2a.macs.length ≤ a2.macs.length + 2 := by obtain ⟨x, hx1, hx2⟩ := HCC.out.2.2.1; rw [hx1, List.length_append]; omega
            exact ⟨i2 + 1, c2a, q2a, _, _, _, _, _, _, by go_num, rfl, by omega, by omega, ⟨HCC.out.1, HCC.out.2.1⟩, HTLc2a.out, ⟨by rw [HCC.out.2.2.2.1, HCHa2.out.1, List.take_add_one, HXC.out.2.2.2.2.2.2]; rfl, by rw [HCC.out.2.2.2.1]; exact HCC.out.2.2.2.2⟩, Chn.grow HCX3.out HCC.out.2.2.1, H161.out, H160.out, H163.out, H162.out, H152.out, H153.out, H154.out, H155.out, H156.out, H157.out, H158.out, H159.out⟩
          case measure => simp [intOf]; omega
      have hin : (i : Int) < (lx.length : Int) := by omega
      have km := (H110.out).cell 2
      go_upto_region 10 with fail
      clear km
      have hiL : i < lx.length := hlt
      obtain ⟨L, hLe, hSq, hBL⟩ := id H108.out
      have hLl : L.length = lx.length := by rw [← hLe, List.length_map]
      obtain ⟨X, hX⟩ : ∃ X, L[i]? = some X := ⟨_, List.getElem?_eq_getElem (by omega)⟩
      have hXe : lx[i]? = some X.e := by rw [← hLe, List.getElem?_map, hX]; rfl
      have hXm := List.mem_of_getElem? hX
      obtain ⟨g0, o, hAx, hq0, hg0, hcell⟩ := Seq.get cvl_len hSq i X hX
      have hXok := HOKx.out X.e (List.mem_of_getElem? hXe)
      have HXC := Lib.hid (And.intro hAx (And.intro hq0 (And.intro hg0 (And.intro hcell (And.intro (hBL X hXm).1 (And.intro (hBL X hXm).2 hXe))))))
      clear hSq hBL hX hXm hcell hLe hLl hq0 hg0 hAx hXe L
      obtain ⟨R, hR⟩ : ∃ R, R = pAtt a p X.e := ⟨_, rfl⟩
      have HRR := Lib.hid (att_chn HGDa.out.1 HGDa.out.2 (by omega) hXok.1 (by omega) HCHa.out.2 hR)
      have HEc := Lib.hid hR
      clear hR
      obtain ⟨c, q, er⟩ := R
      dsimp only at HRR
      obtain ⟨her, hg1, hg2, hxx, hpc, hch⟩ := HRR.out
      subst her
      have HCC := Lib.hid (And.intro hg1 (And.intro hg2 (And.intro hxx (And.intro hpc hch))))
      clear hg1 hg2 hxx hpc hch HRR
      have hqz : ∀ g, (Off [u2.heap.size, wc.heap.size, (uy.heap.size + 1), uy.heap.size, ux.heap.size, q1.heap.size, (u1.heap.size + 1), u1.heap.size]) g → ∀ k, AtZ u1.heap.size u2.heap.size k ≠ some g := fun g hg k h => (AtZ_is h).elim (fun h => hg _ (by simp) h.2) fun h => hg _ (by simp) h.2
      have hsr := fun ix v v' T x hi h => AtF_sup u1.heap.size u2.heap.size (.agg (alc a.free a.seed a.fresh (.slice Ama a.macs.length cma) (.slice Aba a.boxes.length cba))) (.agg (psl p.epoch p.serial (.slice Aqk p.cavs.length cqk) p.tag).toArray) (.slice Ax lx.length Cx) (.agg (cvl X).toArray) g0 o i uy.heap.size wr.heap.size (Off [u2.heap.size, wc.heap.size, (uy.heap.size + 1), uy.heap.size, ux.heap.size, q1.heap.size, (u1.heap.size + 1), u1.heap.size]) (c, q, 0) ix v v' T x hi h
      have hkr := fun ix v T x x' hi hf hs hk => AtF_keep u1.heap.size u2.heap.size (.agg (alc a.free a.seed a.fresh (.slice Ama a.macs.length cma) (.slice Aba a.boxes.length cba))) (.agg (psl p.epoch p.serial (.slice Aqk p.cavs.length cqk) p.tag).toArray) (.slice Ax lx.length Cx) (.agg (cvl X).toArray) g0 o i uy.heap.size wr.heap.size (Off [u2.heap.size, wc.heap.size, (uy.heap.size + 1), uy.heap.size, ux.heap.size, q1.heap.size, (u1.heap.size + 1), u1.heap.size]) (c, q, 0) hqz ix v T x x' hi hf hs hk
      refine wp_region_puts (w0 := wr) (by kernel_rfl) (AtF u1.heap.size u2.heap.size (.agg (alc a.free a.seed a.fresh (.slice Ama a.macs.length cma) (.slice Aba a.boxes.length cba))) (.agg (psl p.epoch p.serial (.slice Aqk p.cavs.length cqk) p.tag).toArray) (.slice Ax lx.length Cx) (.agg (cvl X).toArray) g0 o i uy.heap.size wr.heap.size (Off [u2.heap.size, wc.heap.size, (uy.heap.size + 1), uy.heap.size, ux.heap.size, q1.heap.size, (u1.heap.size + 1), u1.heap.size]) (c, q, 0)) AtB (AtZ u1.heap.size u2.heap.size) AtS (by kernel_rfl) (by kernel_rfl) (fun i j g h h2 => by rcases AtZ_is h with ⟨q1, q2⟩ | ⟨q1, q2⟩ <;> rcases AtZ_is h2 with ⟨q3, q4⟩ | ⟨q3, q4⟩ <;> omega) (fun i g h => by rcases AtZ_is h with ⟨q1, q2⟩ | ⟨q1, q2⟩ <;> omega) (fun c i h => by unfold AtB at h; split at h <;> first | rfl | cases h) (by kernel_rfl) hsr hkr ?_ ?_
      · clear hsr hkr
        intro ll v TT W0 ix hi hdep hun hS A KK hE hE0 hK
        obtain rfl | rfl | rfl | rfl | rfl | rfl | rfl | rfl | rfl | rfl | rfl | rfl | rfl | rfl | rfl : ix = 0 ∨ ix = 1 ∨ ix = 2 ∨ ix = 3 ∨ ix = 4 ∨ ix = 5 ∨ ix = 6 ∨ ix = 7 ∨ ix = 8 ∨ ix = 9 ∨ ix = 10 ∨ ix = 11 ∨ ix = 12 ∨ ix = 13 ∨ ix = 14 := by have : ix < 15 := hi; omega
        · have hr : ALRow W0 u1.heap.size a.free a.seed a.fresh (.slice Ama a.macs.length cma) (.slice Aba a.boxes.length cba) := (hS.old _ H114.out.lt fun k hk h => by rcases AtZ_is h with ⟨q1, q2⟩ | ⟨q1, q2⟩ <;> first | omega | (subst q1; have := hS.wait hk (j := 0) (by kernel_rfl); rw [hun] at this; cases this)).trans H114.out
          refine wpOp_row rfl rfl rfl (b := u1.heap.size) (f := 0) ((hE0 7 (by kernel_rfl)).trans rfl) (Whole.range hr) Tryd.underlying32 rfl (by rw [algSize, alcl_length]) (hK _ _ W0 (Gives.read rfl))
        · have hr : Whole W0 u2.heap.size 51 (psl p.epoch p.serial (.slice Aqk p.cavs.length cqk) p.tag).toArray := (hS.old _ H115.out.lt fun k hk h => by rcases AtZ_is h with ⟨q1, q2⟩ | ⟨q1, q2⟩ <;> first | omega | (subst q1; have := hS.wait hk (j := 1) (by kernel_rfl); rw [hun] at this; cases this)).trans H115.out
          refine wpOp_row rfl rfl rfl (b := u2.heap.size) (f := 0) ((hE0 13 (by kernel_rfl)).trans rfl) (Whole.range hr) Tryd.underlying51 rfl (by rw [passSize, psl_len]) (hK _ _ W0 (Gives.read rfl))
        · have hx : A.eval (.tmp 10) = .pointer (some ⟨uy.heap.size, 0, none⟩) := ((hE0 10 (by kernel_rfl)).trans rfl)
          refine wpOp_val rfl rfl (x := .pointer (some ⟨uy.heap.size, 2, none⟩)) (w' := W0) (by rw [evt] at hx; unfold execOp; go_simp) (hK _ _ W0 (Gives.read rfl))
        · have l2 := hdep 2 (by kernel_rfl)
          have hold : ∀ g, g < wr.heap.size → g ≠ u1.heap.size → g ≠ u2.heap.size → W0.heap[g]? = wr.heap[g]? := fun g hg h1 h2 => hS.old g hg fun k _ h => (AtZ_is h).elim (fun h => h1 h.2) fun h => h2 h.2
          have hx : A.eval (.tmp 59) = .pointer (some ⟨uy.heap.size, 2, none⟩) := (hE 2 59 l2 (lt_k (by kernel_rfl)) (by kernel_rfl) (lt_k (by kernel_rfl))).trans (hS.f 2 (Live.none_ l2 rfl))
          have hm : Whole W0 uy.heap.size 46 #[.int .i64 sx, .int .i64 0, .slice Ax lx.length Cx] := (hold _ H110.out.lt (by omega) (by omega)).trans H110.out
          have hc := hm.cell 2
          refine wpOp_val rfl rfl (x := .slice Ax lx.length Cx) (w' := W0) (by rw [evt] at hx; unfold execOp; go_simp) (hK _ _ W0 (Gives.read rfl))
        · refine wpOp_move rfl rfl (.inl rfl) ((hE0 15 (by kernel_rfl)).trans rfl) (hK _ _ W0 (Gives.read rfl))
        · have l3 := hdep 3 (by kernel_rfl)
          have l4 := hdep 4 (by kernel_rfl)
          have hx : A.eval (.tmp 60) = .slice (some ⟨g0, o, none⟩) lx.length Cx := by rw [← HXC.out.1]; exact (hE 3 60 l3 (lt_k (by kernel_rfl)) (by kernel_rfl) (lt_k (by kernel_rfl))).trans (hS.f 3 (Live.none_ l3 rfl))
          have hi : A.eval (.tmp 61) = .int .i64 (i : Int) := (hE 4 61 l4 (lt_k (by kernel_rfl)) (by kernel_rfl) (lt_k (by kernel_rfl))).trans (hS.f 4 (Live.none_ l4 rfl))
          have h1 : (i : Int) < (lx.length : Int) := by omega
          have h0 : (0 : Int) ≤ (i : Int) := by omega
          refine wpOp_val rfl rfl (x := .pointer (some ⟨g0, o + i * 10, none⟩)) (w' := W0) (by rw [evt] at hx hi; unfold execOp; go_simp) (hK _ _ W0 (Gives.read rfl))
        · have l5 := hdep 5 (by kernel_rfl)
          have hold : ∀ g, g < wr.heap.size → g ≠ u1.heap.size → g ≠ u2.heap.size → W0.heap[g]? = wr.heap[g]? := fun g hg h1 h2 => hS.old g hg fun k _ h => (AtZ_is h).elim (fun h => h1 h.2) fun h => h2 h.2
          have hh := hold g0 HXC.out.2.2.1 (HXC.out.2.1 u1.heap.size (by simp)) (HXC.out.2.1 u2.heap.size (by simp))
          have hr : W0.rangeAt g0 (o + i * 10) (cvl X) := fun k u hu => (World.cell?_of_block (a := ⟨g0, o + i * 10 + k, none⟩) hh).trans (HXC.out.2.2.2.1 k u hu)
          refine wpOp_row rfl rfl rfl ((hE 5 62 l5 (lt_k (by kernel_rfl)) (by kernel_rfl) (lt_k (by kernel_rfl))).trans (hS.f 5 (Live.none_ l5 rfl))) hr Tryd.underlying59 rfl (by rw [cavSize]; rfl) (hK _ _ W0 (Gives.read rfl))
        · have l0 := hdep 0 (by kernel_rfl)
          have l1 := hdep 1 (by kernel_rfl)
          have l6 := hdep 6 (by kernel_rfl)
          have hold : ∀ g, g < wr.heap.size → g ≠ u1.heap.size → g ≠ u2.heap.size → W0.heap[g]? = wr.heap[g]? := fun g hg h1 h2 => hS.old g hg fun k _ h => (AtZ_is h).elim (fun h => h1 h.2) fun h => h2 h.2
          have e0 : v 0 = .agg (alc a.free a.seed a.fresh (.slice Ama a.macs.length cma) (.slice Aba a.boxes.length cba)) := hS.f 0 (Live.none_ l0 rfl)
          have e1 : v 1 = .agg (psl p.epoch p.serial (.slice Aqk p.cavs.length cqk) p.tag).toArray := hS.f 1 (Live.none_ l1 rfl)
          have e6 : v 6 = .agg (cvl X).toArray := hS.f 6 (Live.none_ l6 rfl)
          have hav : AlV W0 (fun g => g < wr.heap.size ∧ (Off [u2.heap.size, wc.heap.size, (uy.heap.size + 1), uy.heap.size, ux.heap.size, q1.heap.size, (u1.heap.size + 1), u1.heap.size]) g) (.agg (alc a.free a.seed a.fresh (.slice Ama a.macs.length cma) (.slice Aba a.boxes.length cba))) a := AlV.keep (AlV.mono H113.out fun g hg q => ⟨hg, q⟩) hS.low.size fun g hg h => hold g h.1 (h.2 _ (by simp)) (h.2 _ (by simp))
          have hpv : PssV W0 (fun g => g < wr.heap.size ∧ (Off [u2.heap.size, wc.heap.size, (uy.heap.size + 1), uy.heap.size, ux.heap.size, q1.heap.size, (u1.heap.size + 1), u1.heap.size]) g) (.agg (psl p.epoch p.serial (.slice Aqk p.cavs.length cqk) p.tag).toArray) p := ⟨_, _, rfl, Cavs.keep (Cavs.mono H116.out fun g hg q => ⟨hg, q⟩) hS.low.size fun g hg h => hold g h.1 (h.2 _ (by simp)) (h.2 _ (by simp)), HTLa.out⟩
          have hcv : CavV W0 (fun g => g < wr.heap.size ∧ (Off [u2.heap.size, wc.heap.size, (uy.heap.size + 1), uy.heap.size, ux.heap.size, q1.heap.size, (u1.heap.size + 1), u1.heap.size]) g) (.agg (cvl X).toArray) X.e := ⟨_, _, _, _, rfl, Bytes.keep (Bytes.mono HXC.out.2.2.2.2.1 fun g hg q => ⟨hg, q⟩) fun g hg h => hold g h.1 (h.2 _ (by simp)) (h.2 _ (by simp)), Bytes.keep (Bytes.mono HXC.out.2.2.2.2.2.1 fun g hg q => ⟨hg, q⟩) fun g hg h => hold g h.1 (h.2 _ (by simp)) (h.2 _ (by simp)), hXok.2⟩
          have hcl := catt hav (by omega) hpv (by omega) hcv (Tables.below HT.out (Nat.le_refl _) (Below.trans H106.out (hS.below (Below.size H106.out) (fun k g h => by rcases AtZ_is h with ⟨q1, q2⟩ | ⟨q1, q2⟩ <;> omega))))
          rw [← HEc.out] at hcl
          refine wpOp_call rfl rfl rfl Tryd.func20 (by kernel_rfl) (by kernel_rfl) (vs := #[.agg (alc a.free a.seed a.fresh (.slice Ama a.macs.length cma) (.slice Aba a.boxes.length cba)), .agg (psl p.epoch p.serial (.slice Aqk p.cavs.length cqk) p.tag).toArray, .agg (cvl X).toArray]) (by simp only [List.map_toArray, List.map_cons, List.map_nil, (hE 0 57 l0 (lt_k (by kernel_rfl)) (by kernel_rfl) (lt_k (by kernel_rfl))).trans e0, (hE 1 58 l1 (lt_k (by kernel_rfl)) (by kernel_rfl) (lt_k (by kernel_rfl))).trans e1, (hE 6 63 l6 (lt_k (by kernel_rfl)) (by kernel_rfl) (lt_k (by kernel_rfl))).trans e6]) (hcl.mono ?_)
          rintro e w' ⟨⟨x, y, rfl, hx, hy⟩, hb⟩
          exact ⟨_, rfl, hK _ (fun g => W0.heap.size ≤ g ∧ g < w'.heap.size) _ (Gives.make hb ⟨x, y, rfl, AlV.mono hx fun g hg q => q.imp id fun q => ⟨q, hg⟩, PssV.mono hy fun g hg q => q.imp id fun q => ⟨q, hg⟩⟩ fun _ h => h)⟩
        · have l7 := hdep 7 (by kernel_rfl)
          refine wpOp_move rfl rfl (.inl rfl) (hE 7 64 l7 (lt_k (by kernel_rfl)) (by kernel_rfl) (lt_k (by kernel_rfl))) (hK _ _ W0 (Gives.read rfl))
        · have l8 := hdep 8 (by kernel_rfl)
          have l7 := hS.wait l8 (j := 7) (by kernel_rfl)
          obtain ⟨x, y, e7, h7, h7b⟩ := hS.f 7 (Live.none_ l7 rfl)
          have e8 : v 8 = v 7 := hS.f 8 (Live.none_ l8 rfl)
          refine wpOp_extract rfl rfl rfl ((hE 8 56 l8 (lt_k (by kernel_rfl)) (by kernel_rfl) (lt_k (by kernel_rfl))).trans (e8.trans e7)) rfl (hK _ _ W0 (Gives.read ⟨_, _, e8.trans e7⟩))
        · have l8 := hdep 8 (by kernel_rfl)
          have l7 := hS.wait l8 (j := 7) (by kernel_rfl)
          obtain ⟨x, y, e7, h7, h7b⟩ := hS.f 7 (Live.none_ l7 rfl)
          have e8 : v 8 = v 7 := hS.f 8 (Live.none_ l8 rfl)
          refine wpOp_extract rfl rfl rfl ((hE 8 56 l8 (lt_k (by kernel_rfl)) (by kernel_rfl) (lt_k (by kernel_rfl))).trans (e8.trans e7)) rfl (hK _ _ W0 (Gives.read ⟨_, _, e8.trans e7⟩))
        · have l8 := hdep 8 (by kernel_rfl)
          have l7 := hS.wait l8 (j := 7) (by kernel_rfl)
          obtain ⟨x, y, e7, h7, h7b⟩ := hS.f 7 (Live.none_ l7 rfl)
          have e8 : v 8 = v 7 := hS.f 8 (Live.none_ l8 rfl)
          refine wpOp_extract rfl rfl rfl ((hE 8 56 l8 (lt_k (by kernel_rfl)) (by kernel_rfl) (lt_k (by kernel_rfl))).trans (e8.trans e7)) rfl (hK _ _ W0 (Gives.read ⟨_, _, e8.trans e7⟩))
        · have l9 := hdep 9 (by kernel_rfl)
          have l8 := hS.wait l9 (j := 8) (by kernel_rfl)
          have l7 := hS.wait l8 (j := 7) (by kernel_rfl)
          obtain ⟨x, y, e7, h7, h7b⟩ := hS.f 7 (Live.none_ l7 rfl)
          have e8 : v 8 = v 7 := hS.f 8 (Live.none_ l8 rfl)
          obtain ⟨s, t, e10⟩ := hS.f 9 (Live.none_ l9 rfl)
          have hx := (tup3 (e10.symm.trans (e8.trans e7))).1
          obtain ⟨Am, cm, Ab, cb, hxe, -, -, -⟩ := id h7
          have hx := hx.trans hxe
          have hp : ALRow W0 u1.heap.size a.free a.seed a.fresh (.slice Ama a.macs.length cma) (.slice Aba a.boxes.length cba) := (hS.old _ H114.out.lt fun k hk h => by rcases AtZ_is h with ⟨q1, q2⟩ | ⟨q1, q2⟩ <;> first | omega | (subst q1; rw [hun] at hk; cases hk)).trans H114.out
          refine wpOp_store rfl rfl rfl ((hE0 7 (by kernel_rfl)).trans rfl) ((hE 9 65 l9 (lt_k (by kernel_rfl)) (by kernel_rfl) (lt_k (by kernel_rfl))).trans hx) hp (by rw [algSize, alc_size]) (by rw [alc_size, alc_size]) (alc_one _ _ _ _ _ _ _ _ _) (hK _ (fun g => g = u1.heap.size) _ (Gives.old rfl (below_setRow (Below.refl _ _) (Nat.zero_le _) _) (fun g _ h => setRow_other _ _ _ _ h) (by simp; exact hp.lt) ⟨_, hx, fun _ h => h, Whole.setRow hp _⟩))
        · have l10 := hdep 10 (by kernel_rfl)
          have l8 := hS.wait l10 (j := 8) (by kernel_rfl)
          have l7 := hS.wait l8 (j := 7) (by kernel_rfl)
          obtain ⟨x, y, e7, h7, h7b⟩ := hS.f 7 (Live.none_ l7 rfl)
          have e8 : v 8 = v 7 := hS.f 8 (Live.none_ l8 rfl)
          obtain ⟨s, t, e10⟩ := hS.f 10 (Live.none_ l10 rfl)
          have hx := (tup3 (e10.symm.trans (e8.trans e7))).2.1
          obtain ⟨Aqn, cqn, hxe, -, -⟩ := id h7b
          have hx := hx.trans hxe
          have hp : Whole W0 u2.heap.size 51 (psl p.epoch p.serial (.slice Aqk p.cavs.length cqk) p.tag).toArray := (hS.old _ H115.out.lt fun k hk h => by rcases AtZ_is h with ⟨q1, q2⟩ | ⟨q1, q2⟩ <;> first | omega | (subst q1; rw [hun] at hk; cases hk)).trans H115.out
          refine wpOp_store rfl rfl rfl ((hE0 13 (by kernel_rfl)).trans rfl) ((hE 10 66 l10 (lt_k (by kernel_rfl)) (by kernel_rfl) (lt_k (by kernel_rfl))).trans hx) hp (by rw [passSize, psl_size]) (by rw [psl_size, psl_size]) (psl_one _ _ _ _ _ _) (hK _ (fun g => g = u2.heap.size) _ (Gives.old rfl (below_setRow (Below.refl _ _) (Nat.zero_le _) _) (fun g _ h => setRow_other _ _ _ _ h) (by simp; exact hp.lt) ⟨_, hx, fun _ h => h, Whole.setRow hp _⟩))
        · have l11 := hdep 11 (by kernel_rfl)
          refine wpOp_move rfl rfl (.inr rfl) (hE 11 67 l11 (lt_k (by kernel_rfl)) (by kernel_rfl) (lt_k (by kernel_rfl))) (hK _ _ W0 (Gives.read rfl))
      clear hsr hkr
      intro ll v TT r7 hall hS
      obtain ⟨x, y, e7, h7, h7b⟩ := hS.f 7 (Live.all hall (lt_k (by kernel_rfl)) rfl)
      have e8 : v 8 = v 7 := hS.f 8 (Live.all hall (lt_k (by kernel_rfl)) rfl)
      obtain ⟨s9, t9, e9⟩ := hS.f 9 (Live.all hall (lt_k (by kernel_rfl)) rfl)
      obtain ⟨s10, t10, e10⟩ := hS.f 10 (Live.all hall (lt_k (by kernel_rfl)) rfl)
      obtain ⟨s11, t11, e11⟩ := hS.f 11 (Live.all hall (lt_k (by kernel_rfl)) rfl)
      have x9 := (tup3 (e9.symm.trans (e8.trans e7))).1
      have x10 := (tup3 (e10.symm.trans (e8.trans e7))).2.1
      have x11 := (tup3 (e11.symm.trans (e8.trans e7))).2.2
      obtain ⟨Amc, cmc, Abc, cbc, rfl, hM, hBx, hA⟩ := id h7
      obtain ⟨Aqn, cqn, rfl, hcs, hlq2⟩ := id h7b
      obtain ⟨ca, ea, ta, hra⟩ := hS.f 12 (Live.all hall (lt_k (by kernel_rfl)) rfl)
      obtain ⟨cp', ep, tp, hrp⟩ := hS.f 13 (Live.all hall (lt_k (by kernel_rfl)) rfl)
      have e14 : v 14 = v 11 := hS.f 14 (Live.all hall (lt_k (by kernel_rfl)) rfl)
      have hca : ca = (alc c.free c.seed c.fresh (.slice Amc c.macs.length cmc) (.slice Abc c.boxes.length cbc)) := by have := ea.symm.trans x9; injection this
      have hcp : cp' = (psl q.epoch q.serial (.slice Aqn q.cavs.length cqn) q.tag).toArray := by have := ep.symm.trans x10; injection this
      subst hca hcp
      have ht7 : ∀ g, TT 7 g → wr.heap.size ≤ g := fun g h => (hS.t 7 (Live.all hall (lt_k (by kernel_rfl)) rfl) g h).1.elim id fun h => by rcases AtZ_is h with ⟨q1, q2⟩ | ⟨q1, q2⟩ <;> omega
      change Exit.inBlock _ (Exit.then _ _) Exit.normal (Act.put (Act.put (Act.put (Act.put (Act.put (Act.put (Act.put (Act.put (Act.put (Act.put (Act.put (Act.put (Act.put (Act.put (Act.put _ (some 57) (v 0)) (some 58) (v 1)) (some 59) (v 2)) (some 60) (v 3)) (some 61) (v 4)) (some 62) (v 5)) (some 63) (v 6)) (some 64) (v 7)) (some 56) (v 8)) (some 65) (v 9)) (some 66) (v 10)) (some 67) (v 11)) none (v 12)) none (v 13)) (some 14) (v 14)) _
      rw [e14, x11]
      simp only [putAll_zero, Act.put, List.setIfInBounds_toArray, List.set_cons_zero, List.set_cons_succ]
      have hol : ∀ g, g < wr.heap.size → g ≠ u1.heap.size → g ≠ u2.heap.size → r7.heap[g]? = wr.heap[g]? := fun g hg h1 h2 => hS.old g hg fun k _ h => (AtZ_is h).elim (fun h => h1 h.2) fun h => h2 h.2
      have hsr7 : wr.heap.size ≤ r7.heap.size := hS.low.size
      have hba : Below w.heap.size w r7 := Below.trans H106.out (hS.below (Below.size H106.out) (fun k g h => by rcases AtZ_is h with ⟨q1, q2⟩ | ⟨q1, q2⟩ <;> omega))
      have H1164 : Hid (Below w.heap.size w r7) := Lib.hid (hba)
      have H1165 : Hid (TGRow r7 (u1.heap.size + 1) K) := Lib.hid (((hol _ (Whole.lt H107.out) (by omega) (by omega)).trans H107.out))
      have H1166 : Hid (Cavs r7 (Off [u2.heap.size, wc.heap.size, (uy.heap.size + 1), uy.heap.size, ux.heap.size, q1.heap.size, (u1.heap.size + 1), u1.heap.size]) Ax Cx lx) := Lib.hid ((Cavs.keep H108.out hS.low.size fun g hg h => hol g hg (h _ (by simp)) (h _ (by simp))))
      have H1167 : Hid (Cavs r7 (Off [u2.heap.size, wc.heap.size, (uy.heap.size + 1), uy.heap.size, ux.heap.size, q1.heap.size, (u1.heap.size + 1), u1.heap.size]) Ay Cy ly) := Lib.hid ((Cavs.keep H109.out hS.low.size fun g hg h => hol g hg (h _ (by simp)) (h _ (by simp))))
      have H1168 : Hid (Whole r7 uy.heap.size 46 #[.int .i64 sx, .int .i64 0, .slice Ax lx.length Cx]) := Lib.hid (((hol _ (Whole.lt H110.out) (by omega) (by omega)).trans H110.out))
      have H1169 : Hid (Whole r7 (uy.heap.size + 1) 46 #[.int .i64 sy, .int .i64 0, .slice Ay ly.length Cy]) := Lib.hid (((hol _ (Whole.lt H111.out) (by omega) (by omega)).trans H111.out))
      have H1170 : Hid (Whole r7 wc.heap.size 49 (epl 1 K).toArray) := Lib.hid (((hol _ (Whole.lt H112.out) (by omega) (by omega)).trans H112.out))
      clear H106 H107 H108 H109 H110 H111 H112
      have H1171 : Hid (ALRow r7 u1.heap.size c.free c.seed c.fresh (.slice Amc c.macs.length cmc) (.slice Abc c.boxes.length cbc)) := Lib.hid (hra)
      have H1172 : Hid (AlV r7 (Off [u2.heap.size, wc.heap.size, (uy.heap.size + 1), uy.heap.size, ux.heap.size, q1.heap.size, (u1.heap.size + 1), u1.heap.size]) (.agg (alc c.free c.seed c.fresh (.slice Amc c.macs.length cmc) (.slice Abc c.boxes.length cbc))) c) := Lib.hid (AlV.mono h7 (fun g hg qq y hy => qq.elim (fun q => q.2 y hy) fun q => by have := ht7 g q; simp at hy; omega))
      have H1173 : Hid (Whole r7 u2.heap.size 51 (psl q.epoch q.serial (.slice Aqn q.cavs.length cqn) q.tag).toArray) := Lib.hid (hrp)
      have H1174 : Hid (Cavs r7 (Off [u2.heap.size, wc.heap.size, (uy.heap.size + 1), uy.heap.size, ux.heap.size, q1.heap.size, (u1.heap.size + 1), u1.heap.size]) Aqn cqn q.cavs) := Lib.hid (Cavs.mono hcs (fun g hg qq y hy => qq.elim (fun q => q.2 y hy) fun q => by have := ht7 g q; simp at hy; omega))
      have HTLc : Hid (q.tag.length = 32) := Lib.hid hlq2
      clear hol hba hra hrp h7 h7b hS hall hM hBx hA hcs hlq2 x9 x10 x11 e7 e8 e9 e10 e11 e14 ea ep ta tp ht7 hqz
      go_wp2_with fail
      go_roundw
      case rel =>
        have hcn : c.macs.length ≤ a.macs.length + 2 := by obtain ⟨x, hx1, hx2⟩ := HCC.out.2.2.1; rw [hx1, List.length_append]; omega
        exact ⟨i + 1, c, q, _, _, _, _, _, _, by go_num, rfl, by omega, by omega, ⟨HCC.out.1, HCC.out.2.1⟩, HTLc.out, ⟨by rw [HCC.out.2.2.2.1, HCHa.out.1, List.take_add_one, HXC.out.2.2.2.2.2.2]; rfl, by rw [HCC.out.2.2.2.1]; exact HCC.out.2.2.2.2⟩, H1172.out, H1171.out, H1174.out, H1173.out, H1164.out, H1165.out, H1166.out, H1167.out, H1168.out, H1169.out, H1170.out⟩
      case measure => simp [intOf]; omega
end Go.Proofs.YtiikhjifjdpgdaaDoor
