/-
  AlgSym
  KDag
  KOag
-/
import Derived.Lib.SlBytesConst
import Derived.Deep.CutBlock
import Derived.Deep.DeepCutAuto
import Derived.Test.YteekdhcffiaaaaaDoorPk16
import Derived.Test.YteekdhcffiaaaaaDoorPk3
import Derived.Test.YteekdhcffiaaaaaDoorPk6
import Derived.Test.YteekdhcffiaaaaaDoorPk8
import Derived.Test.YteekdhcffiaaaaaDoorPk30
namespace Go.Proofs.YteekdhcffiaaaaaDoor
open Go Go.RowKit Sh Leaf

theorem shr_byte (z : Int) {k : Nat} (hk : k < 8) : z / 2 ^ (56 - 8 * k) % 256 = bv (BitVec.ofNat 8 (u64n z / 2 ^ (56 - 8 * k))) := by
  rw [bv_ofNat]
  have e : ((u64n z : Nat) : Int) = z % 18446744073709551616 := by unfold u64n; omega
  generalize u64n z = n at e ⊢
  rcases (by omega : k = 0 ∨ k = 1 ∨ k = 2 ∨ k = 3 ∨ k = 4 ∨ k = 5 ∨ k = 6 ∨ k = 7) with rfl | rfl | rfl | rfl | rfl | rfl | rfl | rfl
  · have e2 : ((2 : Int) ^ (56 - 8 * 0)) = 72057594037927936 := by decide
    have e3 : (2 : Nat) ^ (56 - 8 * 0) = 72057594037927936 := by decide
    rw [e2, e3]
    omega
  · have e2 : ((2 : Int) ^ (56 - 8 * 1)) = 281474976710656 := by decide
    have e3 : (2 : Nat) ^ (56 - 8 * 1) = 281474976710656 := by decide
    rw [e2, e3]
    omega
  · have e2 : ((2 : Int) ^ (56 - 8 * 2)) = 1099511627776 := by decide
    have e3 : (2 : Nat) ^ (56 - 8 * 2) = 1099511627776 := by decide
    rw [e2, e3]
    omega
  · have e2 : ((2 : Int) ^ (56 - 8 * 3)) = 4294967296 := by decide
    have e3 : (2 : Nat) ^ (56 - 8 * 3) = 4294967296 := by decide
    rw [e2, e3]
    omega
  · have e2 : ((2 : Int) ^ (56 - 8 * 4)) = 16777216 := by decide
    have e3 : (2 : Nat) ^ (56 - 8 * 4) = 16777216 := by decide
    rw [e2, e3]
    omega
  · have e2 : ((2 : Int) ^ (56 - 8 * 5)) = 65536 := by decide
    have e3 : (2 : Nat) ^ (56 - 8 * 5) = 65536 := by decide
    rw [e2, e3]
    omega
  · have e2 : ((2 : Int) ^ (56 - 8 * 6)) = 256 := by decide
    have e3 : (2 : Nat) ^ (56 - 8 * 6) = 256 := by decide
    rw [e2, e3]
    omega
  · have e2 : ((2 : Int) ^ (56 - 8 * 7)) = 1 := by decide
    have e3 : (2 : Nat) ^ (56 - 8 * 7) = 1 := by decide
    rw [e2, e3]
    omega
theorem conv_const (C : Array Value) (n c : Nat) (W : World) : (convert 39 39 (.slice (some ⟨W.heap.size, 0, none⟩) n c)).run Tryd.prog (W.alloc (.cells C 5)) = .ok (.slice (some ⟨W.heap.size, 0, none⟩) n c) (W.alloc (.cells C 5 (C.size, C.size + 1))) :=
  Lib.run_convert_bytes_const W 39 5 C n c Tryd.underlying39 Tryd.underlying5
theorem own_const (W : World) (base : Nat) (hb : base ≤ W.heap.size) (xs : List B8) (C : Array Value) (n : Nat) (hC : C = (xs.map byt).toArray) (hn : xs.length = n) (hl : n ≤ 1000) : OwnM (W.alloc (.cells C 5 (C.size, C.size + 1))) base (.slice (some ⟨W.heap.size, 0, none⟩) n n) xs := by
  subst hn hC
  refine ⟨W.heap.size, xs.length, rfl, hb, by simp, Nat.le_refl _, by unfold maxLen; omega, fun j x hj => ?_, fun j h1 h2 => by omega⟩
  rw [World.cell?_alloc_mark, List.getElem?_toArray, List.getElem?_map, hj]
  rfl
theorem bytes_one_at (w : World) (z : Int) (x : B8) (g : Nat) (hg : g = w.heap.size) (h : z = bv x) : Bytes (w.alloc (.cells #[.int .u8 z] 5)) (fun _ => True) (.slice (some ⟨g, 0, none⟩) 1 1) [x] := by subst hg; exact bytes_one w z x h
theorem be8_take_z (z : Int) {k : Nat} (h : k < 8) : (be8 (u64n z)).take (k + 1) = (be8 (u64n z)).take k ++ [BitVec.ofNat 8 (u64n z / 2 ^ (56 - 8 * k))] := be8_take_succ _ h
abbrev smb : List B8 := [115#8, 121#8, 109#8, 98#8, 111#8, 108#8]
theorem smb_cells : (#[.int .u8 115, .int .u8 121, .int .u8 109, .int .u8 98, .int .u8 111, .int .u8 108] : Array Value) = (smb.map byt).toArray := by
  simp only [smb, List.map_cons, List.map_nil, byt]
  rw [bv_lit 115 (by omega), bv_lit 121 (by omega), bv_lit 109 (by omega), bv_lit 98 (by omega), bv_lit 111 (by omega), bv_lit 108 (by omega)]
  rfl
set_option maxRecDepth 20000 in
set_option maxHeartbeats 1000000 in
theorem symbol (k : B8) (z : Int) (w : World) : Calls Tryd.prog 44 #[.int .u8 (bv k), .int .i64 z] w fun e w' => e = .returned (tagv (sym k z)) ∧ Below w.heap.size w w' := by
  have hcv := conv_const
  have hx0 : ∀ o, Below w.heap.size w (w.alloc o) := fun o => (Below.refl _ _).alloc (Nat.le_refl _) _
  go_enter Tryd.func44, Tryd.ntmps44
  go_upto_region 1 with fail
  rw [ztr_lit]
  have k0 : TGRow (w.alloc (.cells ztr 28)) w.heap.size ztag := ztr_row (Whole.here _ _ _)
  have hb0 := hx0 (.cells ztr 28)
  generalize w.alloc (.cells ztr 28) = p at k0 hb0 ⊢
  have hoc := own_const p p.heap.size (Nat.le_refl _) smb _ 6 smb_cells rfl (by omega)
  have HOC := Lib.hid hoc
  have HK0 := Lib.hid k0
  have HB0 := Lib.hid hb0
  clear hx0 k0 hb0 hoc
  go_wp2_with (at_builtin; go_must (refine wpList_append_mark rfl _ _ rfl p.heap.size _ smb rfl (HOC.out.alloc _) _ _ [k] rfl (bytes_one_at _ _ _ _ (by simp) rfl) (by simp) (by simp) (by simp; omega) ?_); intro v1 w1 hown1 hb1)
  have hq1 : Below p.heap.size p w1 := (((Below.refl _ _).alloc (Nat.le_refl _) _).alloc (by simp) _).trans hb1
  obtain ⟨L, hL⟩ : ∃ L, L = smb ++ [k] := ⟨_, rfl⟩
  have hLl : L.length = 7 := by rw [hL]; rfl
  rw [← hL] at hown1
  have HL := Lib.hid hL
  clear hcv hb1 hL HOC
  go_loopw [5, 6] (fun vm i wr => ∃ j : Nat, j ≤ 8 ∧ i = .int .i64 (56 - 8 * (j : Int)) ∧ OwnM wr p.heap.size vm (L ++ (be8 (u64n z)).take j) ∧ Below p.heap.size p wr) (fun _ i _ => (intOf i + 8).toNat)
  case atStart => exact ⟨0, by omega, rfl, by simpa using hown1, hq1⟩
  case round =>
    clear hown1 hq1
    obtain ⟨j, hj, rfl, hown, hbr⟩ := hrel
    by_cases hlt : j < 8
    · have hl : ((be8 (u64n z)).take j).length ≤ 8 := by rw [List.length_take, be8_length]; omega
      have hbs := hbr.size
      have i0 : (0 : Int) ≤ 56 - 8 * (j : Int) := by omega
      have i1 : (56 - 8 * (j : Int)).toNat = 56 - 8 * j := by omega
      have HZ := Lib.hid (shr_byte z hlt)
      have HT := Lib.hid (be8_take_z z hlt)
      have hLk : (L ++ (be8 (u64n z)).take j).length ≤ 20 := by rw [List.length_append]; omega
      go_wp2_with (at_builtin; refine wpList_append_mark rfl _ _ rfl p.heap.size _ (L ++ (be8 (u64n z)).take j) rfl (hown.alloc _) _ (.slice (some ⟨wr.heap.size, 0, none⟩) 1 1) _ rfl (bytes_one wr _ _ HZ.out) (by simp) (by simp only [List.length_singleton]; omega) (by simp; omega) ?_; intro v' w' h1 h2)
      go_roundw
      case rel =>
        refine ⟨j + 1, by omega, by go_num, ?_, (hbr.alloc (by omega) _).trans h2⟩
        rw [HT.out, ← List.append_assoc]; exact h1
      case measure => simp [intOf]; omega
    · have ek : (be8 (u64n z)).take j = be8 (u64n z) := List.take_of_length_le (by rw [be8_length]; omega)
      rw [ek, HL.out] at hown
      have hby := hown.bytes
      obtain ⟨Y, hY⟩ : ∃ Y, Y = smb ++ [k] ++ be8 (u64n z) := ⟨_, rfl⟩
      have hYl : Y.length = 15 := by rw [hY]; simp [be8_length]
      have hsym : Y ++ List.replicate 17 0#8 = sym k z := by rw [hY]; rfl
      rw [← hY] at hby
      have HBY := Lib.hid hby
      have HSY := Lib.hid hsym
      have HBR := Lib.hid hbr
      clear ek hown hby hY hsym hbr HL hLl
      go_upto_region 7 with fail
      rw [ztr_lit]
      have q0 : Whole (wr.alloc (.cells ztr 28)) wr.heap.size 28 (ztag.map byt).toArray := ztr_row (Whole.here _ _ _)
      have hq : Below p.heap.size p (wr.alloc (.cells ztr 28)) := HBR.out.alloc HBR.out.size _
      have hby2 := HBY.out.alloc (.cells ztr 28)
      generalize wr.alloc (.cells ztr 28) = q at q0 hq hby2 ⊢
      have hws : w.heap.size < p.heap.size := Whole.lt HK0.out
      have hqs : p.heap.size ≤ wr.heap.size := HBR.out.size
      have HBY2 := Lib.hid hby2
      have HQ0 := Lib.hid q0
      have HQ := Lib.hid hq
      have hst := fun g W => run_sliceAt_whole (P := Tryd.prog) (t := 28) (e := 5) (n := 32) Tryd.underlying28 (by kernel_rfl) g W
      clear q0 hq hby2 HBY
      go_wp2_with (first
        | (with_reducible refine wpList_copy_bytes rfl _ _ rfl wr.heap.size 32 32 rfl _ rfl _ Y HBY2.out _ (ztag.map byt) HQ0.out (by omega) (by simp) ?_))
      intro w' hw' hbw
      have hrow : TGRow w' wr.heap.size (sym k z) := by
        have e : List.map byt Y ++ List.map byt (List.replicate 17 0#8) = (sym k z).map byt := by rw [← List.map_append, HSY.out]
        have h := hw'.out
        show Whole w' wr.heap.size _ _
        rw [← e]
        exact h
      have hk0 : TGRow w' w.heap.size ztag := Whole.below (Whole.below HK0.out HQ.out hws) hbw (by omega)
      have hbf : Below w.heap.size w w' := HB0.out.trans ((HQ.out.trans (hbw.mono hqs)).mono HB0.out.size)
      have HR := Lib.hid hrow
      have HK := Lib.hid hk0
      have HF := Lib.hid hbf
      have hsl := sym_length k z
      have hz1 : ((sym k z).map byt).toArray.size = 32 := by simp [hsl]
      clear hw' hbw hrow hk0 hbf hst HQ HBY2 HQ0 HK0 HB0 HBR HSY hYl hsl
      go_wp2_with (first
        | (with_reducible refine wpList_load_row rfl 28 _ rfl wr.heap.size rfl _ _ _ _ HR.out.eq Tryd.underlying28 rfl (by rw [tagSize, hz1]) ?_)
        | (with_reducible refine wpList_store_row rfl 28 _ _ rfl w.heap.size _ rfl rfl _ _ HK.out.eq (by rw [tagSize, hz1]) (by rw [hz1]; simp) (all_oneCell_toArray (byt_one _)) ?_))
      have h3 := Whole.setRow HK.out ((sym k z).map byt).toArray
      refine bodyPost_ret (results_cell_row Tryd.results44 _ _ w.heap.size _ _ _ _ rfl h3 Tryd.underlying28 rfl (by rw [tagSize, hz1])) rfl ⟨rfl, below_setRow HF.out (Nat.le_refl _) _⟩
end Go.Proofs.YteekdhcffiaaaaaDoor
namespace Go.Proofs.YteekdhcffiaaaaaDoor
open Go Go.RowKit Sh Leaf

theorem TGRow.oth {g b : Nat} {w w' : World} {l : List B8} (h : TGRow w b l) (ho : Oth g w w') (hb : b ≠ g) : TGRow w' b l := ho.oth b _ _ hb h
theorem TGRow.set {b : Nat} {w : World} {l : List B8} (h : TGRow w b l) (k : Nat) (x : B8) : TGRow (w.setCell ⟨b, k, none⟩ (byt x)) b (l.set k x) := by
  have h1 := Whole.set h k (byt x)
  rw [List.setIfInBounds_toArray, ← List.map_set] at h1
  exact h1
set_option linter.unusedSimpArgs false in
set_option maxRecDepth 100000 in
set_option maxHeartbeats 2000000 in
theorem dtag (g : Nat) (w : World) (h : Deck g w) :
    Calls Tryd.prog 8 #[.pointer (some ⟨g, 0, none⟩)] w fun e w' => (∃ K : List B8, K.length = 32 ∧ e = .returned (tagv K)) ∧ Turn g w w' := by
  have hgw := h.lt
  obtain ⟨p, hp⟩ : ∃ p, p = (w.alloc (.cells ztr 28)).alloc (.cells ztr 28) := ⟨_, rfl⟩
  have hb : Below w.heap.size w p := by rw [hp]; exact ((Below.refl _ _).alloc (Nat.le_refl _) _).alloc (by simp) _
  have h0 : TGRow p w.heap.size (List.replicate 32 0) := by rw [hp]; exact ztr_row ((Whole.here _ _ _).alloc _)
  have h1 : TGRow p (w.heap.size + 1) (List.replicate 32 0) := by rw [hp]; exact ztr_row (Whole.at_ _ _ _ _ (by simp))
  have HT : Hid (Turn g w p) := Lib.hid (h.here hb)
  have hps : w.heap.size + 1 < p.heap.size := h1.lt
  have H0 := Lib.hid h0
  have H1 := Lib.hid h1
  clear h hb h0 h1
  go_enter Tryd.func8, Tryd.ntmps8
  go_upto_region 2 with fail
  rw [ztr_lit, ← hp]
  clear hp
  go_wp2_with fail
  go_loopw [4] (fun v wr => ∃ j : Nat, v = .int .i64 j ∧ j ≤ 4 ∧ Turn g w wr ∧ (∃ L : List B8, L.length = 32 ∧ TGRow wr (w.heap.size + 1) L) ∧ TGRow wr w.heap.size (List.replicate 32 0)) (fun v _ => 4 - (intOf v).toNat)
  case atStart => exact ⟨0, rfl, by omega, HT.out, ⟨_, by simp, H1.out⟩, H0.out⟩
  case round =>
    obtain ⟨j, rfl, hj, ht, ⟨L, hL, hrow⟩, hz⟩ := hrel
    have HTT := Lib.hid ht
    have HROW := Lib.hid hrow
    have HZ := Lib.hid hz
    have HLL := Lib.hid hL
    by_cases hlt : j < 4
    · have hnx := dnext 256 (by omega) (by omega) g wr ht.1
      obtain ⟨k, hk⟩ : ∃ k, k = j * 9 := ⟨_, rfl⟩
      have hkj : IntKind.i64.wrap ((j : Int) * 9) = (k : Int) := by rw [IntKind.wrap_i64]; omega
      have hk0 : (0 : Int) ≤ (k : Int) := by omega
      have hk1 : (k : Int) < 32 := by omega
      have hk32 : k < 32 := by omega
      clear ht hrow hz hL HT H0 H1 hk
      go_wp2_with fail
      refine hnx.mono ?_
      rintro e w1 ⟨i, hi, rfl, ht1⟩
      have hrow1 := HROW.out.oth ht1.2.2 (by omega)
      have hz1 := HZ.out.oth ht1.2.2 (by omega)
      have htw := HTT.out.trans ht1
      have hsz : w.heap.size + 1 < w1.heap.size := hrow1.lt
      have hwi : IntKind.u8.wrap (i : Int) = bv (BitVec.ofNat 8 i) := by rw [bv_lit i (by omega), IntKind.wrap_u8]; omega
      obtain ⟨x, hv⟩ : ∃ v, w1.cell? ⟨w.heap.size + 1, k, none⟩ = some v := by
        obtain ⟨b, hb⟩ : ∃ b, L[k]? = some b := ⟨_, List.getElem?_eq_getElem (by rw [HLL.out]; exact hk32)⟩
        exact ⟨byt b, by rw [Whole.cell hrow1, List.getElem?_toArray, List.getElem?_map, hb]; rfl⟩
      have hfz := Whole.frozen hrow1 k
      have HX : Hid (Turn g w (w1.setCell ⟨w.heap.size + 1, k, none⟩ (byt (BitVec.ofNat 8 i)))) := Lib.hid (htw.below (B := w.heap.size) ((Below.refl _ _).setCell (p := ⟨w.heap.size + 1, k, none⟩) (by show w.heap.size ≤ w.heap.size + 1; omega) _) hgw (Nat.le_refl _))
      have HY := Lib.hid (hrow1.set k (BitVec.ofNat 8 i))
      have HZ2 := Lib.hid (Whole.far hz1 (a := ⟨w.heap.size + 1, k, none⟩) (by show w.heap.size ≠ w.heap.size + 1; omega) (byt (BitVec.ofNat 8 i)))
      have hHL : Hid ((L.set k (BitVec.ofNat 8 i)).length = 32) := Lib.hid (by rw [List.length_set, HLL.out])
      clear hnx ht1 hrow1 hz1 htw
      go_wp2_with fail
      go_roundw
      case rel => exact ⟨j + 1, by go_num, by omega, HX.out, ⟨_, hHL.out, HY.out⟩, HZ2.out⟩
      case measure => simp [intOf]; omega
    · have hz32 : (List.replicate 32 (0 : B8)).length = 32 := by simp
      clear ht hrow hz hL HT H0 H1
      go_wp2_with (first
        | (with_reducible refine wpList_load_tag rfl _ rfl (g := w.heap.size + 1) rfl HROW.out (tag_size HLL.out) ?_)
        | (with_reducible refine wpList_store_tag rfl _ _ rfl (g := w.heap.size) rfl rfl HZ.out (tag_size hz32) (tag_size HLL.out) (tag_one _) ?_))
      have h3 := Whole.setRow HZ.out (L.map byt).toArray
      refine bodyPost_ret (results_cell_row Tryd.results8 _ _ w.heap.size _ _ _ _ rfl h3 Tryd.underlying28 rfl (by rw [tagSize, tag_size HLL.out])) rfl ?_
      exact ⟨⟨L, HLL.out, rfl⟩, HTT.out.below (B := w.heap.size) (below_setRow (Below.refl _ _) (Nat.le_refl _) _) hgw (Nat.le_refl _)⟩
end Go.Proofs.YteekdhcffiaaaaaDoor
namespace Go.Proofs.YteekdhcffiaaaaaDoor
open Go Go.RowKit Sh Leaf

section
variable {w w' : World} {Q : Nat → Prop} {A : Option Addr} {c g : Nat}
theorem Seq.oth {α : Type} {f : α → List Value} {ok : α → Prop} {l : List α} (h : Seq f ok w Q A c l) (ho : Oth g w w') (hs : w.heap.size ≤ w'.heap.size) (hQ : ∀ b, Q b → b ≠ g) : Seq f ok w' Q A c l := by
  obtain ⟨h1, h2, h3, h4, h5⟩ := h
  refine ⟨h1, h2, h3, h4, fun hl => ?_⟩
  obtain ⟨b, o, hA, hq, hb, hc⟩ := h5 hl
  exact ⟨b, o, hA, hq, by omega, fun j v hj => ho.cell (a := ⟨b, o + j, none⟩) (hQ b hq) (hc j v hj)⟩
theorem Macs.oth {l : List Me} (h : Macs w Q A c l) (ho : Oth g w w') (hs : w.heap.size ≤ w'.heap.size) (hQ : ∀ b, Q b → b ≠ g) : Macs w' Q A c l := by
  obtain ⟨L, h1, h2, h3⟩ := h
  exact ⟨L, h1, h2.oth ho hs hQ, fun x hx => (h3 x hx).oth ho hQ⟩
theorem Bxs.oth {l : List Bx} (h : Bxs w Q A c l) (ho : Oth g w w') (hs : w.heap.size ≤ w'.heap.size) (hQ : ∀ b, Q b → b ≠ g) : Bxs w' Q A c l := by
  obtain ⟨L, h1, h2, h3⟩ := h
  exact ⟨L, h1, h2.oth ho hs hQ, fun x hx => ⟨(h3 x hx).1.oth ho hQ, (h3 x hx).2.oth ho hQ⟩⟩
theorem AlV.oth {v : Value} {a : Alg} (h : AlV w Q v a) (ho : Oth g w w') (hs : w.heap.size ≤ w'.heap.size) (hQ : ∀ b, Q b → b ≠ g) : AlV w' Q v a := by
  obtain ⟨Am, cm, Ab, cb, h1, h2, h3, h4⟩ := h
  exact ⟨Am, cm, Ab, cb, h1, h2.oth ho hs hQ, h3.oth ho hs hQ, h4⟩
theorem Macs.at_ {l : List Me} {b o : Nat} (h : Macs w Q (some ⟨b, o, none⟩) c l) (j : Nat) (e : Me) (hj : l[j]? = some e) : w.rangeAt b (o + j * 65) (e.key.map byt) ∧ w.rangeAt b (o + j * 65 + 33) (e.tag.map byt) ∧ e.key.length = 32 ∧ e.tag.length = 32 := by
  obtain ⟨g, o', D, d, he, _, _, h1, _, h2, _, h3, h4, _⟩ := Macs.get h j e hj
  injection he with he
  injection he with e1 e2 e3
  subst e1 e2
  exact ⟨h1, h2, h3, h4⟩
theorem Bxs.at_ {l : List Bx} {b o : Nat} (h : Bxs w Q (some ⟨b, o, none⟩) c l) (j : Nat) (e : Bx) (hj : l[j]? = some e) : w.rangeAt b (o + j * 35) (e.key.map byt) ∧ e.key.length = 32 := by
  obtain ⟨g, o', D, d, D2, d2, he, _, _, _, h1, _, _, h3, _⟩ := Bxs.get h j e hj
  injection he with he
  injection he with e1 e2 e3
  subst e1 e2
  exact ⟨h1, h3⟩
theorem Macs.block {l : List Me} (h : Macs w Q A c l) (hl : 0 < l.length) : ∃ b o, A = some ⟨b, o, none⟩ := by
  obtain ⟨e, he⟩ : ∃ e, l[0]? = some e := ⟨_, List.getElem?_eq_getElem hl⟩
  obtain ⟨g, o', D, d, he, _⟩ := Macs.get h 0 e he
  exact ⟨g, o', he⟩
theorem Bxs.block {l : List Bx} (h : Bxs w Q A c l) (hl : 0 < l.length) : ∃ b o, A = some ⟨b, o, none⟩ := by
  obtain ⟨e, he⟩ : ∃ e, l[0]? = some e := ⟨_, List.getElem?_eq_getElem hl⟩
  obtain ⟨g, o', D, d, D2, d2, he, _⟩ := Bxs.get h 0 e he
  exact ⟨g, o', he⟩
end
end Go.Proofs.YteekdhcffiaaaaaDoor
