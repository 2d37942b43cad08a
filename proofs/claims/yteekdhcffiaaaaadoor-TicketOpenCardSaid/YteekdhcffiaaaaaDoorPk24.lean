/-
  AlgREnt
  AlgRSam
  AlgRSym
  AlgEq
  KKnown
-/
import Derived.Deep.RegionHeld3
import Derived.Deep.CutBlock
import Derived.Deep.DeepCutAuto
import Derived.Test.YteekdhcffiaaaaaDoorKSq
import Derived.Test.YteekdhcffiaaaaaDoorPk16
import Derived.Test.YteekdhcffiaaaaaDoorPk11
import Derived.Laws.CopyOwn
import Derived.Test.YteekdhcffiaaaaaDoorPk25
import Derived.Test.YteekdhcffiaaaaaDoorPk6
namespace Go.Proofs.YteekdhcffiaaaaaDoor
open Go Go.RowKit Sh Leaf
namespace Sh

theorem fnd_cons (e : Me) (l : List Me) (k m : List B8) : fnd (e :: l) k m = if e.key = k ∧ e.msg = m then some e.tag else fnd l k m := by
  unfold fnd
  rw [List.find?_cons]
  by_cases h : e.key = k ∧ e.msg = m
  · rw [if_pos h, decide_eq_true h]; rfl
  · rw [if_neg h, decide_eq_false h]
theorem fnd_drop {l : List Me} {j : Nat} {e : Me} (h : l[j]? = some e) (k m : List B8) : fnd (l.drop j) k m = if e.key = k ∧ e.msg = m then some e.tag else fnd (l.drop (j + 1)) k m := by
  have hj := (List.getElem?_eq_some_iff.1 h).1
  have he := (List.getElem?_eq_some_iff.1 h).2
  rw [List.drop_eq_getElem_cons hj, he, fnd_cons]
theorem fnd_end (l : List Me) (k m : List B8) : fnd (l.drop l.length) k m = none := by rw [List.drop_length]; rfl
theorem fnd_len {l : List Me} {k m t : List B8} (h : fnd l k m = some t) (hl : ∀ e ∈ l, e.tag.length = 32) : t.length = 32 := by
  unfold fnd at h
  obtain ⟨e, he, rfl⟩ := Option.map_eq_some_iff.1 h
  exact hl e (List.mem_of_find?_eq_some he)
end Sh
abbrev fres (r : Option (List B8)) : Value := .tuple #[tagv (r.getD ztag), .bool r.isSome]
set_option linter.unusedSimpArgs false in
set_option maxRecDepth 100000 in
set_option maxHeartbeats 4000000 in
theorem rentry {w : World} {Q Q2 : Nat → Prop} {x : Value} {B : Option Addr} {d : Nat} {a : Alg} {K m : List B8} (hx : AlV w Q x a) (hK : K.length = 32) (hm : Bytes w Q2 (.slice B m.length d) m) (hml : m.length ≤ 100000) :
    Calls Tryd.prog 43 #[x, .agg (K.map byt).toArray, .slice B m.length d] w fun e w' => e = .returned (fres (fnd a.macs K m)) ∧ Below w.heap.size w w' := by
  obtain ⟨Am, cm, Ab, cb, rfl, hM, -, hA⟩ := hx
  obtain ⟨p, hp⟩ : ∃ p, p = ((w.alloc (.cells (alc a.free a.seed a.fresh (.slice Am a.macs.length cm) (.slice Ab a.boxes.length cb)) 32)).alloc (.cells (K.map byt).toArray 28)).alloc (.cells ztr 28) := ⟨_, rfl⟩
  have hr : ALRow p w.heap.size a.free a.seed a.fresh (.slice Am a.macs.length cm) (.slice Ab a.boxes.length cb) := by rw [hp]; exact ((Whole.here _ _ _).alloc _).alloc _
  have hk : TGRow p (w.heap.size + 1) K := by rw [hp]; exact (Whole.at_ _ _ _ _ (by simp)).alloc _
  have hz : TGRow p (w.heap.size + 1 + 1) ztag := by rw [hp]; exact ztr_row (Whole.at_ _ _ _ _ (by simp))
  have hb : Below w.heap.size w p := by rw [hp]; exact (((Below.refl _ _).alloc (Nat.le_refl _) _).alloc (by simp) _).alloc (by simp; omega) _
  have hps : w.heap.size + 1 + 1 < p.heap.size := hz.lt
  obtain ⟨R, hR⟩ : ∃ R, R = fnd a.macs K m := ⟨_, rfl⟩
  obtain ⟨n, hn⟩ : ∃ n, n = a.macs.length := ⟨_, rfl⟩
  have hn1 : n ≤ 1000 := by rw [hn]; exact hA.macs
  have hMp := hM.below hb (Nat.le_refl _)
  have hmp := hm.below hb (Nat.le_refl _)
  rw [← hR]
  rw [← hn] at hr hp ⊢
  have HM := Lib.hid hMp
  have HMM := Lib.hid hmp
  have HR := Lib.hid hR
  have HN := Lib.hid hn
  have HW := Lib.hid hr
  have HK := Lib.hid hk
  have HZ := Lib.hid hz
  have HB := Lib.hid hb
  clear hM hm hMp hmp hR hn hr hk hz hb hA
  go_enter Tryd.func43, Tryd.ntmps43
  go_upto_region 1 with fail
  rw [ztr_lit, ← hp]
  clear hp
  go_wp2_with fail
  go_loopw [8] (fun v wr => ∃ j : Nat, v = .int .i64 j ∧ j ≤ n ∧ fnd (a.macs.drop j) K m = R ∧ Below p.heap.size p wr) (fun v _ => n - (intOf v).toNat)
  case atStart => exact ⟨0, rfl, by omega, by rw [List.drop_zero]; exact HR.out.symm, Below.refl _ _⟩
  case round =>
    obtain ⟨j, rfl, hj, hf, hbw⟩ := hrel
    have HF := Lib.hid hf
    have HBW := Lib.hid hbw
    have hww := Whole.below HW.out hbw (by omega)
    obtain ⟨c0, c33, c34, c35⟩ := ALRow.cells hww
    clear hf hbw c0 c33 c35
    by_cases hlt : j < n
    case neg =>
      obtain rfl : j = n := by omega
      have HX : Hid (R = none) := Lib.hid (by have := HF.out; rw [HN.out, fnd_end] at this; exact this.symm)
      have HZ2 := Lib.hid (Whole.below HZ.out HBW.out (by omega))
      have HB2 : Hid (Below w.heap.size w wr) := Lib.hid (HB.out.trans (HBW.out.mono (by omega)))
      clear hww
      go_upto_region 6 with fail
      go_wp2_with (with_reducible refine wpList_store_tag rfl _ _ rfl (g := w.heap.size + 1 + 1) rfl rfl HZ2.out (tag_size (by simp)) rfl (by with_unfolding_all rfl) ?_)
      rw [ztr_lit]
      have h3 := ztr_row (Whole.setRow HZ2.out ztr)
      rw [HX.out]
      refine bodyPost_ret (results_tag2 (g := w.heap.size + 1 + 1) Tryd.results43 _ rfl _ rfl (tag_size (by simp)) h3) rfl ⟨rfl, below_setRow HB2.out (by omega) _⟩
    obtain ⟨e, he⟩ : ∃ e, a.macs[j]? = some e := ⟨_, List.getElem?_eq_getElem (by have := HN.out; omega)⟩
    obtain ⟨g, o, D, dc, rfl, hq, hg, hkey, hsl, htag, hby, hk32, ht32, hm5, -⟩ := Macs.get (HM.out.below HBW.out (Nat.le_refl _)) j e he
    have HS := Lib.hid (fnd_drop he K m)
    have HTAG := Lib.hid htag
    have HBY := Lib.hid hby
    have HT := Lib.hid (And.intro ht32 hm5)
    have hcc : ∀ W, Below wr.heap.size wr W → W.cell? ⟨w.heap.size, 34, none⟩ = some (.slice (some ⟨g, o, none⟩) n cm) ∧ W.rangeAt (w.heap.size + 1) 0 (K.map byt) ∧ W.rangeAt g (o + j * 65) (e.key.map byt) ∧ W.cell? ⟨g, o + j * 65 + 32, none⟩ = some (.slice D e.msg.length dc) := fun W hb => by
      have h1 := ALRow.cells (Whole.below HW.out (HBW.out.trans (hb.mono HBW.out.size)) (by omega))
      have h2 := TGRow.range (Whole.below HK.out (HBW.out.trans (hb.mono HBW.out.size)) (by omega))
      exact ⟨h1.2.2.1, h2, fun i v hv => (hb.cell (p := ⟨g, o + j * 65 + i, none⟩) hg).trans (hkey i v hv), (hb.cell (p := ⟨g, o + j * 65 + 32, none⟩) hg).trans hsl⟩
    have HCC := Lib.hid hcc
    have hkl : (e.key.map byt).length = 32 := by rw [List.length_map, hk32]
    have hKl : (K.map byt).length = 32 := by rw [List.length_map, hK]
    have j0 : (0 : Int) ≤ (j : Int) := by omega
    have jn : (j : Int) < (n : Int) := by omega
    have hqq := fun W => run_eql_tag hk32 hK W
    clear he hkey hsl htag hby hcc hq ht32 hm5
    go_upto_region 4 with fail
    by_cases hke : e.key = K
    · skip
      rw [decide_eq_true hke] at hqq
      have HE := Lib.hid hke
      clear hke
      refine wp_region_held_drew (S := fun W => W.cell? ⟨w.heap.size, 34, none⟩ = some (.slice (some ⟨g, o, none⟩) n cm) ∧ W.rangeAt (w.heap.size + 1) 0 (K.map byt) ∧ W.rangeAt g (o + j * 65) (e.key.map byt) ∧ W.cell? ⟨g, o + j * 65 + 32, none⟩ = some (.slice D e.msg.length dc)) (by kernel_rfl) (HCC.out _ (Below.drew (Below.refl _ _))) (fun hHeld => ?_)
      apply wpT (i := 0) rfl (by kernel_rfl)
      case hQ => exact fun _ _ _ h => h
      case hS => exact hHeld
      case hy => (refine Or.inl ⟨by rfl, ?_⟩; intro w hSw; (try go_split_ands); go_simp; (try with_reducible rfl))
      (try simp only [sq])
      apply wpT (i := 1) rfl (by kernel_rfl)
      case hQ => exact fun _ _ _ h => h
      case hS => exact hHeld
      case hy => (refine Or.inl ⟨by rfl, ?_⟩; intro w hSw; (try go_split_ands); go_simp; (try with_reducible rfl))
      (try simp only [sq])
      apply wpT (i := 2) rfl (by kernel_rfl)
      case hQ => exact fun _ _ _ h => h
      case hS => exact hHeld
      case hy => (refine Or.inl ⟨by rfl, ?_⟩; intro w hSw; (try go_split_ands); go_simp; (try with_reducible rfl))
      (try simp only [sq])
      apply wpT (i := 3) rfl (by kernel_rfl)
      case hQ => exact fun _ _ _ h => h
      case hS => exact hHeld
      case hy => (refine Or.inl ⟨by rfl, ?_⟩; intro w hSw; (try go_split_ands); go_simp; (try with_reducible rfl))
      (try simp only [sq])
      apply wpT (i := 4) rfl (by kernel_rfl)
      case hQ => exact fun _ _ _ h => h
      case hS => exact hHeld
      case hy => (refine Or.inl ⟨by rfl, ?_⟩; intro w hSw; (try go_split_ands); go_simp; (try with_reducible rfl))
      (try simp only [sq])
      apply wpT (i := 5) rfl (by kernel_rfl)
      case hQ => exact fun _ _ _ h => h
      case hS => exact hHeld
      case hy => exact yieldsIf_load_mid (by rfl) 28 _ rfl g ((o + j * 65)) rfl (e.key.map byt) _ (fun w hS => hS.2.2.1) Tryd.underlying28 rfl (by rw [tagSize, hkl])
      (try simp only [sq])
      apply wpT (i := 6) rfl (by kernel_rfl)
      case hQ => exact fun _ _ _ h => h
      case hS => exact hHeld
      case hy => exact yieldsIf_load_mid (by rfl) 28 _ rfl (w.heap.size + 1) (0) rfl (K.map byt) _ (fun w hS => hS.2.1) Tryd.underlying28 rfl (by rw [tagSize, hKl])
      (try simp only [sq])
      apply wpT (i := 7) rfl (by kernel_rfl)
      case hQ => exact fun _ _ _ h => h
      case hS => exact hHeld
      case hy => (refine Or.inl ⟨by rfl, ?_⟩; intro w hSw; (try go_split_ands); go_simp; (try with_reducible rfl))
      (try simp only [sq])
      apply wpT (i := 8) rfl (by kernel_rfl)
      case hQ => exact fun _ _ _ h => h
      case hS => exact hHeld
      case hy => (refine Or.inl ⟨by rfl, ?_⟩; intro w hSw; (try go_split_ands); go_simp; (try with_reducible rfl))
      (try simp only [sq])
      apply wpT (i := 9) rfl (by kernel_rfl)
      case hQ => exact fun _ _ _ h => h
      case hS => exact hHeld
      case hy => (refine Or.inl ⟨by rfl, ?_⟩; intro w hSw; (try go_split_ands); go_simp; (try with_reducible rfl))
      (try simp only [sq])
      apply wpT (i := 10) rfl (by kernel_rfl)
      case hQ => exact fun _ _ _ h => h
      case hS => exact hHeld
      case hy => (refine Or.inl ⟨by rfl, ?_⟩; intro w hSw; (try go_split_ands); go_simp; (try with_reducible rfl))
      (try simp only [sq])
      apply wpT (i := 11) rfl (by kernel_rfl)
      case hQ => exact fun _ _ _ h => h
      case hS => exact hHeld
      case hy => (refine Or.inl ⟨by rfl, ?_⟩; intro w hSw; (try go_split_ands); go_simp; (try with_reducible rfl))
      (try simp only [sq])
      apply wpT (i := 12) rfl (by kernel_rfl)
      case hQ => exact fun _ _ _ h => h
      case hS => exact hHeld
      case hy => (refine Or.inl ⟨by rfl, ?_⟩; intro w hSw; (try go_split_ands); go_simp; (try with_reducible rfl))
      (try simp only [sq])
      apply wpT (i := 13) rfl (by kernel_rfl)
      case hQ => exact fun _ _ _ h => h
      case hS => exact hHeld
      case hy => (refine Or.inl ⟨by rfl, ?_⟩; intro w hSw; (try go_split_ands); go_simp; (try with_reducible rfl))
      (try simp only [sq])
      apply wpT (i := 14) rfl (by kernel_rfl)
      case hQ => exact fun _ _ _ h => h
      case hS => exact hHeld
      case hy => (refine Or.inl ⟨by rfl, ?_⟩; intro w hSw; (try go_split_ands); go_simp; (try with_reducible rfl))
      (try simp only [sq])
      apply wpT (i := 15) rfl (by kernel_rfl)
      case hQ => exact fun _ _ _ h => h
      case hS => exact hHeld
      case hy => (refine Or.inl ⟨by rfl, ?_⟩; intro w hSw; (try go_split_ands); go_simp; (try with_reducible rfl))
      (try simp only [sq])
      refine wpAnyH_ready (rs := [16]) (by kernel_rfl) (by simp) ?_
      refine AllReadyH.cons rfl (fun K hK => ?_) AllReadyH.nil
      (try simp only [sq])
      go_simp
      go_at_call 31
      refine (same_ _ _ e.msg m _ _ wr.drew HBY.out.drew (HMM.out.below HBW.out.drew (Nat.le_refl _)) (by have := HT.out.2; omega) (by omega)).mono ?_
      rintro e1 w1 ⟨rfl, hw1⟩
      have hb1 : Below wr.heap.size wr w1 := ((Below.refl _ _).drew).trans hw1
      refine hK.out _ _ (HCC.out _ hb1) (fun hHeld => ?_)
      clear hK K
      (try simp only [sq])
      apply wpT (i := 17) rfl (by kernel_rfl)
      case hQ => exact fun _ _ _ h => h
      case hS => exact hHeld
      case hy => (refine Or.inl ⟨by rfl, ?_⟩; intro w hSw; (try go_split_ands); go_simp; (try with_reducible rfl))
      (try simp only [sq])
      refine wpAnyH_done (by kernel_rfl) ?_ _
      have HBW1 : Hid (Below p.heap.size p w1) := Lib.hid (HBW.out.trans (hb1.mono HBW.out.size))
      have h34 := (HCC.out w1 hb1).1
      have HTG : Hid (w1.rangeAt g (o + j * 65 + 33) (e.tag.map byt)) := Lib.hid (fun i v hv => (hb1.cell (p := ⟨g, o + j * 65 + 33 + i, none⟩) hg).trans (HTAG.out i v hv))
      clear hw1 hb1
      by_cases hem : e.msg = m
      · have HX : Hid (R = some e.tag) := Lib.hid (by have := HS.out; rw [HF.out, if_pos ⟨HE.out, hem⟩] at this; exact this)
        rw [decide_eq_true hem]
        clear hem
        have HZ2 := Lib.hid (Whole.below HZ.out HBW1.out (by omega))
        have HB2 : Hid (Below w.heap.size w w1) := Lib.hid (HB.out.trans (HBW1.out.mono (by omega)))
        have htl : (e.tag.map byt).length = 32 := by rw [List.length_map, HT.out.1]
        go_wp2_with (first
          | (with_reducible refine wpList_load_mid rfl 28 _ rfl g (o + j * 65 + 33) rfl _ _ HTG.out Tryd.underlying28 rfl (by rw [tagSize, htl]) ?_)
          | (with_reducible refine wpList_store_tag rfl _ _ rfl (g := w.heap.size + 1 + 1) rfl rfl HZ2.out (tag_size (by simp)) (tag_size HT.out.1) (tag_one _) ?_))
        have h3 := Whole.setRow HZ2.out (e.tag.map byt).toArray
        rw [HX.out]
        refine bodyPost_ret (results_tag2 (g := w.heap.size + 1 + 1) Tryd.results43 _ rfl _ rfl (tag_size HT.out.1) h3) rfl ⟨rfl, below_setRow HB2.out (by omega) _⟩
      · rw [decide_eq_false hem]
        have HX : Hid (fnd (a.macs.drop (j + 1)) K m = R) := Lib.hid (by have := HS.out; rw [HF.out, if_neg (fun q => hem q.2)] at this; exact this.symm)
        go_wp2_with fail
        go_roundw
        case rel => exact ⟨j + 1, by go_num, by omega, HX.out, HBW1.out⟩
        case measure => simp [intOf]; omega
    · skip
      rw [decide_eq_false hke] at hqq
      refine wp_region_held_drew (S := fun W => W.cell? ⟨w.heap.size, 34, none⟩ = some (.slice (some ⟨g, o, none⟩) n cm) ∧ W.rangeAt (w.heap.size + 1) 0 (K.map byt) ∧ W.rangeAt g (o + j * 65) (e.key.map byt) ∧ W.cell? ⟨g, o + j * 65 + 32, none⟩ = some (.slice D e.msg.length dc)) (by kernel_rfl) (HCC.out _ (Below.drew (Below.refl _ _))) (fun hHeld => ?_)
      apply wpT (i := 0) rfl (by kernel_rfl)
      case hQ => exact fun _ _ _ h => h
      case hS => exact hHeld
      case hy => (refine Or.inl ⟨by rfl, ?_⟩; intro w hSw; (try go_split_ands); go_simp; (try with_reducible rfl))
      (try simp only [sq])
      apply wpT (i := 1) rfl (by kernel_rfl)
      case hQ => exact fun _ _ _ h => h
      case hS => exact hHeld
      case hy => (refine Or.inl ⟨by rfl, ?_⟩; intro w hSw; (try go_split_ands); go_simp; (try with_reducible rfl))
      (try simp only [sq])
      apply wpT (i := 2) rfl (by kernel_rfl)
      case hQ => exact fun _ _ _ h => h
      case hS => exact hHeld
      case hy => (refine Or.inl ⟨by rfl, ?_⟩; intro w hSw; (try go_split_ands); go_simp; (try with_reducible rfl))
      (try simp only [sq])
      apply wpT (i := 3) rfl (by kernel_rfl)
      case hQ => exact fun _ _ _ h => h
      case hS => exact hHeld
      case hy => (refine Or.inl ⟨by rfl, ?_⟩; intro w hSw; (try go_split_ands); go_simp; (try with_reducible rfl))
      (try simp only [sq])
      apply wpT (i := 4) rfl (by kernel_rfl)
      case hQ => exact fun _ _ _ h => h
      case hS => exact hHeld
      case hy => (refine Or.inl ⟨by rfl, ?_⟩; intro w hSw; (try go_split_ands); go_simp; (try with_reducible rfl))
      (try simp only [sq])
      apply wpT (i := 5) rfl (by kernel_rfl)
      case hQ => exact fun _ _ _ h => h
      case hS => exact hHeld
      case hy => exact yieldsIf_load_mid (by rfl) 28 _ rfl g ((o + j * 65)) rfl (e.key.map byt) _ (fun w hS => hS.2.2.1) Tryd.underlying28 rfl (by rw [tagSize, hkl])
      (try simp only [sq])
      apply wpT (i := 6) rfl (by kernel_rfl)
      case hQ => exact fun _ _ _ h => h
      case hS => exact hHeld
      case hy => exact yieldsIf_load_mid (by rfl) 28 _ rfl (w.heap.size + 1) (0) rfl (K.map byt) _ (fun w hS => hS.2.1) Tryd.underlying28 rfl (by rw [tagSize, hKl])
      (try simp only [sq])
      apply wpT (i := 7) rfl (by kernel_rfl)
      case hQ => exact fun _ _ _ h => h
      case hS => exact hHeld
      case hy => (refine Or.inl ⟨by rfl, ?_⟩; intro w hSw; (try go_split_ands); go_simp; (try with_reducible rfl))
      (try simp only [sq])
      apply wpT (i := 8) rfl (by kernel_rfl)
      case hQ => exact fun _ _ _ h => h
      case hS => exact hHeld
      case hy => (refine Or.inl ⟨by rfl, ?_⟩; intro w hSw; (try go_split_ands); go_simp; (try with_reducible rfl))
      (try simp only [sq])
      apply wpT (i := 9) rfl (by kernel_rfl)
      case hQ => exact fun _ _ _ h => h
      case hS => exact hHeld
      case hy => exact Or.inr ⟨by rfl, rfl⟩
      (try simp only [sq])
      apply wpT (i := 10) rfl (by kernel_rfl)
      case hQ => exact fun _ _ _ h => h
      case hS => exact hHeld
      case hy => exact Or.inr ⟨by rfl, rfl⟩
      (try simp only [sq])
      apply wpT (i := 11) rfl (by kernel_rfl)
      case hQ => exact fun _ _ _ h => h
      case hS => exact hHeld
      case hy => exact Or.inr ⟨by rfl, rfl⟩
      (try simp only [sq])
      apply wpT (i := 12) rfl (by kernel_rfl)
      case hQ => exact fun _ _ _ h => h
      case hS => exact hHeld
      case hy => exact Or.inr ⟨by rfl, rfl⟩
      (try simp only [sq])
      apply wpT (i := 13) rfl (by kernel_rfl)
      case hQ => exact fun _ _ _ h => h
      case hS => exact hHeld
      case hy => exact Or.inr ⟨by rfl, rfl⟩
      (try simp only [sq])
      apply wpT (i := 14) rfl (by kernel_rfl)
      case hQ => exact fun _ _ _ h => h
      case hS => exact hHeld
      case hy => exact Or.inr ⟨by rfl, rfl⟩
      (try simp only [sq])
      apply wpT (i := 15) rfl (by kernel_rfl)
      case hQ => exact fun _ _ _ h => h
      case hS => exact hHeld
      case hy => exact Or.inr ⟨by rfl, rfl⟩
      (try simp only [sq])
      apply wpT (i := 16) rfl (by kernel_rfl)
      case hQ => exact fun _ _ _ h => h
      case hS => exact hHeld
      case hy => exact Or.inr ⟨by rfl, rfl⟩
      (try simp only [sq])
      apply wpT (i := 17) rfl (by kernel_rfl)
      case hQ => exact fun _ _ _ h => h
      case hS => exact hHeld
      case hy => (refine Or.inl ⟨by rfl, ?_⟩; intro w hSw; (try go_split_ands); go_simp; (try with_reducible rfl))
      (try simp only [sq])
      refine wpAnyH_done (by kernel_rfl) ?_ _
      have HX : Hid (fnd (a.macs.drop (j + 1)) K m = R) := Lib.hid (by have := HS.out; rw [HF.out, if_neg (fun q => hke q.1)] at this; exact this.symm)
      go_wp2_with fail
      go_roundw
      case rel => exact ⟨j + 1, by go_num, by omega, HX.out, (HBW.out.drew)⟩
      case measure => simp [intOf]; omega
end Go.Proofs.YteekdhcffiaaaaaDoor
namespace Go.Proofs.YteekdhcffiaaaaaDoor
open Go Go.RowKit Sh Leaf
theorem wpList_load_wanted_at {ops : Array Oper} {rest : List Oper} {o : Oper} {a : Act} {w : World} {Q : Exit → Act → World → Prop} (hgd : Region.wanted o (yielded ops a.tmps) = true) (ty : TypeId) (x : Operand) (ho : o.op = .load ty x)
    (g k : Nat) (hx : a.eval x = .pointer (some ⟨g, k, none⟩)) (cs : List Value) (d : TypeDesc) (hc : w.rangeAt g k cs)
    (hu : Tryd.prog.underlying ty = some d) (hd : d.isRow = true) (hi : (Tryd.prog.info? ty).map (·.size) = some cs.length)
    (h : wpList Tryd.prog ops Q rest (a.put o.dst (.agg cs.toArray)) w) : wpList Tryd.prog ops Q (o :: rest) a w := by
  show if Region.wanted o (yielded ops a.tmps) then _ else _
  rw [if_pos hgd]
  left
  exact wp_load_mid ty x ho g k hx cs d hc hu hd hi h
@[irreducible] def zbr : Array Value := ((List.replicate 32 (0 : B8)).map byt ++ [Value.int .i64 0, Value.slice none 0 0, Value.slice none 0 0]).toArray
theorem zbr_lit : (#[.int .u8 0, .int .u8 0, .int .u8 0, .int .u8 0, .int .u8 0, .int .u8 0, .int .u8 0, .int .u8 0, .int .u8 0, .int .u8 0, .int .u8 0, .int .u8 0, .int .u8 0, .int .u8 0, .int .u8 0, .int .u8 0, .int .u8 0, .int .u8 0, .int .u8 0, .int .u8 0, .int .u8 0, .int .u8 0, .int .u8 0, .int .u8 0, .int .u8 0, .int .u8 0, .int .u8 0, .int .u8 0, .int .u8 0, .int .u8 0, .int .u8 0, .int .u8 0, .int .i64 0, .slice none 0 0, .slice none 0 0] : Array Value) = zbr := by
  unfold zbr; simp only [List.map_replicate, byt, bv_zero]; rfl
theorem zbr_size : zbr.size = 35 := by unfold zbr; simp
theorem BXRow.cells {w : World} {g : Nat} {x : BxM} (h : Whole w g 72 (bcl x).toArray) : w.cell? ⟨g, 32, none⟩ = some (.int .i64 x.e.nonce) ∧ w.cell? ⟨g, 33, none⟩ = some (.slice x.A x.e.plain.length x.c) ∧ w.cell? ⟨g, 34, none⟩ = some (.slice x.A2 x.e.box.length x.c2) := by
  have e : ∀ j, (bcl x).toArray[32 + j]? = ([.int .i64 x.e.nonce, .slice x.A x.e.plain.length x.c, .slice x.A2 x.e.box.length x.c2] : List Value)[j]? := fun j => by
    unfold bcl
    rw [List.getElem?_toArray, List.getElem?_append_right (by rw [p32_cells]; omega), p32_cells, show 32 + j - 32 = j by omega]
  exact ⟨(h.cell 32).trans (e 0), (h.cell 33).trans (e 1), (h.cell 34).trans (e 2)⟩
theorem BXRow.key {w : World} {g : Nat} {x : BxM} (h : Whole w g 72 (bcl x).toArray) (hk : x.e.key.length = 32) : w.rangeAt g 0 (x.e.key.map byt) := fun j v hj => by
  rw [Nat.zero_add, Whole.cell h]
  unfold bcl
  have hl := (List.getElem?_eq_some_iff.1 hj).1
  rw [List.length_map, hk] at hl
  rw [List.getElem?_toArray, List.getElem?_append_left (by rw [p32_cells]; exact hl), p32_eq hk]
  exact hj
theorem boxSize : (Tryd.prog.info? 72).map (·.size) = some 35 := by kernel_rfl
end Go.Proofs.YteekdhcffiaaaaaDoor
namespace Go.Proofs.YteekdhcffiaaaaaDoor
open Go Go.RowKit Sh Leaf

theorem conv_mark {W : World} {g n c : Nat} {C : Array Value} (h : Whole W g 5 C) : (convert 39 39 (.slice (some ⟨g, 0, none⟩) n c)).run Tryd.prog W = .ok (.slice (some ⟨g, 0, none⟩) n c) (W.freeze ⟨g, C.size, none⟩ 1) := by
  have hsh : W.shape? g = some (5, C.size) := by unfold World.shape?; rw [h.eq]
  simp [convert, run_underlying Tryd.underlying39, run_underlying Tryd.underlying5, markStringish, hsh]
theorem own_mark {W : World} {g : Nat} {xs : List B8} {n : Nat} {C : Array Value} (h : Whole W g 5 C) (hC : C = (xs.map byt).toArray) (hn : xs.length = n) (hl : n ≤ 1000) {base : Nat} (hb : base ≤ g) : OwnM (W.freeze ⟨g, C.size, none⟩ 1) base (.slice (some ⟨g, 0, none⟩) n n) xs := by
  subst hn hC
  have hg : (W.freeze ⟨g, (xs.map byt).toArray.size, none⟩ 1).heap[g]? = some (.cells (xs.map byt).toArray 5 ((xs.map byt).toArray.size, (xs.map byt).toArray.size + 1)) := by
    unfold World.freeze
    rw [if_neg (by decide)]
    show (W.heap.modify g _)[g]? = _
    rw [Array.getElem?_modify, if_pos rfl, h.eq]
    rfl
  have hlt : g < (W.freeze ⟨g, (xs.map byt).toArray.size, none⟩ 1).heap.size := by
    rcases Nat.lt_or_ge g (W.freeze ⟨g, (xs.map byt).toArray.size, none⟩ 1).heap.size with q | q
    · exact q
    · rw [Array.getElem?_eq_none q] at hg; cases hg
  refine ⟨g, xs.length, rfl, hb, hlt, Nat.le_refl _, by unfold maxLen; omega, fun j x hj => ?_, fun j h1 h2 => by omega⟩
  unfold World.cell?
  simp only
  rw [hg]
  simp [hj]
theorem freeze_other (W : World) (g k n : Nat) (b : Nat) (h : b ≠ g) : (W.freeze ⟨g, k, none⟩ n).heap[b]? = W.heap[b]? := by
  unfold World.freeze
  split
  · rfl
  · show (W.heap.modify g _)[b]? = _
    rw [Array.getElem?_modify, if_neg (fun e => h e.symm)]
theorem freeze_below {B : Nat} {p W : World} {g k n : Nat} (h : Below B p W) (hg : B ≤ g) : Below B p (W.freeze ⟨g, k, none⟩ n) := by
  refine ⟨?_, ?_, ?_, ?_, fun b hb => (freeze_other W g k n b (by omega)).trans (h.block b hb)⟩
  · rw [show (W.freeze ⟨g, k, none⟩ n).os = W.os by unfold World.freeze; split <;> rfl]; exact h.os
  · rw [show (W.freeze ⟨g, k, none⟩ n).tape = W.tape by unfold World.freeze; split <;> rfl]; exact h.tape
  · rw [show (W.freeze ⟨g, k, none⟩ n).output = W.output by unfold World.freeze; split <;> rfl]; exact h.output
  · have : (W.freeze ⟨g, k, none⟩ n).heap.size = W.heap.size := by unfold World.freeze; split <;> simp
    rw [this]; exact h.size
theorem u64_wrap (z : Int) : IntKind.u64.wrap z = ((u64n z : Nat) : Int) := by rw [IntKind.wrap_u64]; unfold u64n; omega
theorem step_copy_bytes {w : World} {ops : Array Oper} {o : Oper} {a : Act} {K : Act → World → Prop} {R : Exit → Act → World → Prop} {E : Prop} (hgd : o.guard = none) (d s : Operand)
    (ho : o.op = .call { callee := .builtin .copy, args := #[d, s], argTypes := #[39, 39] })
    (g dLen dCap : Nat) (hd : a.eval d = .slice (some ⟨g, 0, none⟩) dLen dCap) (v2 : Value) (hs : a.eval s = v2) (Q : Nat → Prop) (ys : List B8) (hr : Bytes w Q v2 ys)
    (t : TypeId) (cur : List Value) (hg : Whole w g t cur.toArray) (hfit : ys.length ≤ dLen) (hsz : dLen ≤ cur.length)
    (h : ∀ w', Hid (Whole w' g t (ys.map byt ++ cur.drop ys.length).toArray) → Below g w w' → K (a.put o.dst (goInt ys.length)) w') :
    if Region.wanted o (yielded ops a.tmps) = true then Oper.wp Tryd.prog o a w K R else E := by
  obtain ⟨A, c, rfl, hc1, hc2, hc3, hc4⟩ := hr
  have hcsl : (ys.map byt).length = ys.length := by simp
  refine step_copy_splice hgd d s 39 39 ho 5 Tryd.underlying39 (by kernel_rfl) (some ⟨g, 0, none⟩) A dLen dCap ys.length c hd hs g 0 cur t hg (ys.map byt) (by rw [hcsl]; exact (Nat.min_eq_left hfit).symm)
    ?_ (by rw [hcsl]; omega) (byt_one ys) g w (Below.refl _ _) (Nat.le_refl _) ?_
  · intro hp
    rw [hcsl] at hp
    obtain ⟨g', o', rfl, _, hcell⟩ := hc4 hp
    refine ⟨rfl, _, rfl, fun j v hj => ?_⟩
    rw [Addr.add_mid]
    rw [List.getElem?_map] at hj
    cases hx : ys[j]? with
    | none => rw [hx] at hj; cases hj
    | some x => rw [hx] at hj; injection hj with hj; subst hj; exact hcell j x hx
  · intro w' hg' hb'
    rw [hcsl]
    refine h w' (Lib.hid ?_) hb'
    have := hg'.out
    have e : splice cur 0 (ys.map byt) = ys.map byt ++ cur.drop ys.length := by simp [splice]
    rw [e] at this
    exact this
theorem one_at (w : World) (x : B8) (g : Nat) (hg : g = w.heap.size) : Bytes (w.alloc (.cells #[.int .u8 (bv x)] 5)) (fun b => b = g) (.slice (some ⟨g, 0, none⟩) 1 1) [x] := by
  subst hg
  refine ⟨_, 1, rfl, by simp, by unfold maxLen; omega, fun h => (by cases h), fun _ => ⟨_, 0, rfl, rfl, fun j y hj => ?_⟩⟩
  rw [World.cell?_alloc_mark]
  match j, hj with
  | 0, hj => simp at hj; subst hj; rfl
  | j + 1, hj => simp at hj
set_option linter.unusedSimpArgs false in
set_option maxRecDepth 100000 in
set_option maxHeartbeats 4000000 in
theorem rsymbol (k : B8) (z : Int) (w : World) : Calls Tryd.prog 32 #[.int .u8 (bv k), .int .i64 z] w fun e w' => e = .returned (tagv (sym k z)) ∧ Below w.heap.size w w' := by
  have hwz := u64_wrap z
  go_enter Tryd.func32, Tryd.ntmps32
  go_upto_region 2 with fail
  rw [ztr_lit]
  obtain ⟨p, hp⟩ : ∃ p, p = (w.alloc (.cells ztr 28)).alloc (.cells ztr 28) := ⟨_, rfl⟩
  have k0 : TGRow p w.heap.size ztag := by rw [hp]; exact ztr_row ((Whole.here _ _ _).alloc _)
  have k1 : TGRow p (w.heap.size + 1) ztag := by rw [hp]; exact ztr_row (Whole.at_ _ _ _ _ (by simp))
  have hb0 : Below w.heap.size w p := by rw [hp]; exact ((Below.refl _ _).alloc (Nat.le_refl _) _).alloc (by simp) _
  have hps : w.heap.size + 1 < p.heap.size := k1.lt
  rw [← hp]
  clear hp
  have hst := fun g W => run_sliceAt_whole (P := Tryd.prog) (t := 28) (e := 5) (n := 32) Tryd.underlying28 (by kernel_rfl) g W
  have hbp : Below p.heap.size p p.drew := (Below.refl _ _).drew
  have HB0 := Lib.hid hb0
  have HK1 := Lib.hid k1
  have HK0 := Lib.hid k0
  clear hb0 k0 k1
  refine wp_region_held_drew (S := fun _ : World => True) (by kernel_rfl) (trivial) (fun hHeld => ?_)
  generalize p.drew = W0 at hbp ⊢
  apply wpT (i := 0) rfl (by kernel_rfl)
  case hQ => exact fun _ _ _ h => h
  case hS => exact hHeld
  case hy => (refine Or.inl ⟨by rfl, ?_⟩; intro w hSw; (try go_split_ands); go_simp; (try with_reducible rfl))
  (try simp only [sq])
  apply wpT (i := 3) rfl (by kernel_rfl)
  case hQ => exact fun _ _ _ h => h
  case hS => exact hHeld
  case hy => (refine Or.inl ⟨by rfl, ?_⟩; intro w hSw; (try go_split_ands); go_simp; (try with_reducible rfl))
  (try simp only [sq])
  apply wpT (i := 6) rfl (by kernel_rfl)
  case hQ => exact fun _ _ _ h => h
  case hS => exact hHeld
  case hy => (refine Or.inl ⟨by rfl, ?_⟩; intro w hSw; (try go_split_ands); go_simp; (try with_reducible rfl))
  (try simp only [sq])
  apply wpT (i := 7) rfl (by kernel_rfl)
  case hQ => exact fun _ _ _ h => h
  case hS => exact hHeld
  case hy => (refine Or.inl ⟨by rfl, ?_⟩; intro w hSw; (try go_split_ands); go_simp; (try with_reducible rfl))
  (try simp only [sq])
  refine wpAnyH_ready (rs := [1, 4]) (by kernel_rfl) (by simp) ?_
  refine AllReadyH.cons rfl (fun K hK => ?_) (AllReadyH.cons rfl (fun K hK => ?_) AllReadyH.nil)
  · (try simp only [sq])
    obtain ⟨g6, hg6⟩ : ∃ g, g = W0.heap.size := ⟨_, rfl⟩
    obtain ⟨W1, hW1⟩ : ∃ x, x = W0.alloc (.cells #[.int .u8 115, .int .u8 121, .int .u8 109, .int .u8 98, .int .u8 111, .int .u8 108] 5) := ⟨_, rfl⟩
    have b1 : Below p.heap.size p W1 := by rw [hW1]; exact hbp.alloc hbp.size _
    have six1 : Whole W1 g6 5 #[.int .u8 115, .int .u8 121, .int .u8 109, .int .u8 98, .int .u8 111, .int .u8 108] := by rw [hW1, hg6]; exact Whole.here _ _ _
    have p6 : p.heap.size ≤ g6 := by rw [hg6]; exact hbp.size
    go_simp
    rw [← hg6]
    rw [← hW1]
    clear hW1 hg6
    refine hK.out _ _ (trivial) (fun hHeld => ?_)
    clear hK K
    (try simp only [sq])
    refine wpAnyH_ready (rs := [2, 4]) (by kernel_rfl) (by simp) ?_
    refine AllReadyH.cons rfl (fun K hK => ?_) (AllReadyH.cons rfl (fun K hK => ?_) AllReadyH.nil)
    · (try simp only [sq])
      have hcv := conv_mark (n := 6) (c := 6) six1
      obtain ⟨W2, hW2⟩ : ∃ x, x = W1.freeze ⟨g6, (#[.int .u8 115, .int .u8 121, .int .u8 109, .int .u8 98, .int .u8 111, .int .u8 108] : Array Value).size, none⟩ 1 := ⟨_, rfl⟩
      rw [← hW2] at hcv
      have b2 : Below p.heap.size p W2 := by rw [hW2]; exact freeze_below b1 p6
      have own2 : OwnM W2 p.heap.size (.slice (some ⟨g6, 0, none⟩) 6 6) smb := by rw [hW2]; exact own_mark (n := 6) six1 smb_cells rfl (by omega) p6
      clear hW2
      go_simp
      clear hcv
      refine hK.out _ _ (trivial) (fun hHeld => ?_)
      clear hK K
      (try simp only [sq])
      refine wpAnyH_ready (rs := [4]) (by kernel_rfl) (by simp) ?_
      refine AllReadyH.cons rfl (fun K hK => ?_) AllReadyH.nil
      (try simp only [sq])
      obtain ⟨g1, hg1⟩ : ∃ g, g = W2.heap.size := ⟨_, rfl⟩
      obtain ⟨W3, hW3⟩ : ∃ x, x = W2.alloc (.cells #[.int .u8 (bv k)] 5) := ⟨_, rfl⟩
      have b3 : Below p.heap.size p W3 := by rw [hW3]; exact b2.alloc b2.size _
      have one3 : Bytes W3 (fun b => b = g1) (.slice (some ⟨g1, 0, none⟩) 1 1) [k] := by rw [hW3]; exact one_at _ _ _ hg1
      have one3_lt : g1 < W3.heap.size := by rw [hW3, hg1]; simp
      have own3 : OwnM W3 p.heap.size (.slice (some ⟨g6, 0, none⟩) 6 6) smb := by rw [hW3]; exact own2.alloc _
      go_simp
      rw [← hg1]
      rw [← hW3]
      clear hW3 hg1
      refine hK.out _ _ (trivial) (fun hHeld => ?_)
      clear hK K
      (try simp only [sq])
      refine wpAnyH_ready (rs := [5]) (by kernel_rfl) (by simp) ?_
      refine AllReadyH.cons rfl (fun K hK => ?_) AllReadyH.nil
      refine step_append_mark (by rfl) _ _ (by rfl) p.heap.size _ smb (by rfl) own3 _ _ [k] (by rfl) one3 (by simp) (by simp) b3.size ?_
      intro v4 w4 own4 hb4
      have b4 := b3.trans hb4
      refine hK.out _ _ (trivial) (fun hHeld => ?_)
      clear hK K
      (try simp only [sq])
      refine wpAnyH_ready (rs := [8]) (by kernel_rfl) (by simp) ?_
      refine AllReadyH.cons rfl (fun K hK => ?_) AllReadyH.nil
      (try simp only [sq])
      go_simp
      go_at_call 33
      refine (eight (u64n z) w4).mono ?_
      rintro e w5 ⟨v5, rfl, hv5, hb5⟩
      have b5 := b4.trans (hb5.mono b4.size)
      have own5 := own4.below hb5 (Nat.le_refl _)
      have by5 := Bytes.of_own hv5
      refine hK.out _ _ (trivial) (fun hHeld => ?_)
      clear hK K
      (try simp only [sq])
      refine wpAnyH_ready (rs := [9]) (by kernel_rfl) (by simp) ?_
      refine AllReadyH.cons rfl (fun K hK => ?_) AllReadyH.nil
      refine step_append_mark (by rfl) _ _ (by rfl) p.heap.size _ (smb ++ [k]) (by rfl) own5 _ _ (be8 (u64n z)) (by rfl) by5 (by rw [be8_length]; omega) (by rw [be8_length]; simp) b5.size ?_
      intro v6 w6 own6 hb6
      have b6 := b5.trans hb6
      have by6 := own6.bytes
      obtain ⟨Y, hY⟩ : ∃ Y, Y = smb ++ [k] ++ be8 (u64n z) := ⟨_, rfl⟩
      rw [← hY] at by6
      have hYl : Y.length = 15 := by rw [hY]; simp [be8_length]
      have hsym : Y ++ List.replicate 17 0#8 = sym k z := by rw [hY]; rfl
      have HSY := Lib.hid hsym
      have q0 : Whole w6 (w.heap.size + 1) 28 (ztag.map byt).toArray := Whole.below HK1.out b6 (by omega)
      clear own5 own6 hb6 hY hsym
      refine hK.out _ _ (trivial) (fun hHeld => ?_)
      clear hK K
      (try simp only [sq])
      refine wpAnyH_ready (rs := [10]) (by kernel_rfl) (by simp) ?_
      refine AllReadyH.cons rfl (fun K hK => ?_) AllReadyH.nil
      refine step_copy_bytes rfl _ _ rfl (w.heap.size + 1) 32 32 rfl _ rfl _ Y by6 _ (ztag.map byt) q0 (by omega) (by simp) ?_
      intro w' hw' hbw
      refine hK.out _ _ (trivial) (fun hHeld => ?_)
      clear hK K
      (try simp only [sq])
      refine wpAnyH_done (by kernel_rfl) ?_ _
      have hrow : TGRow w' (w.heap.size + 1) (sym k z) := by
        have e : List.map byt Y ++ List.map byt (List.replicate 17 0#8) = (sym k z).map byt := by rw [← List.map_append, HSY.out]
        have h := hw'.out
        rw [hYl] at h
        show Whole w' (w.heap.size + 1) _ _
        rw [← e]
        exact h
      have hk0 : TGRow w' w.heap.size ztag := Whole.below (Whole.below HK0.out b6 (by omega)) hbw (by omega)
      have hbf : Below w.heap.size w w' := HB0.out.trans ((b6.mono (by omega)).trans (hbw.mono (by omega)))
      have HR := Lib.hid hrow
      have HK := Lib.hid hk0
      have HF := Lib.hid hbf
      have hsl := sym_length k z
      have hz1 : ((sym k z).map byt).toArray.size = 32 := by simp [hsl]
      clear hw' hbw hrow hk0 hbf hst HK0 HK1 HB0 HSY hYl hsl by6 q0 b6 b5 b4
      go_wp2_with (first
        | (with_reducible refine wpList_load_row rfl 28 _ rfl (w.heap.size + 1) rfl _ _ _ _ HR.out.eq Tryd.underlying28 rfl (by rw [tagSize, hz1]) ?_)
        | (with_reducible refine wpList_store_row rfl 28 _ _ rfl w.heap.size _ rfl rfl _ _ HK.out.eq (by rw [tagSize, hz1]) (by rw [hz1]; simp) (all_oneCell_toArray (byt_one _)) ?_))
      have h3 := Whole.setRow HK.out ((sym k z).map byt).toArray
      refine bodyPost_ret (results_cell_row Tryd.results32 _ _ w.heap.size _ _ _ _ rfl h3 Tryd.underlying28 rfl (by rw [tagSize, hz1])) rfl ⟨rfl, below_setRow HF.out (Nat.le_refl _) _⟩
    · (try simp only [sq])
      obtain ⟨g1, hg1⟩ : ∃ g, g = W1.heap.size := ⟨_, rfl⟩
      obtain ⟨W2, hW2⟩ : ∃ x, x = W1.alloc (.cells #[.int .u8 (bv k)] 5) := ⟨_, rfl⟩
      have b2 : Below p.heap.size p W2 := by rw [hW2]; exact b1.alloc b1.size _
      have one2 : Bytes W2 (fun b => b = g1) (.slice (some ⟨g1, 0, none⟩) 1 1) [k] := by rw [hW2]; exact one_at _ _ _ hg1
      have one2_lt : g1 < W2.heap.size := by rw [hW2, hg1]; simp
      have six2 : Whole W2 g6 5 #[.int .u8 115, .int .u8 121, .int .u8 109, .int .u8 98, .int .u8 111, .int .u8 108] := by rw [hW2]; exact Whole.alloc six1 _
      have hne : g1 ≠ g6 := by have := Whole.lt six1; omega
      go_simp
      rw [← hg1]
      rw [← hW2]
      clear hW2 hg1
      refine hK.out _ _ (trivial) (fun hHeld => ?_)
      clear hK K
      (try simp only [sq])
      refine wpAnyH_ready (rs := [2]) (by kernel_rfl) (by simp) ?_
      refine AllReadyH.cons rfl (fun K hK => ?_) AllReadyH.nil
      (try simp only [sq])
      have hcv := conv_mark (n := 6) (c := 6) six2
      obtain ⟨W3, hW3⟩ : ∃ x, x = W2.freeze ⟨g6, (#[.int .u8 115, .int .u8 121, .int .u8 109, .int .u8 98, .int .u8 111, .int .u8 108] : Array Value).size, none⟩ 1 := ⟨_, rfl⟩
      rw [← hW3] at hcv
      have b3 : Below p.heap.size p W3 := by rw [hW3]; exact freeze_below b2 p6
      have own3 : OwnM W3 p.heap.size (.slice (some ⟨g6, 0, none⟩) 6 6) smb := by rw [hW3]; exact own_mark (n := 6) six2 smb_cells rfl (by omega) p6
      have one3 : Bytes W3 (fun b => b = g1) (.slice (some ⟨g1, 0, none⟩) 1 1) [k] := by rw [hW3]; exact one2.keep fun b _ hb => freeze_other _ _ _ _ _ (by rw [hb]; exact hne)
      clear hW3
      go_simp
      clear hcv
      refine hK.out _ _ (trivial) (fun hHeld => ?_)
      clear hK K
      (try simp only [sq])
      refine wpAnyH_ready (rs := [5]) (by kernel_rfl) (by simp) ?_
      refine AllReadyH.cons rfl (fun K hK => ?_) AllReadyH.nil
      refine step_append_mark (by rfl) _ _ (by rfl) p.heap.size _ smb (by rfl) own3 _ _ [k] (by rfl) one3 (by simp) (by simp) b3.size ?_
      intro v4 w4 own4 hb4
      have b4 := b3.trans hb4
      refine hK.out _ _ (trivial) (fun hHeld => ?_)
      clear hK K
      (try simp only [sq])
      refine wpAnyH_ready (rs := [8]) (by kernel_rfl) (by simp) ?_
      refine AllReadyH.cons rfl (fun K hK => ?_) AllReadyH.nil
      (try simp only [sq])
      go_simp
      go_at_call 33
      refine (eight (u64n z) w4).mono ?_
      rintro e w5 ⟨v5, rfl, hv5, hb5⟩
      have b5 := b4.trans (hb5.mono b4.size)
      have own5 := own4.below hb5 (Nat.le_refl _)
      have by5 := Bytes.of_own hv5
      refine hK.out _ _ (trivial) (fun hHeld => ?_)
      clear hK K
      (try simp only [sq])
      refine wpAnyH_ready (rs := [9]) (by kernel_rfl) (by simp) ?_
      refine AllReadyH.cons rfl (fun K hK => ?_) AllReadyH.nil
      refine step_append_mark (by rfl) _ _ (by rfl) p.heap.size _ (smb ++ [k]) (by rfl) own5 _ _ (be8 (u64n z)) (by rfl) by5 (by rw [be8_length]; omega) (by rw [be8_length]; simp) b5.size ?_
      intro v6 w6 own6 hb6
      have b6 := b5.trans hb6
      have by6 := own6.bytes
      obtain ⟨Y, hY⟩ : ∃ Y, Y = smb ++ [k] ++ be8 (u64n z) := ⟨_, rfl⟩
      rw [← hY] at by6
      have hYl : Y.length = 15 := by rw [hY]; simp [be8_length]
      have hsym : Y ++ List.replicate 17 0#8 = sym k z := by rw [hY]; rfl
      have HSY := Lib.hid hsym
      have q0 : Whole w6 (w.heap.size + 1) 28 (ztag.map byt).toArray := Whole.below HK1.out b6 (by omega)
      clear own5 own6 hb6 hY hsym
      refine hK.out _ _ (trivial) (fun hHeld => ?_)
      clear hK K
      (try simp only [sq])
      refine wpAnyH_ready (rs := [10]) (by kernel_rfl) (by simp) ?_
      refine AllReadyH.cons rfl (fun K hK => ?_) AllReadyH.nil
      refine step_copy_bytes rfl _ _ rfl (w.heap.size + 1) 32 32 rfl _ rfl _ Y by6 _ (ztag.map byt) q0 (by omega) (by simp) ?_
      intro w' hw' hbw
      refine hK.out _ _ (trivial) (fun hHeld => ?_)
      clear hK K
      (try simp only [sq])
      refine wpAnyH_done (by kernel_rfl) ?_ _
      have hrow : TGRow w' (w.heap.size + 1) (sym k z) := by
        have e : List.map byt Y ++ List.map byt (List.replicate 17 0#8) = (sym k z).map byt := by rw [← List.map_append, HSY.out]
        have h := hw'.out
        rw [hYl] at h
        show Whole w' (w.heap.size + 1) _ _
        rw [← e]
        exact h
      have hk0 : TGRow w' w.heap.size ztag := Whole.below (Whole.below HK0.out b6 (by omega)) hbw (by omega)
      have hbf : Below w.heap.size w w' := HB0.out.trans ((b6.mono (by omega)).trans (hbw.mono (by omega)))
      have HR := Lib.hid hrow
      have HK := Lib.hid hk0
      have HF := Lib.hid hbf
      have hsl := sym_length k z
      have hz1 : ((sym k z).map byt).toArray.size = 32 := by simp [hsl]
      clear hw' hbw hrow hk0 hbf hst HK0 HK1 HB0 HSY hYl hsl by6 q0 b6 b5 b4
      go_wp2_with (first
        | (with_reducible refine wpList_load_row rfl 28 _ rfl (w.heap.size + 1) rfl _ _ _ _ HR.out.eq Tryd.underlying28 rfl (by rw [tagSize, hz1]) ?_)
        | (with_reducible refine wpList_store_row rfl 28 _ _ rfl w.heap.size _ rfl rfl _ _ HK.out.eq (by rw [tagSize, hz1]) (by rw [hz1]; simp) (all_oneCell_toArray (byt_one _)) ?_))
      have h3 := Whole.setRow HK.out ((sym k z).map byt).toArray
      refine bodyPost_ret (results_cell_row Tryd.results32 _ _ w.heap.size _ _ _ _ rfl h3 Tryd.underlying28 rfl (by rw [tagSize, hz1])) rfl ⟨rfl, below_setRow HF.out (Nat.le_refl _) _⟩
  · (try simp only [sq])
    obtain ⟨g1, hg1⟩ : ∃ g, g = W0.heap.size := ⟨_, rfl⟩
    obtain ⟨W1, hW1⟩ : ∃ x, x = W0.alloc (.cells #[.int .u8 (bv k)] 5) := ⟨_, rfl⟩
    have b1 : Below p.heap.size p W1 := by rw [hW1]; exact hbp.alloc hbp.size _
    have one1 : Bytes W1 (fun b => b = g1) (.slice (some ⟨g1, 0, none⟩) 1 1) [k] := by rw [hW1]; exact one_at _ _ _ hg1
    have one1_lt : g1 < W1.heap.size := by rw [hW1, hg1]; simp
    go_simp
    rw [← hg1]
    rw [← hW1]
    clear hW1 hg1
    refine hK.out _ _ (trivial) (fun hHeld => ?_)
    clear hK K
    (try simp only [sq])
    refine wpAnyH_ready (rs := [1]) (by kernel_rfl) (by simp) ?_
    refine AllReadyH.cons rfl (fun K hK => ?_) AllReadyH.nil
    (try simp only [sq])
    obtain ⟨g6, hg6⟩ : ∃ g, g = W1.heap.size := ⟨_, rfl⟩
    obtain ⟨W2, hW2⟩ : ∃ x, x = W1.alloc (.cells #[.int .u8 115, .int .u8 121, .int .u8 109, .int .u8 98, .int .u8 111, .int .u8 108] 5) := ⟨_, rfl⟩
    have b2 : Below p.heap.size p W2 := by rw [hW2]; exact b1.alloc b1.size _
    have six2 : Whole W2 g6 5 #[.int .u8 115, .int .u8 121, .int .u8 109, .int .u8 98, .int .u8 111, .int .u8 108] := by rw [hW2, hg6]; exact Whole.here _ _ _
    have p6 : p.heap.size ≤ g6 := by rw [hg6]; exact b1.size
    have one2 : Bytes W2 (fun b => b = g1) (.slice (some ⟨g1, 0, none⟩) 1 1) [k] := by rw [hW2]; exact one1.alloc _
    have hne : g1 ≠ g6 := by have := one1_lt; omega
    go_simp
    rw [← hg6]
    rw [← hW2]
    clear hW2 hg6
    refine hK.out _ _ (trivial) (fun hHeld => ?_)
    clear hK K
    (try simp only [sq])
    refine wpAnyH_ready (rs := [2]) (by kernel_rfl) (by simp) ?_
    refine AllReadyH.cons rfl (fun K hK => ?_) AllReadyH.nil
    (try simp only [sq])
    have hcv := conv_mark (n := 6) (c := 6) six2
    obtain ⟨W3, hW3⟩ : ∃ x, x = W2.freeze ⟨g6, (#[.int .u8 115, .int .u8 121, .int .u8 109, .int .u8 98, .int .u8 111, .int .u8 108] : Array Value).size, none⟩ 1 := ⟨_, rfl⟩
    rw [← hW3] at hcv
    have b3 : Below p.heap.size p W3 := by rw [hW3]; exact freeze_below b2 p6
    have own3 : OwnM W3 p.heap.size (.slice (some ⟨g6, 0, none⟩) 6 6) smb := by rw [hW3]; exact own_mark (n := 6) six2 smb_cells rfl (by omega) p6
    have one3 : Bytes W3 (fun b => b = g1) (.slice (some ⟨g1, 0, none⟩) 1 1) [k] := by rw [hW3]; exact one2.keep fun b _ hb => freeze_other _ _ _ _ _ (by rw [hb]; exact hne)
    clear hW3
    go_simp
    clear hcv
    refine hK.out _ _ (trivial) (fun hHeld => ?_)
    clear hK K
    (try simp only [sq])
    refine wpAnyH_ready (rs := [5]) (by kernel_rfl) (by simp) ?_
    refine AllReadyH.cons rfl (fun K hK => ?_) AllReadyH.nil
    refine step_append_mark (by rfl) _ _ (by rfl) p.heap.size _ smb (by rfl) own3 _ _ [k] (by rfl) one3 (by simp) (by simp) b3.size ?_
    intro v4 w4 own4 hb4
    have b4 := b3.trans hb4
    refine hK.out _ _ (trivial) (fun hHeld => ?_)
    clear hK K
    (try simp only [sq])
    refine wpAnyH_ready (rs := [8]) (by kernel_rfl) (by simp) ?_
    refine AllReadyH.cons rfl (fun K hK => ?_) AllReadyH.nil
    (try simp only [sq])
    go_simp
    go_at_call 33
    refine (eight (u64n z) w4).mono ?_
    rintro e w5 ⟨v5, rfl, hv5, hb5⟩
    have b5 := b4.trans (hb5.mono b4.size)
    have own5 := own4.below hb5 (Nat.le_refl _)
    have by5 := Bytes.of_own hv5
    refine hK.out _ _ (trivial) (fun hHeld => ?_)
    clear hK K
    (try simp only [sq])
    refine wpAnyH_ready (rs := [9]) (by kernel_rfl) (by simp) ?_
    refine AllReadyH.cons rfl (fun K hK => ?_) AllReadyH.nil
    refine step_append_mark (by rfl) _ _ (by rfl) p.heap.size _ (smb ++ [k]) (by rfl) own5 _ _ (be8 (u64n z)) (by rfl) by5 (by rw [be8_length]; omega) (by rw [be8_length]; simp) b5.size ?_
    intro v6 w6 own6 hb6
    have b6 := b5.trans hb6
    have by6 := own6.bytes
    obtain ⟨Y, hY⟩ : ∃ Y, Y = smb ++ [k] ++ be8 (u64n z) := ⟨_, rfl⟩
    rw [← hY] at by6
    have hYl : Y.length = 15 := by rw [hY]; simp [be8_length]
    have hsym : Y ++ List.replicate 17 0#8 = sym k z := by rw [hY]; rfl
    have HSY := Lib.hid hsym
    have q0 : Whole w6 (w.heap.size + 1) 28 (ztag.map byt).toArray := Whole.below HK1.out b6 (by omega)
    clear own5 own6 hb6 hY hsym
    refine hK.out _ _ (trivial) (fun hHeld => ?_)
    clear hK K
    (try simp only [sq])
    refine wpAnyH_ready (rs := [10]) (by kernel_rfl) (by simp) ?_
    refine AllReadyH.cons rfl (fun K hK => ?_) AllReadyH.nil
    refine step_copy_bytes rfl _ _ rfl (w.heap.size + 1) 32 32 rfl _ rfl _ Y by6 _ (ztag.map byt) q0 (by omega) (by simp) ?_
    intro w' hw' hbw
    refine hK.out _ _ (trivial) (fun hHeld => ?_)
    clear hK K
    (try simp only [sq])
    refine wpAnyH_done (by kernel_rfl) ?_ _
    have hrow : TGRow w' (w.heap.size + 1) (sym k z) := by
      have e : List.map byt Y ++ List.map byt (List.replicate 17 0#8) = (sym k z).map byt := by rw [← List.map_append, HSY.out]
      have h := hw'.out
      rw [hYl] at h
      show Whole w' (w.heap.size + 1) _ _
      rw [← e]
      exact h
    have hk0 : TGRow w' w.heap.size ztag := Whole.below (Whole.below HK0.out b6 (by omega)) hbw (by omega)
    have hbf : Below w.heap.size w w' := HB0.out.trans ((b6.mono (by omega)).trans (hbw.mono (by omega)))
    have HR := Lib.hid hrow
    have HK := Lib.hid hk0
    have HF := Lib.hid hbf
    have hsl := sym_length k z
    have hz1 : ((sym k z).map byt).toArray.size = 32 := by simp [hsl]
    clear hw' hbw hrow hk0 hbf hst HK0 HK1 HB0 HSY hYl hsl by6 q0 b6 b5 b4
    go_wp2_with (first
      | (with_reducible refine wpList_load_row rfl 28 _ rfl (w.heap.size + 1) rfl _ _ _ _ HR.out.eq Tryd.underlying28 rfl (by rw [tagSize, hz1]) ?_)
      | (with_reducible refine wpList_store_row rfl 28 _ _ rfl w.heap.size _ rfl rfl _ _ HK.out.eq (by rw [tagSize, hz1]) (by rw [hz1]; simp) (all_oneCell_toArray (byt_one _)) ?_))
    have h3 := Whole.setRow HK.out ((sym k z).map byt).toArray
    refine bodyPost_ret (results_cell_row Tryd.results32 _ _ w.heap.size _ _ _ _ rfl h3 Tryd.underlying28 rfl (by rw [tagSize, hz1])) rfl ⟨rfl, below_setRow HF.out (Nat.le_refl _) _⟩
end Go.Proofs.YteekdhcffiaaaaaDoor
namespace Go.Proofs.YteekdhcffiaaaaaDoor
open Go Go.RowKit Sh Leaf

end Go.Proofs.YteekdhcffiaaaaaDoor
namespace Go.Proofs.YteekdhcffiaaaaaDoor
open Go Go.RowKit Sh Leaf

theorem tlen {l : List B8} (h : l.length = 32) : (l.map byt).length = 32 := by rw [List.length_map, h]
set_option linter.unusedSimpArgs false in
set_option linter.unusedVariables false in
set_option maxRecDepth 100000 in
set_option maxHeartbeats 8000000 in
theorem dknown (g : Nat) (w : World) (h : Deck g w) {x : Value} {a : Alg} {Q : Nat → Prop} (hx : AlV w Q x a) (hQ : ∀ b, Q b → b ≠ g) :
    Calls Tryd.prog 24 #[.pointer (some ⟨g, 0, none⟩), x] w fun e w' => (∃ K : List B8, K.length = 32 ∧ e = .returned (tagv K)) ∧ Turn g w w' := by
  have hgw := h.lt
  obtain ⟨Am, cm, Ab, cb, rfl, hM, hBx, hA⟩ := hx
  obtain ⟨p, hp⟩ : ∃ p, p = (w.alloc (.cells (alc a.free a.seed a.fresh (.slice Am a.macs.length cm) (.slice Ab a.boxes.length cb)) 32)).alloc (.cells ztr 28) := ⟨_, rfl⟩
  have hb : Below w.heap.size w p := by rw [hp]; exact ((Below.refl _ _).alloc (Nat.le_refl _) _).alloc (by simp) _
  have hr : ALRow p w.heap.size a.free a.seed a.fresh (.slice Am a.macs.length cm) (.slice Ab a.boxes.length cb) := by rw [hp]; exact (Whole.here _ _ _).alloc _
  have hz : Whole p (w.heap.size + 1) 28 ztr := by rw [hp]; exact Whole.at_ _ _ _ _ (by simp)
  have hnx := dnext 4 (by omega) (by omega) g p (h.below hb hgw)
  have HTP := Lib.hid (h.here hb)
  have HR := Lib.hid hr
  have HZ := Lib.hid hz
  have HM := Lib.hid ((hM.mono (Q' := fun b => b < w.heap.size ∧ b ≠ g) fun b hb hq => ⟨hb, hQ b hq⟩).below hb (Nat.le_refl _))
  have HBX := Lib.hid ((hBx.mono (Q' := fun b => b < w.heap.size ∧ b ≠ g) fun b hb hq => ⟨hb, hQ b hq⟩).below hb (Nat.le_refl _))
  have HA := Lib.hid hA
  have hps : w.heap.size + 1 < p.heap.size := hz.lt
  clear h hM hBx hA hb hr hz hQ
  go_enter Tryd.func24, Tryd.ntmps24
  go_upto_region 1 with fail
  rw [ztr_lit, ← hp]
  clear hp
  go_wp2_with fail
  refine hnx.mono ?_
  rintro e w1 ⟨i, hi, rfl, ht1⟩
  have HT1 := Lib.hid (HTP.out.trans ht1)
  have hsz : p.heap.size ≤ w1.heap.size := ht1.2.1.size
  have hr1 := ht1.2.2.oth w.heap.size _ _ (by omega) HR.out
  have HR1 : Hid (ALRow w1 w.heap.size a.free a.seed a.fresh (.slice Am a.macs.length cm) (.slice Ab a.boxes.length cb)) := Lib.hid hr1
  have HZ1 : Hid (Whole w1 (w.heap.size + 1) 28 ztr) := Lib.hid (ht1.2.2.oth _ _ _ (by omega) HZ.out)
  have HM1 := Lib.hid (HM.out.oth ht1.2.2 ht1.2.1.size fun _ h => h.2)
  have HBX1 := Lib.hid (HBX.out.oth ht1.2.2 ht1.2.1.size fun _ h => h.2)
  obtain ⟨c0, c33, c34, c35⟩ := ALRow.cells hr1
  clear hnx ht1 hr1 HTP HR HZ HM HBX c0 c33
  rcases (by omega : i = 0 ∨ i = 1 ∨ i = 2 ∨ i = 3) with rfl | rfl | rfl | rfl
  · skip
    by_cases hpos : 0 < a.macs.length
    · skip
      have hp1 : (0 : Int) < (a.macs.length : Int) := by omega
      obtain ⟨b0, o0, rfl⟩ := Macs.block HM1.out hpos
      go_upto_region 3 with fail
      have hl1 : (a.macs.length : Int) ≤ 1152921504606846976 := by have := HA.out.macs; omega
      have hl0 : (0 : Int) < (a.macs.length : Int) := by omega
      have hdk := HT1.out.1.drew
      have hrd : ALRow w1.drew w.heap.size a.free a.seed a.fresh (.slice (some ⟨b0, o0, none⟩) a.macs.length cm) (.slice Ab a.boxes.length cb) := Whole.drew HR1.out
      have hmd : Macs w1.drew (fun b => b < w.heap.size ∧ b ≠ g) (some ⟨b0, o0, none⟩) cm a.macs := HM1.out
      have HTD : Hid (Turn g w w1.drew) := Lib.hid (HT1.out.trans ⟨hdk, (Below.refl _ _).drew, (Oth.refl g w1).drew⟩)
      clear c34 c35
      refine wp_region_held_drew (S := fun W => (ALRow W w.heap.size a.free a.seed a.fresh (.slice (some ⟨b0, o0, none⟩) a.macs.length cm) (.slice Ab a.boxes.length cb)) ∧ Macs W (fun b => b < w.heap.size ∧ b ≠ g) (some ⟨b0, o0, none⟩) cm a.macs) (by kernel_rfl) (⟨hrd, hmd⟩) (fun hHeld => ?_)
      apply wpT (i := 0) rfl (by kernel_rfl)
      case hQ => exact fun _ _ _ h => h
      case hS => exact hHeld
      case hy => (refine Or.inl ⟨by rfl, ?_⟩; intro w hSw; (try go_split_ands); go_simp; (try with_reducible rfl))
      (try simp only [sq])
      apply wpT (i := 1) rfl (by kernel_rfl)
      case hQ => exact fun _ _ _ h => h
      case hS => exact hHeld
      case hy => (refine Or.inl ⟨by rfl, ?_⟩; intro w hSw; have hc := (ALRow.cells hSw.1).2.2.1; go_simp; (try with_reducible rfl))
      (try simp only [sq])
      apply wpT (i := 2) rfl (by kernel_rfl)
      case hQ => exact fun _ _ _ h => h
      case hS => exact hHeld
      case hy => (refine Or.inl ⟨by rfl, ?_⟩; intro w hSw; (try go_split_ands); go_simp; (try with_reducible rfl))
      (try simp only [sq])
      apply wpT (i := 3) rfl (by kernel_rfl)
      case hQ => exact fun _ _ _ h => h
      case hS => exact hHeld
      case hy => (refine Or.inl ⟨by rfl, ?_⟩; intro w hSw; (try go_split_ands); go_simp; (try with_reducible rfl))
      (try simp only [sq])
      apply wpT (i := 4) rfl (by kernel_rfl)
      case hQ => exact fun _ _ _ h => h
      case hS => exact hHeld
      case hy => (refine Or.inl ⟨by rfl, ?_⟩; intro w hSw; have hc := (ALRow.cells hSw.1).2.2.1; go_simp; (try with_reducible rfl))
      (try simp only [sq])
      apply wpT (i := 5) rfl (by kernel_rfl)
      case hQ => exact fun _ _ _ h => h
      case hS => exact hHeld
      case hy => (refine Or.inl ⟨by rfl, ?_⟩; intro w hSw; (try go_split_ands); go_simp; (try with_reducible rfl))
      (try simp only [sq])
      refine wpAnyH_ready (rs := [6]) (by kernel_rfl) (by simp) ?_
      refine AllReadyH.cons rfl (fun KK hKK => ?_) AllReadyH.nil
      (try simp only [sq])
      go_simp
      go_at_call 15
      refine (dnext (a.macs.length : Int) hl0 hl1 g w1.drew hdk).mono ?_
      rintro e w2 ⟨j, hj, rfl, ht2⟩
      obtain ⟨ee, he⟩ : ∃ e, a.macs[j]? = some e := ⟨_, List.getElem?_eq_getElem (by omega)⟩
      have hr2 : ALRow w2 w.heap.size a.free a.seed a.fresh (.slice (some ⟨b0, o0, none⟩) a.macs.length cm) (.slice Ab a.boxes.length cb) := ht2.2.2.oth w.heap.size _ _ (by omega) hrd
      have hm2 := hmd.oth ht2.2.2 ht2.2.1.size fun _ h => h.2
      have hz2 : Whole w2 (w.heap.size + 1) 28 ztr := ht2.2.2.oth _ _ _ (by omega) (Whole.drew HZ1.out)
      have HT2 := Lib.hid (HTD.out.trans ht2)
      have hj0 : (0 : Int) ≤ (j : Int) := by omega
      have hat := fun W (h : Macs W (fun b => b < w.heap.size ∧ b ≠ g) (some ⟨b0, o0, none⟩) cm a.macs) => Macs.at_ h j ee he
      have hK := (hat w2 hm2).2.2.2
      have hKl := tlen hK
      have HE := Lib.hid he
      have HAT := Lib.hid hat
      clear he hat ht2
      refine hKK.out _ _ (⟨hr2, hm2⟩) (fun hHeld => ?_)
      clear hKK KK
      (try simp only [sq])
      apply wpT (i := 7) rfl (by kernel_rfl)
      case hQ => exact fun _ _ _ h => h
      case hS => exact hHeld
      case hy => (refine Or.inl ⟨by rfl, ?_⟩; intro w hSw; (try go_split_ands); go_simp; (try with_reducible rfl))
      (try simp only [sq])
      apply wpT (i := 8) rfl (by kernel_rfl)
      case hQ => exact fun _ _ _ h => h
      case hS => exact hHeld
      case hy => (refine Or.inl ⟨by rfl, ?_⟩; intro w hSw; (try go_split_ands); go_simp; (try with_reducible rfl))
      (try simp only [sq])
      apply wpT (i := 9) rfl (by kernel_rfl)
      case hQ => exact fun _ _ _ h => h
      case hS => exact hHeld
      case hy => exact yieldsIf_load_mid (by rfl) 28 _ rfl b0 ((o0 + j * 65 + 33)) rfl (ee.tag.map byt) _ (fun w hS => (HAT.out w hS.2).2.1) Tryd.underlying28 rfl (by rw [tagSize, hKl])
      (try simp only [sq])
      refine wpAnyH_ready (rs := [10]) (by kernel_rfl) (by simp) ?_
      refine AllReadyH.cons rfl (fun KK hKK => ?_) AllReadyH.nil
      (try simp only [sq])
      obtain ⟨W3, hW3⟩ : ∃ x, x = w2.setRow (w.heap.size + 1) (ee.tag.map byt).toArray := ⟨_, rfl⟩
      have hr3 : ALRow W3 w.heap.size a.free a.seed a.fresh (.slice (some ⟨b0, o0, none⟩) a.macs.length cm) (.slice Ab a.boxes.length cb) := by rw [hW3]; exact Whole.setRow_far hr2 (by omega) _
      have hm3 : Macs W3 (fun b => b < w.heap.size ∧ b ≠ g) (some ⟨b0, o0, none⟩) cm a.macs := by rw [hW3]; exact hm2.keep (below_setRow (B := 0) (Below.refl 0 _) (Nat.zero_le _) _).size fun b _ hb => setRow_other _ _ b _ (by have := hb.1; omega)
      have h3 : TGRow W3 (w.heap.size + 1) ee.tag := by rw [hW3]; exact Whole.setRow hz2 _
      have ht3 : Turn g w W3 := by rw [hW3]; exact HT2.out.below (B := w.heap.size) (below_setRow (Below.refl _ _) (by omega) _) hgw (Nat.le_refl _)
      rw [if_pos (by kernel_rfl)]
      refine wp_store_row 28 _ _ rfl (w.heap.size + 1) _ rfl rfl 28 _ hz2 (by rw [tagSize, tag_size hK]) (by rw [ztr_size, tag_size hK]) (tag_one _) ?_
      rw [← hW3]
      clear hW3
      refine hKK.out _ _ (⟨hr3, hm3⟩) (fun hHeld => ?_)
      clear hKK KK
      (try simp only [sq])
      refine wpAnyH_done (by kernel_rfl) ?_ _
      have HT3 := Lib.hid ht3
      clear ht3
      go_wp2_with fail
      refine bodyPost_ret (results_cell_row Tryd.results24 _ _ (w.heap.size + 1) _ _ _ _ rfl h3 Tryd.underlying28 rfl (by rw [tagSize, tag_size hK])) rfl ?_
      exact ⟨⟨ee.tag, hK, rfl⟩, HT3.out⟩
    · skip
      have hp1 : ¬ (0 : Int) < (a.macs.length : Int) := by omega
      have hp2 : (a.macs.length : Int) = 0 := by omega
      have hdt := dtag g w1 HT1.out.1
      go_wp2_with fail
      clear c34 c35
      refine hdt.mono ?_
      rintro e w2 ⟨⟨K, hK, rfl⟩, ht2⟩
      have HT2 := Lib.hid (HT1.out.trans ht2)
      have HZ2 : Hid (Whole w2 (w.heap.size + 1) 28 ztr) := Lib.hid (ht2.2.2.oth _ _ _ (by omega) HZ1.out)
      clear hdt ht2
      go_wp2_with (with_reducible refine wpList_store_tag rfl _ _ rfl (g := w.heap.size + 1) rfl rfl HZ2.out ztr_size (tag_size hK) (tag_one _) ?_)
      have h3 := Whole.setRow HZ2.out (K.map byt).toArray
      refine bodyPost_ret (results_cell_row Tryd.results24 _ _ (w.heap.size + 1) _ _ _ _ rfl h3 Tryd.underlying28 rfl (by rw [tagSize, tag_size hK])) rfl ?_
      exact ⟨⟨K, hK, rfl⟩, HT2.out.below (B := w.heap.size) (below_setRow (Below.refl _ _) (by omega) _) hgw (Nat.le_refl _)⟩
  · skip
    by_cases hpos : 0 < a.macs.length
    · skip
      have hp1 : (0 : Int) < (a.macs.length : Int) := by omega
      obtain ⟨b0, o0, rfl⟩ := Macs.block HM1.out hpos
      go_upto_region 5 with fail
      have hl1 : (a.macs.length : Int) ≤ 1152921504606846976 := by have := HA.out.macs; omega
      have hl0 : (0 : Int) < (a.macs.length : Int) := by omega
      have hdk := HT1.out.1.drew
      have hrd : ALRow w1.drew w.heap.size a.free a.seed a.fresh (.slice (some ⟨b0, o0, none⟩) a.macs.length cm) (.slice Ab a.boxes.length cb) := Whole.drew HR1.out
      have hmd : Macs w1.drew (fun b => b < w.heap.size ∧ b ≠ g) (some ⟨b0, o0, none⟩) cm a.macs := HM1.out
      have HTD : Hid (Turn g w w1.drew) := Lib.hid (HT1.out.trans ⟨hdk, (Below.refl _ _).drew, (Oth.refl g w1).drew⟩)
      clear c34 c35
      refine wp_region_held_drew (S := fun W => (ALRow W w.heap.size a.free a.seed a.fresh (.slice (some ⟨b0, o0, none⟩) a.macs.length cm) (.slice Ab a.boxes.length cb)) ∧ Macs W (fun b => b < w.heap.size ∧ b ≠ g) (some ⟨b0, o0, none⟩) cm a.macs) (by kernel_rfl) (⟨hrd, hmd⟩) (fun hHeld => ?_)
      apply wpT (i := 0) rfl (by kernel_rfl)
      case hQ => exact fun _ _ _ h => h
      case hS => exact hHeld
      case hy => (refine Or.inl ⟨by rfl, ?_⟩; intro w hSw; (try go_split_ands); go_simp; (try with_reducible rfl))
      (try simp only [sq])
      apply wpT (i := 1) rfl (by kernel_rfl)
      case hQ => exact fun _ _ _ h => h
      case hS => exact hHeld
      case hy => (refine Or.inl ⟨by rfl, ?_⟩; intro w hSw; have hc := (ALRow.cells hSw.1).2.2.1; go_simp; (try with_reducible rfl))
      (try simp only [sq])
      apply wpT (i := 2) rfl (by kernel_rfl)
      case hQ => exact fun _ _ _ h => h
      case hS => exact hHeld
      case hy => (refine Or.inl ⟨by rfl, ?_⟩; intro w hSw; (try go_split_ands); go_simp; (try with_reducible rfl))
      (try simp only [sq])
      apply wpT (i := 3) rfl (by kernel_rfl)
      case hQ => exact fun _ _ _ h => h
      case hS => exact hHeld
      case hy => (refine Or.inl ⟨by rfl, ?_⟩; intro w hSw; (try go_split_ands); go_simp; (try with_reducible rfl))
      (try simp only [sq])
      apply wpT (i := 4) rfl (by kernel_rfl)
      case hQ => exact fun _ _ _ h => h
      case hS => exact hHeld
      case hy => (refine Or.inl ⟨by rfl, ?_⟩; intro w hSw; have hc := (ALRow.cells hSw.1).2.2.1; go_simp; (try with_reducible rfl))
      (try simp only [sq])
      apply wpT (i := 5) rfl (by kernel_rfl)
      case hQ => exact fun _ _ _ h => h
      case hS => exact hHeld
      case hy => (refine Or.inl ⟨by rfl, ?_⟩; intro w hSw; (try go_split_ands); go_simp; (try with_reducible rfl))
      (try simp only [sq])
      refine wpAnyH_ready (rs := [6]) (by kernel_rfl) (by simp) ?_
      refine AllReadyH.cons rfl (fun KK hKK => ?_) AllReadyH.nil
      (try simp only [sq])
      go_simp
      go_at_call 15
      refine (dnext (a.macs.length : Int) hl0 hl1 g w1.drew hdk).mono ?_
      rintro e w2 ⟨j, hj, rfl, ht2⟩
      obtain ⟨ee, he⟩ : ∃ e, a.macs[j]? = some e := ⟨_, List.getElem?_eq_getElem (by omega)⟩
      have hr2 : ALRow w2 w.heap.size a.free a.seed a.fresh (.slice (some ⟨b0, o0, none⟩) a.macs.length cm) (.slice Ab a.boxes.length cb) := ht2.2.2.oth w.heap.size _ _ (by omega) hrd
      have hm2 := hmd.oth ht2.2.2 ht2.2.1.size fun _ h => h.2
      have hz2 : Whole w2 (w.heap.size + 1) 28 ztr := ht2.2.2.oth _ _ _ (by omega) (Whole.drew HZ1.out)
      have HT2 := Lib.hid (HTD.out.trans ht2)
      have hj0 : (0 : Int) ≤ (j : Int) := by omega
      have hat := fun W (h : Macs W (fun b => b < w.heap.size ∧ b ≠ g) (some ⟨b0, o0, none⟩) cm a.macs) => Macs.at_ h j ee he
      have hK := (hat w2 hm2).2.2.1
      have hKl := tlen hK
      have HE := Lib.hid he
      have HAT := Lib.hid hat
      clear he hat ht2
      refine hKK.out _ _ (⟨hr2, hm2⟩) (fun hHeld => ?_)
      clear hKK KK
      (try simp only [sq])
      apply wpT (i := 7) rfl (by kernel_rfl)
      case hQ => exact fun _ _ _ h => h
      case hS => exact hHeld
      case hy => (refine Or.inl ⟨by rfl, ?_⟩; intro w hSw; (try go_split_ands); go_simp; (try with_reducible rfl))
      (try simp only [sq])
      apply wpT (i := 8) rfl (by kernel_rfl)
      case hQ => exact fun _ _ _ h => h
      case hS => exact hHeld
      case hy => (refine Or.inl ⟨by rfl, ?_⟩; intro w hSw; (try go_split_ands); go_simp; (try with_reducible rfl))
      (try simp only [sq])
      apply wpT (i := 9) rfl (by kernel_rfl)
      case hQ => exact fun _ _ _ h => h
      case hS => exact hHeld
      case hy => exact yieldsIf_load_mid (by rfl) 28 _ rfl b0 ((o0 + j * 65)) rfl (ee.key.map byt) _ (fun w hS => (HAT.out w hS.2).1) Tryd.underlying28 rfl (by rw [tagSize, hKl])
      (try simp only [sq])
      refine wpAnyH_ready (rs := [10]) (by kernel_rfl) (by simp) ?_
      refine AllReadyH.cons rfl (fun KK hKK => ?_) AllReadyH.nil
      (try simp only [sq])
      obtain ⟨W3, hW3⟩ : ∃ x, x = w2.setRow (w.heap.size + 1) (ee.key.map byt).toArray := ⟨_, rfl⟩
      have hr3 : ALRow W3 w.heap.size a.free a.seed a.fresh (.slice (some ⟨b0, o0, none⟩) a.macs.length cm) (.slice Ab a.boxes.length cb) := by rw [hW3]; exact Whole.setRow_far hr2 (by omega) _
      have hm3 : Macs W3 (fun b => b < w.heap.size ∧ b ≠ g) (some ⟨b0, o0, none⟩) cm a.macs := by rw [hW3]; exact hm2.keep (below_setRow (B := 0) (Below.refl 0 _) (Nat.zero_le _) _).size fun b _ hb => setRow_other _ _ b _ (by have := hb.1; omega)
      have h3 : TGRow W3 (w.heap.size + 1) ee.key := by rw [hW3]; exact Whole.setRow hz2 _
      have ht3 : Turn g w W3 := by rw [hW3]; exact HT2.out.below (B := w.heap.size) (below_setRow (Below.refl _ _) (by omega) _) hgw (Nat.le_refl _)
      rw [if_pos (by kernel_rfl)]
      refine wp_store_row 28 _ _ rfl (w.heap.size + 1) _ rfl rfl 28 _ hz2 (by rw [tagSize, tag_size hK]) (by rw [ztr_size, tag_size hK]) (tag_one _) ?_
      rw [← hW3]
      clear hW3
      refine hKK.out _ _ (⟨hr3, hm3⟩) (fun hHeld => ?_)
      clear hKK KK
      (try simp only [sq])
      refine wpAnyH_done (by kernel_rfl) ?_ _
      have HT3 := Lib.hid ht3
      clear ht3
      go_wp2_with fail
      refine bodyPost_ret (results_cell_row Tryd.results24 _ _ (w.heap.size + 1) _ _ _ _ rfl h3 Tryd.underlying28 rfl (by rw [tagSize, tag_size hK])) rfl ?_
      exact ⟨⟨ee.key, hK, rfl⟩, HT3.out⟩
    · skip
      have hp1 : ¬ (0 : Int) < (a.macs.length : Int) := by omega
      have hp2 : (a.macs.length : Int) = 0 := by omega
      have hdt := dtag g w1 HT1.out.1
      go_wp2_with fail
      clear c34 c35
      refine hdt.mono ?_
      rintro e w2 ⟨⟨K, hK, rfl⟩, ht2⟩
      have HT2 := Lib.hid (HT1.out.trans ht2)
      have HZ2 : Hid (Whole w2 (w.heap.size + 1) 28 ztr) := Lib.hid (ht2.2.2.oth _ _ _ (by omega) HZ1.out)
      clear hdt ht2
      go_wp2_with (with_reducible refine wpList_store_tag rfl _ _ rfl (g := w.heap.size + 1) rfl rfl HZ2.out ztr_size (tag_size hK) (tag_one _) ?_)
      have h3 := Whole.setRow HZ2.out (K.map byt).toArray
      refine bodyPost_ret (results_cell_row Tryd.results24 _ _ (w.heap.size + 1) _ _ _ _ rfl h3 Tryd.underlying28 rfl (by rw [tagSize, tag_size hK])) rfl ?_
      exact ⟨⟨K, hK, rfl⟩, HT2.out.below (B := w.heap.size) (below_setRow (Below.refl _ _) (by omega) _) hgw (Nat.le_refl _)⟩
  · skip
    by_cases hpos : 0 < a.boxes.length
    · skip
      have hp1 : (0 : Int) < (a.boxes.length : Int) := by omega
      obtain ⟨b0, o0, rfl⟩ := Bxs.block HBX1.out hpos
      go_upto_region 7 with fail
      have hl1 : (a.boxes.length : Int) ≤ 1152921504606846976 := by have := HA.out.boxes; omega
      have hl0 : (0 : Int) < (a.boxes.length : Int) := by omega
      have hdk := HT1.out.1.drew
      have hrd : ALRow w1.drew w.heap.size a.free a.seed a.fresh (.slice Am a.macs.length cm) (.slice (some ⟨b0, o0, none⟩) a.boxes.length cb) := Whole.drew HR1.out
      have hmd : Bxs w1.drew (fun b => b < w.heap.size ∧ b ≠ g) (some ⟨b0, o0, none⟩) cb a.boxes := HBX1.out
      have HTD : Hid (Turn g w w1.drew) := Lib.hid (HT1.out.trans ⟨hdk, (Below.refl _ _).drew, (Oth.refl g w1).drew⟩)
      clear c34 c35
      refine wp_region_held_drew (S := fun W => (ALRow W w.heap.size a.free a.seed a.fresh (.slice Am a.macs.length cm) (.slice (some ⟨b0, o0, none⟩) a.boxes.length cb)) ∧ Bxs W (fun b => b < w.heap.size ∧ b ≠ g) (some ⟨b0, o0, none⟩) cb a.boxes) (by kernel_rfl) (⟨hrd, hmd⟩) (fun hHeld => ?_)
      apply wpT (i := 0) rfl (by kernel_rfl)
      case hQ => exact fun _ _ _ h => h
      case hS => exact hHeld
      case hy => (refine Or.inl ⟨by rfl, ?_⟩; intro w hSw; (try go_split_ands); go_simp; (try with_reducible rfl))
      (try simp only [sq])
      apply wpT (i := 1) rfl (by kernel_rfl)
      case hQ => exact fun _ _ _ h => h
      case hS => exact hHeld
      case hy => (refine Or.inl ⟨by rfl, ?_⟩; intro w hSw; have hc := (ALRow.cells hSw.1).2.2.2; go_simp; (try with_reducible rfl))
      (try simp only [sq])
      apply wpT (i := 2) rfl (by kernel_rfl)
      case hQ => exact fun _ _ _ h => h
      case hS => exact hHeld
      case hy => (refine Or.inl ⟨by rfl, ?_⟩; intro w hSw; (try go_split_ands); go_simp; (try with_reducible rfl))
      (try simp only [sq])
      apply wpT (i := 3) rfl (by kernel_rfl)
      case hQ => exact fun _ _ _ h => h
      case hS => exact hHeld
      case hy => (refine Or.inl ⟨by rfl, ?_⟩; intro w hSw; (try go_split_ands); go_simp; (try with_reducible rfl))
      (try simp only [sq])
      apply wpT (i := 4) rfl (by kernel_rfl)
      case hQ => exact fun _ _ _ h => h
      case hS => exact hHeld
      case hy => (refine Or.inl ⟨by rfl, ?_⟩; intro w hSw; have hc := (ALRow.cells hSw.1).2.2.2; go_simp; (try with_reducible rfl))
      (try simp only [sq])
      apply wpT (i := 5) rfl (by kernel_rfl)
      case hQ => exact fun _ _ _ h => h
      case hS => exact hHeld
      case hy => (refine Or.inl ⟨by rfl, ?_⟩; intro w hSw; (try go_split_ands); go_simp; (try with_reducible rfl))
      (try simp only [sq])
      refine wpAnyH_ready (rs := [6]) (by kernel_rfl) (by simp) ?_
      refine AllReadyH.cons rfl (fun KK hKK => ?_) AllReadyH.nil
      (try simp only [sq])
      go_simp
      go_at_call 15
      refine (dnext (a.boxes.length : Int) hl0 hl1 g w1.drew hdk).mono ?_
      rintro e w2 ⟨j, hj, rfl, ht2⟩
      obtain ⟨ee, he⟩ : ∃ e, a.boxes[j]? = some e := ⟨_, List.getElem?_eq_getElem (by omega)⟩
      have hr2 : ALRow w2 w.heap.size a.free a.seed a.fresh (.slice Am a.macs.length cm) (.slice (some ⟨b0, o0, none⟩) a.boxes.length cb) := ht2.2.2.oth w.heap.size _ _ (by omega) hrd
      have hm2 := hmd.oth ht2.2.2 ht2.2.1.size fun _ h => h.2
      have hz2 : Whole w2 (w.heap.size + 1) 28 ztr := ht2.2.2.oth _ _ _ (by omega) (Whole.drew HZ1.out)
      have HT2 := Lib.hid (HTD.out.trans ht2)
      have hj0 : (0 : Int) ≤ (j : Int) := by omega
      have hat := fun W (h : Bxs W (fun b => b < w.heap.size ∧ b ≠ g) (some ⟨b0, o0, none⟩) cb a.boxes) => Bxs.at_ h j ee he
      have hK := (hat w2 hm2).2
      have hKl := tlen hK
      have HE := Lib.hid he
      have HAT := Lib.hid hat
      clear he hat ht2
      refine hKK.out _ _ (⟨hr2, hm2⟩) (fun hHeld => ?_)
      clear hKK KK
      (try simp only [sq])
      apply wpT (i := 7) rfl (by kernel_rfl)
      case hQ => exact fun _ _ _ h => h
      case hS => exact hHeld
      case hy => (refine Or.inl ⟨by rfl, ?_⟩; intro w hSw; (try go_split_ands); go_simp; (try with_reducible rfl))
      (try simp only [sq])
      apply wpT (i := 8) rfl (by kernel_rfl)
      case hQ => exact fun _ _ _ h => h
      case hS => exact hHeld
      case hy => (refine Or.inl ⟨by rfl, ?_⟩; intro w hSw; (try go_split_ands); go_simp; (try with_reducible rfl))
      (try simp only [sq])
      apply wpT (i := 9) rfl (by kernel_rfl)
      case hQ => exact fun _ _ _ h => h
      case hS => exact hHeld
      case hy => exact yieldsIf_load_mid (by rfl) 28 _ rfl b0 ((o0 + j * 35)) rfl (ee.key.map byt) _ (fun w hS => (HAT.out w hS.2).1) Tryd.underlying28 rfl (by rw [tagSize, hKl])
      (try simp only [sq])
      refine wpAnyH_ready (rs := [10]) (by kernel_rfl) (by simp) ?_
      refine AllReadyH.cons rfl (fun KK hKK => ?_) AllReadyH.nil
      (try simp only [sq])
      obtain ⟨W3, hW3⟩ : ∃ x, x = w2.setRow (w.heap.size + 1) (ee.key.map byt).toArray := ⟨_, rfl⟩
      have hr3 : ALRow W3 w.heap.size a.free a.seed a.fresh (.slice Am a.macs.length cm) (.slice (some ⟨b0, o0, none⟩) a.boxes.length cb) := by rw [hW3]; exact Whole.setRow_far hr2 (by omega) _
      have hm3 : Bxs W3 (fun b => b < w.heap.size ∧ b ≠ g) (some ⟨b0, o0, none⟩) cb a.boxes := by rw [hW3]; exact hm2.keep (below_setRow (B := 0) (Below.refl 0 _) (Nat.zero_le _) _).size fun b _ hb => setRow_other _ _ b _ (by have := hb.1; omega)
      have h3 : TGRow W3 (w.heap.size + 1) ee.key := by rw [hW3]; exact Whole.setRow hz2 _
      have ht3 : Turn g w W3 := by rw [hW3]; exact HT2.out.below (B := w.heap.size) (below_setRow (Below.refl _ _) (by omega) _) hgw (Nat.le_refl _)
      rw [if_pos (by kernel_rfl)]
      refine wp_store_row 28 _ _ rfl (w.heap.size + 1) _ rfl rfl 28 _ hz2 (by rw [tagSize, tag_size hK]) (by rw [ztr_size, tag_size hK]) (tag_one _) ?_
      rw [← hW3]
      clear hW3
      refine hKK.out _ _ (⟨hr3, hm3⟩) (fun hHeld => ?_)
      clear hKK KK
      (try simp only [sq])
      refine wpAnyH_done (by kernel_rfl) ?_ _
      have HT3 := Lib.hid ht3
      clear ht3
      go_wp2_with fail
      refine bodyPost_ret (results_cell_row Tryd.results24 _ _ (w.heap.size + 1) _ _ _ _ rfl h3 Tryd.underlying28 rfl (by rw [tagSize, tag_size hK])) rfl ?_
      exact ⟨⟨ee.key, hK, rfl⟩, HT3.out⟩
    · skip
      have hp1 : ¬ (0 : Int) < (a.boxes.length : Int) := by omega
      have hp2 : (a.boxes.length : Int) = 0 := by omega
      have hdt := dtag g w1 HT1.out.1
      go_wp2_with fail
      clear c34 c35
      refine hdt.mono ?_
      rintro e w2 ⟨⟨K, hK, rfl⟩, ht2⟩
      have HT2 := Lib.hid (HT1.out.trans ht2)
      have HZ2 : Hid (Whole w2 (w.heap.size + 1) 28 ztr) := Lib.hid (ht2.2.2.oth _ _ _ (by omega) HZ1.out)
      clear hdt ht2
      go_wp2_with (with_reducible refine wpList_store_tag rfl _ _ rfl (g := w.heap.size + 1) rfl rfl HZ2.out ztr_size (tag_size hK) (tag_one _) ?_)
      have h3 := Whole.setRow HZ2.out (K.map byt).toArray
      refine bodyPost_ret (results_cell_row Tryd.results24 _ _ (w.heap.size + 1) _ _ _ _ rfl h3 Tryd.underlying28 rfl (by rw [tagSize, tag_size hK])) rfl ?_
      exact ⟨⟨K, hK, rfl⟩, HT2.out.below (B := w.heap.size) (below_setRow (Below.refl _ _) (by omega) _) hgw (Nat.le_refl _)⟩
  · skip
    have hdt := dtag g w1 HT1.out.1
    go_wp2_with fail
    clear c34 c35
    refine hdt.mono ?_
    rintro e w2 ⟨⟨K, hK, rfl⟩, ht2⟩
    have HT2 := Lib.hid (HT1.out.trans ht2)
    have HZ2 : Hid (Whole w2 (w.heap.size + 1) 28 ztr) := Lib.hid (ht2.2.2.oth _ _ _ (by omega) HZ1.out)
    clear hdt ht2
    go_wp2_with (with_reducible refine wpList_store_tag rfl _ _ rfl (g := w.heap.size + 1) rfl rfl HZ2.out ztr_size (tag_size hK) (tag_one _) ?_)
    have h3 := Whole.setRow HZ2.out (K.map byt).toArray
    refine bodyPost_ret (results_cell_row Tryd.results24 _ _ (w.heap.size + 1) _ _ _ _ rfl h3 Tryd.underlying28 rfl (by rw [tagSize, tag_size hK])) rfl ?_
    exact ⟨⟨K, hK, rfl⟩, HT2.out.below (B := w.heap.size) (below_setRow (Below.refl _ _) (by omega) _) hgw (Nat.le_refl _)⟩
end Go.Proofs.YteekdhcffiaaaaaDoor
