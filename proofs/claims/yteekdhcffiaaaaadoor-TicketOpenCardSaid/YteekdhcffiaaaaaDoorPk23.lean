/-
  AlgStrm
  AlgSeS
  KBo
  TkSpec
  BxORec
  BxOpen
  BxRec
  BxNew0
  BxSeal
-/
import Derived.Deep.RegionHeld3
import Derived.Deep.CutBlock
import Derived.Deep.DeepCutAuto
import Derived.Laws.CopyOwn
import Derived.Test.YteekdhcffiaaaaaDoorKSq
import Derived.Test.YteekdhcffiaaaaaDoorPk16
import Derived.Test.YteekdhcffiaaaaaDoorPk6
import Derived.Test.YteekdhcffiaaaaaDoorPk3
import Derived.Test.YteekdhcffiaaaaaDoorPk20
import Derived.Test.YteekdhcffiaaaaaDoorKAnyG
import Derived.Test.YteekdhcffiaaaaaDoorPk22
import Derived.Test.YteekdhcffiaaaaaDoorPk24
import Derived.Test.YteekdhcffiaaaaaDoorPk27
import Derived.Test.YteekdhcffiaaaaaDoorPk0
import Derived.Test.YteekdhcffiaaaaaDoorPk8
import Derived.Test.YteekdhcffiaaaaaDoorPk25
import Derived.Test.YteekdhcffiaaaaaDoorPk4
import Derived.Test.YteekdhcffiaaaaaDoorPk21
import Derived.Test.YteekdhcffiaaaaaDoorPk33
import Derived.Test.YteekdhcffiaaaaaDoorPk19
namespace Go.Proofs.YteekdhcffiaaaaaDoor
open Go Go.RowKit Sh Leaf
namespace Sh

def strw : List B8 := [115#8, 116#8, 114#8, 101#8, 97#8, 109#8]
def kstr (K : List B8) (n i : Nat) : B8 := (hmac K (strw ++ (be8 n ++ be8 (i / 32)))).getD (i % 32) 0
def strm (K : List B8) (n : Nat) (b : List B8) : List B8 := b.mapIdx fun i x => x ^^^ kstr K n i
def stj (K : List B8) (n : Nat) (b : List B8) (j : Nat) : List B8 := b.mapIdx fun i x => if i < j then x ^^^ kstr K n i else x
theorem strm_length (K : List B8) (n : Nat) (b : List B8) : (strm K n b).length = b.length := by unfold strm; simp
theorem stj_length (K : List B8) (n : Nat) (b : List B8) (j : Nat) : (stj K n b j).length = b.length := by unfold stj; simp
theorem stj_zero (K : List B8) (n : Nat) (b : List B8) : stj K n b 0 = b := by
  unfold stj
  refine List.ext_getElem? fun i => ?_
  rw [List.getElem?_mapIdx]
  cases b[i]? <;> simp
theorem stj_all (K : List B8) (n : Nat) (b : List B8) : stj K n b b.length = strm K n b := by
  unfold stj strm
  refine List.ext_getElem? fun i => ?_
  rw [List.getElem?_mapIdx, List.getElem?_mapIdx]
  cases h : b[i]? with
  | none => rfl
  | some x => have := (List.getElem?_eq_some_iff.1 h).1; simp [this]
theorem stj_get (K : List B8) (n : Nat) (b : List B8) (j : Nat) : (stj K n b j).getD j 0 = b.getD j 0 := by
  unfold stj
  rw [List.getD_eq_getElem?_getD, List.getD_eq_getElem?_getD, List.getElem?_mapIdx]
  cases b[j]? <;> simp
theorem stj_set (K : List B8) (n : Nat) (b : List B8) (j : Nat) (hj : j < b.length) : (stj K n b j).set j (b.getD j 0 ^^^ kstr K n j) = stj K n b (j + 1) := by
  refine List.ext_getElem? fun i => ?_
  rw [List.getElem?_set, stj_length]
  unfold stj
  rw [List.getElem?_mapIdx, List.getElem?_mapIdx]
  by_cases e : j = i
  · subst e
    rw [if_pos rfl, if_pos hj, List.getElem?_eq_getElem hj]
    simp [hj]
  · rw [if_neg e]
    cases b[i]? with
    | none => rfl
    | some x => simp only [Option.map_some]; congr 1; by_cases q : i < j
                · rw [if_pos q, if_pos (by omega)]
                · rw [if_neg q, if_neg (by omega)]
end Sh
theorem own_bf {w : World} {base : Nat} {v : Value} {l : List B8} (h : Own w base v l) : OwnBf w base v l := by
  show w.ownsRow base 5 1 v l.length (fl bf l)
  rw [fl_bf]; exact h
theorem bf_own {w : World} {base : Nat} {v : Value} {l : List B8} (h : OwnBf w base v l) : Own w base v l := by
  have h' : w.ownsRow base 5 1 v l.length (fl bf l) := h
  rw [fl_bf] at h'; exact h'
theorem tag_ne_u8 : 28 ≠ 5 := by decide
theorem own_off {w w' : World} {base g : Nat} {v : Value} {l : List B8} {cs : Array Value} (h : OwnBf w base v l) (hz : Whole w g 28 cs) (hg : w.grownBy w' v.ownBlock) : Whole w' g 28 cs := by
  refine (hg.block g hz.lt fun e => ?_).trans hz
  rcases h.2 with ⟨rfl, _⟩ | ⟨g', cap', cur', rfl, hg', hh', _⟩
  · cases e
  · have e : some g = some g' := e
    injection e with e
    subst e
    have hz' := hz.eq
    rw [hz'] at hh'
    injection hh' with hh'
    injection hh' with _ ht
    exact tag_ne_u8 ht
theorem sbytes_strw : sbytes { data := #[115, 116, 114, 101, 97, 109] } = strw := by with_unfolding_all rfl
set_option linter.unusedSimpArgs false in
set_option linter.unusedVariables false in
set_option maxRecDepth 100000 in
set_option maxHeartbeats 4000000 in
theorem rstream {w : World} {Q : Nat → Prop} {B : Option Addr} {d : Nat} {K b : List B8} (n : Nat) (hn : n < 18446744073709551616) (hK : K.length = 32) (hv : Bytes w Q (.slice B b.length d) b) (hbl : b.length ≤ 5000) :
    Calls Tryd.prog 34 #[.agg (K.map byt).toArray, .int .u64 (n : Int), .slice B b.length d] w fun e w' => ∃ v', e = .returned v' ∧ Own w' w.heap.size v' (strm K n b) ∧ Below w.heap.size w w' := by
  obtain ⟨p, hp⟩ : ∃ p, p = w.alloc (.cells (K.map byt).toArray 28) := ⟨_, rfl⟩
  have hk : TGRow p w.heap.size K := by rw [hp]; exact Whole.here _ _ _
  have hb : Below w.heap.size w p := by rw [hp]; exact (Below.refl _ _).alloc (Nat.le_refl _) _
  have hps : w.heap.size < p.heap.size := hk.lt
  have hvp := hv.below hb (Nat.le_refl _)
  have HB := Lib.hid hb
  have HK := Lib.hid hk
  clear hv hb hk
  go_enter Tryd.func34, Tryd.ntmps34
  go_upto_region 1 with fail
  rw [← hp]
  clear hp
  go_wp2_with (at_builtin; go_must (refine wpList_append_bytes rfl _ _ rfl p.heap.size (.slice (some ⟨p.heap.size, 0, none⟩) 0 0) [] rfl (own_lit p p.heap.size [] (Nat.le_refl _) (by simp)) _ _ b rfl (hvp.alloc _) (by simp; omega) (by simp) ?_; intro v1 w1 hown hb1; rw [List.nil_append] at hown))
  have hb1' : Below p.heap.size p w1 := ((Below.refl _ _).alloc (Nat.le_refl _) _).trans hb1
  clear hb1 hvp
  obtain ⟨A1, c1, rfl, -⟩ := id (Bytes.of_own hown)
  go_loopw [8] (fun v wr => ∃ j : Nat, v = .int .i64 j ∧ j ≤ b.length ∧ Own wr p.heap.size (.slice A1 b.length c1) (stj K n b j) ∧ Below p.heap.size p wr) (fun v _ => b.length - (intOf v).toNat)
  case atStart => exact ⟨0, rfl, by omega, by rw [stj_zero]; exact hown, hb1'⟩
  case round =>
    clear hown hb1'
    obtain ⟨j, rfl, hj, hown, hbw⟩ := hrel
    have HO := Lib.hid hown
    have HBW := Lib.hid hbw
    clear hown hbw
    by_cases hlt : j < b.length
    case neg =>
      obtain rfl : j = b.length := by omega
      have HX : Hid (Own wr w.heap.size (.slice A1 b.length c1) (strm K n b)) := Lib.hid (by have := HO.out; rw [stj_all] at this; exact own_mono this (by omega))
      have HB2 : Hid (Below w.heap.size w wr) := Lib.hid (HB.out.trans (HBW.out.mono (by omega)))
      go_wp2_with fail
      go_ret
      exact ⟨_, rfl, HX.out, HB2.out⟩
    go_upto_region 5 with fail
    have hst := fun g W => run_sliceAt_whole (P := Tryd.prog) (t := 28) (e := 5) (n := 32) Tryd.underlying28 (by kernel_rfl) g W
    obtain ⟨q, hq⟩ : ∃ q, q = j / 32 := ⟨_, rfl⟩
    have e1 : (j : Int).tdiv 32 = (q : Int) := by rw [Int.tdiv_eq_ediv_of_nonneg (by omega), hq]; omega
    have hq1 : q ≤ 5000 := by omega
    have e2 : IntKind.u64.wrap (q : Int) = (q : Int) := by rw [IntKind.wrap_u64]; omega
    have e3 : IntKind.i64.wrap (q : Int) = (q : Int) := by rw [IntKind.wrap_i64]; omega
    obtain ⟨H, hH⟩ : ∃ H, H = hmac K (strw ++ (be8 n ++ be8 q)) := ⟨_, rfl⟩
    have hHl : H.length = 32 := by rw [hH]; exact hmac_length _ _
    have HH := Lib.hid hH
    have HQ := Lib.hid hq
    have hlen8 : ∀ z, (be8 z).length = 8 := fun z => be8_length z
    clear hq hH
    have bU : Below wr.heap.size wr wr.drew := (Below.refl _ _).drew
    go_cut [9] (fun s wx => ∃ g, s = .pointer (some ⟨g, 0, none⟩) ∧ TGRow wx g H ∧ wr.heap.size ≤ g ∧ Below wr.heap.size wr wx)
    case first =>
      refine wp_region_held_drew (S := fun _ : World => True) (by kernel_rfl) (trivial) (fun hHeld => ?_)
      generalize wr.drew = W0 at bU ⊢
      apply wpT (i := 0) rfl (by kernel_rfl)
      case hQ => exact fun _ _ _ h => h
      case hS => exact hHeld
      case hy => (refine Or.inl ⟨by rfl, ?_⟩; intro w hSw; (try go_split_ands); go_simp; (try with_reducible rfl))
      (try simp only [sq])
      apply wpT (i := 1) rfl (by kernel_rfl)
      case hQ => exact fun _ _ _ h => h
      case hS => exact hHeld
      case hy => (refine Or.inl ⟨by rfl, ?_⟩; intro w hSw; (try go_split_ands); go_simp; (try with_reducible rfl))
      (try simp only [sq])
      apply wpT (i := 3) rfl (by kernel_rfl)
      case hQ => exact fun _ _ _ h => h
      case hS => exact hHeld
      case hy => (refine Or.inl ⟨by rfl, ?_⟩; intro w hSw; (try go_split_ands); go_simp; (try with_reducible rfl))
      (try simp only [sq])
      apply wpT (i := 4) rfl (by kernel_rfl)
      case hQ => exact fun _ _ _ h => h
      case hS => exact hHeld
      case hy => (refine Or.inl ⟨by rfl, ?_⟩; intro w hSw; (try go_split_ands); go_simp; (try with_reducible rfl))
      (try simp only [sq])
      apply wpT (i := 5) rfl (by kernel_rfl)
      case hQ => exact fun _ _ _ h => h
      case hS => exact hHeld
      case hy => (refine Or.inl ⟨by rfl, ?_⟩; intro w hSw; (try go_split_ands); go_simp; (try with_reducible rfl))
      (try simp only [sq])
      refine wpAnyH_ready (rs := [2, 10]) (by kernel_rfl) (by simp) ?_
      refine AllReadyH.cons rfl (fun KK hKK => ?_) (AllReadyH.cons rfl (fun KK hKK => ?_) AllReadyH.nil)
      · (try simp only [sq])
        go_simp
        go_at_call 33
        refine (eight n W0).mono ?_
        rintro e W1 ⟨vA, rfl, ho1, hs1⟩
        have b1 : Below wr.heap.size wr W1 := bU.trans (hs1.mono bU.size)
        have oA1 : Own W1 wr.heap.size vA (be8 n) := own_mono ho1 bU.size
        refine hKK.out _ _ (trivial) (fun hHeld => ?_)
        clear hKK KK
        (try simp only [sq])
        refine wpAnyH_ready (rs := [6, 10]) (by kernel_rfl) (by simp) ?_
        refine AllReadyH.cons rfl (fun KK hKK => ?_) (AllReadyH.cons rfl (fun KK hKK => ?_) AllReadyH.nil)
        · (try simp only [sq])
          go_simp
          go_at_call 33
          refine (eight q W1).mono ?_
          rintro e W2 ⟨vB, rfl, ho2, hs2⟩
          have b2 : Below wr.heap.size wr W2 := b1.trans (hs2.mono b1.size)
          have oA2 := own_below oA1 hs2 (Nat.le_refl _)
          have oB2 : Own W2 wr.heap.size vB (be8 q) := own_mono ho2 b1.size
          obtain ⟨AB, cB, rfl, -⟩ := id (Bytes.of_own oB2)
          refine hKK.out _ _ (trivial) (fun hHeld => ?_)
          clear hKK KK
          (try simp only [sq])
          refine wpAnyH_ready (rs := [7, 10]) (by kernel_rfl) (by simp) ?_
          refine AllReadyH.cons rfl (fun KK hKK => ?_) (AllReadyH.cons rfl (fun KK hKK => ?_) AllReadyH.nil)
          · skip
            refine step_append_seq (by rfl) _ _ 39 5 (.int .u8 0) 1 (by rfl) Tryd.underlying39 byteInfo byte_size (by omega) (by omega) bf_len bf_one wr.heap.size _ (be8 n) (by rfl) (own_bf oA2) _ AB (be8 q).length cB (be8 q) rfl (by rfl) (seq_bytes (Bytes.of_own oB2)) (by rw [hlen8, hlen8]; omega) b2.size ?_
            intro vC W3 oC0 hs3 hgn3
            have oC3 : Own W3 wr.heap.size vC (be8 n ++ be8 q) := bf_own oC0
            have b3 : Below wr.heap.size wr W3 := b2.trans hs3
            refine hKK.out _ _ (trivial) (fun hHeld => ?_)
            clear hKK KK
            (try simp only [sq])
            refine wpAnyH_ready (rs := [8, 10]) (by kernel_rfl) (by simp) ?_
            refine AllReadyH.cons rfl (fun KK hKK => ?_) (AllReadyH.cons rfl (fun KK hKK => ?_) AllReadyH.nil)
            · (try simp only [sq])
              go_simp
              go_at_call 36
              refine (rword { data := #[115, 116, 114, 101, 97, 109] } (by decide) vC (be8 n ++ be8 q) _ W3 (Bytes.of_own oC3) (by rw [List.length_append, hlen8]; omega) (by rw [List.length_append, hlen8, hlen8]; omega)).mono ?_
              rintro e W4 ⟨vM, rfl, oM0, hs4⟩
              have b4 : Below wr.heap.size wr W4 := b3.trans (hs4.mono b3.size)
              rw [sbytes_strw] at oM0
              have oM4 := oM0
              refine hKK.out _ _ (trivial) (fun hHeld => ?_)
              clear hKK KK
              (try simp only [sq])
              refine wpAnyH_ready (rs := [9, 10]) (by kernel_rfl) (by simp) ?_
              refine AllReadyH.cons rfl (fun KK hKK => ?_) (AllReadyH.cons rfl (fun KK hKK => ?_) AllReadyH.nil)
              · (try simp only [sq])
                have hby := Whole.bytes (Whole.below HK.out (HBW.out.trans (b4.mono HBW.out.size)) (by omega)) (by omega)
                rw [hK] at hby
                go_simp
                go_at_call 35
                refine (ref_hmac _ _ K (strw ++ (be8 n ++ be8 q)) _ _ W4 hby oM4.bytes (by omega) (by rw [List.length_append, List.length_append, hlen8, hlen8]; simp [strw])).mono ?_
                rintro e W5 ⟨rfl, hs5⟩
                rw [← HH.out]
                have b5 : Below wr.heap.size wr W5 := b4.trans (hs5.mono b4.size)
                refine hKK.out _ _ (trivial) (fun hHeld => ?_)
                clear hKK KK
                (try simp only [sq])
                refine wpAnyH_ready (rs := [10]) (by kernel_rfl) (by simp) ?_
                refine AllReadyH.cons rfl (fun KK hKK => ?_) AllReadyH.nil
                (try simp only [sq])
                obtain ⟨G, hG⟩ : ∃ g, g = W5.heap.size := ⟨_, rfl⟩
                obtain ⟨W6, hW6⟩ : ∃ x, x = W5.alloc (.cells ztr 28) := ⟨_, rfl⟩
                have hs6 : Below W5.heap.size W5 W6 := by rw [hW6]; exact (Below.refl _ _).alloc (Nat.le_refl _) _
                have zz6 : Whole W6 G 28 ztr := by rw [hW6, hG]; exact Whole.here _ _ _
                have hgl : wr.heap.size ≤ G := by rw [hG]; exact b5.size
                have b6 : Below wr.heap.size wr W6 := b5.trans (hs6.mono b5.size)
                have z6 := zz6
                go_simp
                rw [ztr_lit, ← hG, ← hW6]
                clear hW6 hG
                refine hKK.out _ _ (trivial) (fun hHeld => ?_)
                clear hKK KK
                (try simp only [sq])
                refine wpAnyH_ready (rs := [11]) (by kernel_rfl) (by simp) ?_
                refine AllReadyH.cons rfl (fun KK hKK => ?_) AllReadyH.nil
                (try simp only [sq])
                obtain ⟨W7, hW7⟩ : ∃ x, x = W6.setRow G (H.map byt).toArray := ⟨_, rfl⟩
                have t7 : TGRow W7 G H := by rw [hW7]; exact Whole.setRow z6 _
                have b7 : Below wr.heap.size wr W7 := by rw [hW7]; exact below_setRow b6 hgl _
                rw [if_pos (by kernel_rfl)]
                refine wp_store_row 28 _ _ rfl G _ rfl rfl 28 _ z6 (by rw [tagSize, tag_size hHl]) (by rw [ztr_size, tag_size hHl]) (tag_one _) ?_
                rw [← hW7]
                clear hW7
                refine hKK.out _ _ (trivial) (fun hHeld => ?_)
                clear hKK KK
                (try simp only [sq])
                refine wpAnyH_done (by kernel_rfl) ?_ _
                go_wp2_with fail
                go_meet
                exact ⟨G, rfl, t7, hgl, b7⟩
              · (try simp only [sq])
                obtain ⟨G, hG⟩ : ∃ g, g = W4.heap.size := ⟨_, rfl⟩
                obtain ⟨W5, hW5⟩ : ∃ x, x = W4.alloc (.cells ztr 28) := ⟨_, rfl⟩
                have hs5 : Below W4.heap.size W4 W5 := by rw [hW5]; exact (Below.refl _ _).alloc (Nat.le_refl _) _
                have zz5 : Whole W5 G 28 ztr := by rw [hW5, hG]; exact Whole.here _ _ _
                have hgl : wr.heap.size ≤ G := by rw [hG]; exact b4.size
                have b5 : Below wr.heap.size wr W5 := b4.trans (hs5.mono b4.size)
                have oM5 := OwnM.below oM4 hs5 (Nat.le_refl _)
                have z5 := zz5
                go_simp
                rw [ztr_lit, ← hG, ← hW5]
                clear hW5 hG
                refine hKK.out _ _ (trivial) (fun hHeld => ?_)
                clear hKK KK
                (try simp only [sq])
                refine wpAnyH_ready (rs := [9]) (by kernel_rfl) (by simp) ?_
                refine AllReadyH.cons rfl (fun KK hKK => ?_) AllReadyH.nil
                (try simp only [sq])
                have hby := Whole.bytes (Whole.below HK.out (HBW.out.trans (b5.mono HBW.out.size)) (by omega)) (by omega)
                rw [hK] at hby
                go_simp
                go_at_call 35
                refine (ref_hmac _ _ K (strw ++ (be8 n ++ be8 q)) _ _ W5 hby oM5.bytes (by omega) (by rw [List.length_append, List.length_append, hlen8, hlen8]; simp [strw])).mono ?_
                rintro e W6 ⟨rfl, hs6⟩
                rw [← HH.out]
                have b6 : Below wr.heap.size wr W6 := b5.trans (hs6.mono b5.size)
                have z6 : Whole W6 G 28 ztr := Whole.below z5 hs6 z5.lt
                refine hKK.out _ _ (trivial) (fun hHeld => ?_)
                clear hKK KK
                (try simp only [sq])
                refine wpAnyH_ready (rs := [11]) (by kernel_rfl) (by simp) ?_
                refine AllReadyH.cons rfl (fun KK hKK => ?_) AllReadyH.nil
                (try simp only [sq])
                obtain ⟨W7, hW7⟩ : ∃ x, x = W6.setRow G (H.map byt).toArray := ⟨_, rfl⟩
                have t7 : TGRow W7 G H := by rw [hW7]; exact Whole.setRow z6 _
                have b7 : Below wr.heap.size wr W7 := by rw [hW7]; exact below_setRow b6 hgl _
                rw [if_pos (by kernel_rfl)]
                refine wp_store_row 28 _ _ rfl G _ rfl rfl 28 _ z6 (by rw [tagSize, tag_size hHl]) (by rw [ztr_size, tag_size hHl]) (tag_one _) ?_
                rw [← hW7]
                clear hW7
                refine hKK.out _ _ (trivial) (fun hHeld => ?_)
                clear hKK KK
                (try simp only [sq])
                refine wpAnyH_done (by kernel_rfl) ?_ _
                go_wp2_with fail
                go_meet
                exact ⟨G, rfl, t7, hgl, b7⟩
            · (try simp only [sq])
              obtain ⟨G, hG⟩ : ∃ g, g = W3.heap.size := ⟨_, rfl⟩
              obtain ⟨W4, hW4⟩ : ∃ x, x = W3.alloc (.cells ztr 28) := ⟨_, rfl⟩
              have hs4 : Below W3.heap.size W3 W4 := by rw [hW4]; exact (Below.refl _ _).alloc (Nat.le_refl _) _
              have zz4 : Whole W4 G 28 ztr := by rw [hW4, hG]; exact Whole.here _ _ _
              have hgl : wr.heap.size ≤ G := by rw [hG]; exact b3.size
              have b4 : Below wr.heap.size wr W4 := b3.trans (hs4.mono b3.size)
              have oC4 := own_below oC3 hs4 (Nat.le_refl _)
              have z4 := zz4
              go_simp
              rw [ztr_lit, ← hG, ← hW4]
              clear hW4 hG
              refine hKK.out _ _ (trivial) (fun hHeld => ?_)
              clear hKK KK
              (try simp only [sq])
              refine wpAnyH_ready (rs := [8]) (by kernel_rfl) (by simp) ?_
              refine AllReadyH.cons rfl (fun KK hKK => ?_) AllReadyH.nil
              (try simp only [sq])
              go_simp
              go_at_call 36
              refine (rword { data := #[115, 116, 114, 101, 97, 109] } (by decide) vC (be8 n ++ be8 q) _ W4 (Bytes.of_own oC4) (by rw [List.length_append, hlen8]; omega) (by rw [List.length_append, hlen8, hlen8]; omega)).mono ?_
              rintro e W5 ⟨vM, rfl, oM0, hs5⟩
              have b5 : Below wr.heap.size wr W5 := b4.trans (hs5.mono b4.size)
              have z5 : Whole W5 G 28 ztr := Whole.below z4 hs5 z4.lt
              rw [sbytes_strw] at oM0
              have oM5 := oM0
              refine hKK.out _ _ (trivial) (fun hHeld => ?_)
              clear hKK KK
              (try simp only [sq])
              refine wpAnyH_ready (rs := [9]) (by kernel_rfl) (by simp) ?_
              refine AllReadyH.cons rfl (fun KK hKK => ?_) AllReadyH.nil
              (try simp only [sq])
              have hby := Whole.bytes (Whole.below HK.out (HBW.out.trans (b5.mono HBW.out.size)) (by omega)) (by omega)
              rw [hK] at hby
              go_simp
              go_at_call 35
              refine (ref_hmac _ _ K (strw ++ (be8 n ++ be8 q)) _ _ W5 hby oM5.bytes (by omega) (by rw [List.length_append, List.length_append, hlen8, hlen8]; simp [strw])).mono ?_
              rintro e W6 ⟨rfl, hs6⟩
              rw [← HH.out]
              have b6 : Below wr.heap.size wr W6 := b5.trans (hs6.mono b5.size)
              have z6 : Whole W6 G 28 ztr := Whole.below z5 hs6 z5.lt
              refine hKK.out _ _ (trivial) (fun hHeld => ?_)
              clear hKK KK
              (try simp only [sq])
              refine wpAnyH_ready (rs := [11]) (by kernel_rfl) (by simp) ?_
              refine AllReadyH.cons rfl (fun KK hKK => ?_) AllReadyH.nil
              (try simp only [sq])
              obtain ⟨W7, hW7⟩ : ∃ x, x = W6.setRow G (H.map byt).toArray := ⟨_, rfl⟩
              have t7 : TGRow W7 G H := by rw [hW7]; exact Whole.setRow z6 _
              have b7 : Below wr.heap.size wr W7 := by rw [hW7]; exact below_setRow b6 hgl _
              rw [if_pos (by kernel_rfl)]
              refine wp_store_row 28 _ _ rfl G _ rfl rfl 28 _ z6 (by rw [tagSize, tag_size hHl]) (by rw [ztr_size, tag_size hHl]) (tag_one _) ?_
              rw [← hW7]
              clear hW7
              refine hKK.out _ _ (trivial) (fun hHeld => ?_)
              clear hKK KK
              (try simp only [sq])
              refine wpAnyH_done (by kernel_rfl) ?_ _
              go_wp2_with fail
              go_meet
              exact ⟨G, rfl, t7, hgl, b7⟩
          · (try simp only [sq])
            obtain ⟨G, hG⟩ : ∃ g, g = W2.heap.size := ⟨_, rfl⟩
            obtain ⟨W3, hW3⟩ : ∃ x, x = W2.alloc (.cells ztr 28) := ⟨_, rfl⟩
            have hs3 : Below W2.heap.size W2 W3 := by rw [hW3]; exact (Below.refl _ _).alloc (Nat.le_refl _) _
            have zz3 : Whole W3 G 28 ztr := by rw [hW3, hG]; exact Whole.here _ _ _
            have hgl : wr.heap.size ≤ G := by rw [hG]; exact b2.size
            have b3 : Below wr.heap.size wr W3 := b2.trans (hs3.mono b2.size)
            have oA3 := own_below oA2 hs3 (Nat.le_refl _)
            have oB3 := own_below oB2 hs3 (Nat.le_refl _)
            have z3 := zz3
            go_simp
            rw [ztr_lit, ← hG, ← hW3]
            clear hW3 hG
            refine hKK.out _ _ (trivial) (fun hHeld => ?_)
            clear hKK KK
            (try simp only [sq])
            refine wpAnyH_ready (rs := [7]) (by kernel_rfl) (by simp) ?_
            refine AllReadyH.cons rfl (fun KK hKK => ?_) AllReadyH.nil
            refine step_append_seq (by rfl) _ _ 39 5 (.int .u8 0) 1 (by rfl) Tryd.underlying39 byteInfo byte_size (by omega) (by omega) bf_len bf_one wr.heap.size _ (be8 n) (by rfl) (own_bf oA3) _ AB (be8 q).length cB (be8 q) rfl (by rfl) (seq_bytes (Bytes.of_own oB3)) (by rw [hlen8, hlen8]; omega) b3.size ?_
            intro vC W4 oC0 hs4 hgn4
            have oC4 : Own W4 wr.heap.size vC (be8 n ++ be8 q) := bf_own oC0
            have b4 : Below wr.heap.size wr W4 := b3.trans hs4
            have z4 := own_off (own_bf oA3) z3 hgn4
            refine hKK.out _ _ (trivial) (fun hHeld => ?_)
            clear hKK KK
            (try simp only [sq])
            refine wpAnyH_ready (rs := [8]) (by kernel_rfl) (by simp) ?_
            refine AllReadyH.cons rfl (fun KK hKK => ?_) AllReadyH.nil
            (try simp only [sq])
            go_simp
            go_at_call 36
            refine (rword { data := #[115, 116, 114, 101, 97, 109] } (by decide) vC (be8 n ++ be8 q) _ W4 (Bytes.of_own oC4) (by rw [List.length_append, hlen8]; omega) (by rw [List.length_append, hlen8, hlen8]; omega)).mono ?_
            rintro e W5 ⟨vM, rfl, oM0, hs5⟩
            have b5 : Below wr.heap.size wr W5 := b4.trans (hs5.mono b4.size)
            have z5 : Whole W5 G 28 ztr := Whole.below z4 hs5 z4.lt
            rw [sbytes_strw] at oM0
            have oM5 := oM0
            refine hKK.out _ _ (trivial) (fun hHeld => ?_)
            clear hKK KK
            (try simp only [sq])
            refine wpAnyH_ready (rs := [9]) (by kernel_rfl) (by simp) ?_
            refine AllReadyH.cons rfl (fun KK hKK => ?_) AllReadyH.nil
            (try simp only [sq])
            have hby := Whole.bytes (Whole.below HK.out (HBW.out.trans (b5.mono HBW.out.size)) (by omega)) (by omega)
            rw [hK] at hby
            go_simp
            go_at_call 35
            refine (ref_hmac _ _ K (strw ++ (be8 n ++ be8 q)) _ _ W5 hby oM5.bytes (by omega) (by rw [List.length_append, List.length_append, hlen8, hlen8]; simp [strw])).mono ?_
            rintro e W6 ⟨rfl, hs6⟩
            rw [← HH.out]
            have b6 : Below wr.heap.size wr W6 := b5.trans (hs6.mono b5.size)
            have z6 : Whole W6 G 28 ztr := Whole.below z5 hs6 z5.lt
            refine hKK.out _ _ (trivial) (fun hHeld => ?_)
            clear hKK KK
            (try simp only [sq])
            refine wpAnyH_ready (rs := [11]) (by kernel_rfl) (by simp) ?_
            refine AllReadyH.cons rfl (fun KK hKK => ?_) AllReadyH.nil
            (try simp only [sq])
            obtain ⟨W7, hW7⟩ : ∃ x, x = W6.setRow G (H.map byt).toArray := ⟨_, rfl⟩
            have t7 : TGRow W7 G H := by rw [hW7]; exact Whole.setRow z6 _
            have b7 : Below wr.heap.size wr W7 := by rw [hW7]; exact below_setRow b6 hgl _
            rw [if_pos (by kernel_rfl)]
            refine wp_store_row 28 _ _ rfl G _ rfl rfl 28 _ z6 (by rw [tagSize, tag_size hHl]) (by rw [ztr_size, tag_size hHl]) (tag_one _) ?_
            rw [← hW7]
            clear hW7
            refine hKK.out _ _ (trivial) (fun hHeld => ?_)
            clear hKK KK
            (try simp only [sq])
            refine wpAnyH_done (by kernel_rfl) ?_ _
            go_wp2_with fail
            go_meet
            exact ⟨G, rfl, t7, hgl, b7⟩
        · (try simp only [sq])
          obtain ⟨G, hG⟩ : ∃ g, g = W1.heap.size := ⟨_, rfl⟩
          obtain ⟨W2, hW2⟩ : ∃ x, x = W1.alloc (.cells ztr 28) := ⟨_, rfl⟩
          have hs2 : Below W1.heap.size W1 W2 := by rw [hW2]; exact (Below.refl _ _).alloc (Nat.le_refl _) _
          have zz2 : Whole W2 G 28 ztr := by rw [hW2, hG]; exact Whole.here _ _ _
          have hgl : wr.heap.size ≤ G := by rw [hG]; exact b1.size
          have b2 : Below wr.heap.size wr W2 := b1.trans (hs2.mono b1.size)
          have oA2 := own_below oA1 hs2 (Nat.le_refl _)
          have z2 := zz2
          go_simp
          rw [ztr_lit, ← hG, ← hW2]
          clear hW2 hG
          refine hKK.out _ _ (trivial) (fun hHeld => ?_)
          clear hKK KK
          (try simp only [sq])
          refine wpAnyH_ready (rs := [6]) (by kernel_rfl) (by simp) ?_
          refine AllReadyH.cons rfl (fun KK hKK => ?_) AllReadyH.nil
          (try simp only [sq])
          go_simp
          go_at_call 33
          refine (eight q W2).mono ?_
          rintro e W3 ⟨vB, rfl, ho3, hs3⟩
          have b3 : Below wr.heap.size wr W3 := b2.trans (hs3.mono b2.size)
          have z3 : Whole W3 G 28 ztr := Whole.below z2 hs3 z2.lt
          have oA3 := own_below oA2 hs3 (Nat.le_refl _)
          have oB3 : Own W3 wr.heap.size vB (be8 q) := own_mono ho3 b2.size
          obtain ⟨AB, cB, rfl, -⟩ := id (Bytes.of_own oB3)
          refine hKK.out _ _ (trivial) (fun hHeld => ?_)
          clear hKK KK
          (try simp only [sq])
          refine wpAnyH_ready (rs := [7]) (by kernel_rfl) (by simp) ?_
          refine AllReadyH.cons rfl (fun KK hKK => ?_) AllReadyH.nil
          refine step_append_seq (by rfl) _ _ 39 5 (.int .u8 0) 1 (by rfl) Tryd.underlying39 byteInfo byte_size (by omega) (by omega) bf_len bf_one wr.heap.size _ (be8 n) (by rfl) (own_bf oA3) _ AB (be8 q).length cB (be8 q) rfl (by rfl) (seq_bytes (Bytes.of_own oB3)) (by rw [hlen8, hlen8]; omega) b3.size ?_
          intro vC W4 oC0 hs4 hgn4
          have oC4 : Own W4 wr.heap.size vC (be8 n ++ be8 q) := bf_own oC0
          have b4 : Below wr.heap.size wr W4 := b3.trans hs4
          have z4 := own_off (own_bf oA3) z3 hgn4
          refine hKK.out _ _ (trivial) (fun hHeld => ?_)
          clear hKK KK
          (try simp only [sq])
          refine wpAnyH_ready (rs := [8]) (by kernel_rfl) (by simp) ?_
          refine AllReadyH.cons rfl (fun KK hKK => ?_) AllReadyH.nil
          (try simp only [sq])
          go_simp
          go_at_call 36
          refine (rword { data := #[115, 116, 114, 101, 97, 109] } (by decide) vC (be8 n ++ be8 q) _ W4 (Bytes.of_own oC4) (by rw [List.length_append, hlen8]; omega) (by rw [List.length_append, hlen8, hlen8]; omega)).mono ?_
          rintro e W5 ⟨vM, rfl, oM0, hs5⟩
          have b5 : Below wr.heap.size wr W5 := b4.trans (hs5.mono b4.size)
          have z5 : Whole W5 G 28 ztr := Whole.below z4 hs5 z4.lt
          rw [sbytes_strw] at oM0
          have oM5 := oM0
          refine hKK.out _ _ (trivial) (fun hHeld => ?_)
          clear hKK KK
          (try simp only [sq])
          refine wpAnyH_ready (rs := [9]) (by kernel_rfl) (by simp) ?_
          refine AllReadyH.cons rfl (fun KK hKK => ?_) AllReadyH.nil
          (try simp only [sq])
          have hby := Whole.bytes (Whole.below HK.out (HBW.out.trans (b5.mono HBW.out.size)) (by omega)) (by omega)
          rw [hK] at hby
          go_simp
          go_at_call 35
          refine (ref_hmac _ _ K (strw ++ (be8 n ++ be8 q)) _ _ W5 hby oM5.bytes (by omega) (by rw [List.length_append, List.length_append, hlen8, hlen8]; simp [strw])).mono ?_
          rintro e W6 ⟨rfl, hs6⟩
          rw [← HH.out]
          have b6 : Below wr.heap.size wr W6 := b5.trans (hs6.mono b5.size)
          have z6 : Whole W6 G 28 ztr := Whole.below z5 hs6 z5.lt
          refine hKK.out _ _ (trivial) (fun hHeld => ?_)
          clear hKK KK
          (try simp only [sq])
          refine wpAnyH_ready (rs := [11]) (by kernel_rfl) (by simp) ?_
          refine AllReadyH.cons rfl (fun KK hKK => ?_) AllReadyH.nil
          (try simp only [sq])
          obtain ⟨W7, hW7⟩ : ∃ x, x = W6.setRow G (H.map byt).toArray := ⟨_, rfl⟩
          have t7 : TGRow W7 G H := by rw [hW7]; exact Whole.setRow z6 _
          have b7 : Below wr.heap.size wr W7 := by rw [hW7]; exact below_setRow b6 hgl _
          rw [if_pos (by kernel_rfl)]
          refine wp_store_row 28 _ _ rfl G _ rfl rfl 28 _ z6 (by rw [tagSize, tag_size hHl]) (by rw [ztr_size, tag_size hHl]) (tag_one _) ?_
          rw [← hW7]
          clear hW7
          refine hKK.out _ _ (trivial) (fun hHeld => ?_)
          clear hKK KK
          (try simp only [sq])
          refine wpAnyH_done (by kernel_rfl) ?_ _
          go_wp2_with fail
          go_meet
          exact ⟨G, rfl, t7, hgl, b7⟩
      · (try simp only [sq])
        obtain ⟨G, hG⟩ : ∃ g, g = W0.heap.size := ⟨_, rfl⟩
        obtain ⟨W1, hW1⟩ : ∃ x, x = W0.alloc (.cells ztr 28) := ⟨_, rfl⟩
        have hs1 : Below W0.heap.size W0 W1 := by rw [hW1]; exact (Below.refl _ _).alloc (Nat.le_refl _) _
        have zz1 : Whole W1 G 28 ztr := by rw [hW1, hG]; exact Whole.here _ _ _
        have hgl : wr.heap.size ≤ G := by rw [hG]; exact bU.size
        have b1 : Below wr.heap.size wr W1 := bU.trans (hs1.mono bU.size)
        have z1 := zz1
        go_simp
        rw [ztr_lit, ← hG, ← hW1]
        clear hW1 hG
        refine hKK.out _ _ (trivial) (fun hHeld => ?_)
        clear hKK KK
        (try simp only [sq])
        refine wpAnyH_ready (rs := [2]) (by kernel_rfl) (by simp) ?_
        refine AllReadyH.cons rfl (fun KK hKK => ?_) AllReadyH.nil
        (try simp only [sq])
        go_simp
        go_at_call 33
        refine (eight n W1).mono ?_
        rintro e W2 ⟨vA, rfl, ho2, hs2⟩
        have b2 : Below wr.heap.size wr W2 := b1.trans (hs2.mono b1.size)
        have z2 : Whole W2 G 28 ztr := Whole.below z1 hs2 z1.lt
        have oA2 : Own W2 wr.heap.size vA (be8 n) := own_mono ho2 b1.size
        refine hKK.out _ _ (trivial) (fun hHeld => ?_)
        clear hKK KK
        (try simp only [sq])
        refine wpAnyH_ready (rs := [6]) (by kernel_rfl) (by simp) ?_
        refine AllReadyH.cons rfl (fun KK hKK => ?_) AllReadyH.nil
        (try simp only [sq])
        go_simp
        go_at_call 33
        refine (eight q W2).mono ?_
        rintro e W3 ⟨vB, rfl, ho3, hs3⟩
        have b3 : Below wr.heap.size wr W3 := b2.trans (hs3.mono b2.size)
        have z3 : Whole W3 G 28 ztr := Whole.below z2 hs3 z2.lt
        have oA3 := own_below oA2 hs3 (Nat.le_refl _)
        have oB3 : Own W3 wr.heap.size vB (be8 q) := own_mono ho3 b2.size
        obtain ⟨AB, cB, rfl, -⟩ := id (Bytes.of_own oB3)
        refine hKK.out _ _ (trivial) (fun hHeld => ?_)
        clear hKK KK
        (try simp only [sq])
        refine wpAnyH_ready (rs := [7]) (by kernel_rfl) (by simp) ?_
        refine AllReadyH.cons rfl (fun KK hKK => ?_) AllReadyH.nil
        refine step_append_seq (by rfl) _ _ 39 5 (.int .u8 0) 1 (by rfl) Tryd.underlying39 byteInfo byte_size (by omega) (by omega) bf_len bf_one wr.heap.size _ (be8 n) (by rfl) (own_bf oA3) _ AB (be8 q).length cB (be8 q) rfl (by rfl) (seq_bytes (Bytes.of_own oB3)) (by rw [hlen8, hlen8]; omega) b3.size ?_
        intro vC W4 oC0 hs4 hgn4
        have oC4 : Own W4 wr.heap.size vC (be8 n ++ be8 q) := bf_own oC0
        have b4 : Below wr.heap.size wr W4 := b3.trans hs4
        have z4 := own_off (own_bf oA3) z3 hgn4
        refine hKK.out _ _ (trivial) (fun hHeld => ?_)
        clear hKK KK
        (try simp only [sq])
        refine wpAnyH_ready (rs := [8]) (by kernel_rfl) (by simp) ?_
        refine AllReadyH.cons rfl (fun KK hKK => ?_) AllReadyH.nil
        (try simp only [sq])
        go_simp
        go_at_call 36
        refine (rword { data := #[115, 116, 114, 101, 97, 109] } (by decide) vC (be8 n ++ be8 q) _ W4 (Bytes.of_own oC4) (by rw [List.length_append, hlen8]; omega) (by rw [List.length_append, hlen8, hlen8]; omega)).mono ?_
        rintro e W5 ⟨vM, rfl, oM0, hs5⟩
        have b5 : Below wr.heap.size wr W5 := b4.trans (hs5.mono b4.size)
        have z5 : Whole W5 G 28 ztr := Whole.below z4 hs5 z4.lt
        rw [sbytes_strw] at oM0
        have oM5 := oM0
        refine hKK.out _ _ (trivial) (fun hHeld => ?_)
        clear hKK KK
        (try simp only [sq])
        refine wpAnyH_ready (rs := [9]) (by kernel_rfl) (by simp) ?_
        refine AllReadyH.cons rfl (fun KK hKK => ?_) AllReadyH.nil
        (try simp only [sq])
        have hby := Whole.bytes (Whole.below HK.out (HBW.out.trans (b5.mono HBW.out.size)) (by omega)) (by omega)
        rw [hK] at hby
        go_simp
        go_at_call 35
        refine (ref_hmac _ _ K (strw ++ (be8 n ++ be8 q)) _ _ W5 hby oM5.bytes (by omega) (by rw [List.length_append, List.length_append, hlen8, hlen8]; simp [strw])).mono ?_
        rintro e W6 ⟨rfl, hs6⟩
        rw [← HH.out]
        have b6 : Below wr.heap.size wr W6 := b5.trans (hs6.mono b5.size)
        have z6 : Whole W6 G 28 ztr := Whole.below z5 hs6 z5.lt
        refine hKK.out _ _ (trivial) (fun hHeld => ?_)
        clear hKK KK
        (try simp only [sq])
        refine wpAnyH_ready (rs := [11]) (by kernel_rfl) (by simp) ?_
        refine AllReadyH.cons rfl (fun KK hKK => ?_) AllReadyH.nil
        (try simp only [sq])
        obtain ⟨W7, hW7⟩ : ∃ x, x = W6.setRow G (H.map byt).toArray := ⟨_, rfl⟩
        have t7 : TGRow W7 G H := by rw [hW7]; exact Whole.setRow z6 _
        have b7 : Below wr.heap.size wr W7 := by rw [hW7]; exact below_setRow b6 hgl _
        rw [if_pos (by kernel_rfl)]
        refine wp_store_row 28 _ _ rfl G _ rfl rfl 28 _ z6 (by rw [tagSize, tag_size hHl]) (by rw [ztr_size, tag_size hHl]) (tag_one _) ?_
        rw [← hW7]
        clear hW7
        refine hKK.out _ _ (trivial) (fun hHeld => ?_)
        clear hKK KK
        (try simp only [sq])
        refine wpAnyH_done (by kernel_rfl) ?_ _
        go_wp2_with fail
        go_meet
        exact ⟨G, rfl, t7, hgl, b7⟩
    case rest =>
      obtain ⟨g9, rfl, ht, hgl, hbc⟩ := hcut
      have hbd : Below wr.heap.size wr wc.drew := hbc.drew
      have htd : TGRow wc.drew g9 H := Whole.drew ht
      have oc : Own wc.drew p.heap.size (.slice A1 b.length c1) (stj K n b j) := own_below HO.out hbd (Nat.le_refl _)
      obtain ⟨g, cap, hve, hge, hcell, hfr, hset⟩ := own_cell oc j (by rw [stj_length]; exact hlt)
      have hsl := stj_length K n b j
      injection hve with hv1 hv2 hv3
      subst hv1 hv3
      clear hv2 hsl
      obtain ⟨r, hr⟩ : ∃ r, r = j % 32 := ⟨_, rfl⟩
      have e4 : (j : Int).tmod 32 = (r : Int) := by rw [Int.tmod_eq_emod_of_nonneg (by omega), hr]; omega
      have hr32 : (r : Int) < 32 := by omega
      have hr0 : (0 : Int) ≤ (r : Int) := by omega
      have hrn : r < H.length := by omega
      obtain ⟨X, hX⟩ : ∃ X, X = b.getD j 0 := ⟨_, rfl⟩
      obtain ⟨Y, hY⟩ : ∃ Y, Y = H.getD r 0 := ⟨_, rfl⟩
      rw [stj_get, ← hX] at hcell
      have hcy : wc.drew.cell? ⟨g9, r, none⟩ = some (byt Y) := by
        rw [Whole.cell htd, List.getElem?_toArray, List.getElem?_map, List.getElem?_eq_getElem hrn, hY, List.getD_eq_getElem?_getD, List.getElem?_eq_getElem hrn]
        rfl
      have hxor := bits_xor_bv X Y
      have hke : kstr K n j = Y := by unfold kstr; rw [hY, HH.out, HQ.out, hr]
      have hfin : Own (wc.drew.setCell ⟨g, j, none⟩ (byt (X ^^^ Y))) p.heap.size (.slice (some ⟨g, 0, none⟩) b.length c1) (stj K n b (j + 1)) := by
        have := hset (X ^^^ Y)
        rw [← stj_set K n b j hlt, hke, ← hX]
        exact this
      have hbf : Below p.heap.size p (wc.drew.setCell ⟨g, j, none⟩ (byt (X ^^^ Y))) := (HBW.out.trans (hbd.mono HBW.out.size)).setCell (p := ⟨g, j, none⟩) hge _
      have HF := Lib.hid (And.intro hfin hbf)
      have j0 : (0 : Int) ≤ (j : Int) := by omega
      have jb : (j : Int) < (b.length : Int) := by omega
      clear hset hfin hbf hbd htd oc ht hbc hX hY hke hr hrn hst e1 e2 e3 hge
      go_upto_region 6 with fail
      refine wp_region_G (fun W : World => W.cell? ⟨g, j, none⟩ = some (byt X) ∧ W.cell? ⟨g9, r, none⟩ = some (byt Y)) (fun _ => True) [12] (by kernel_rfl) ?_
      generalize wc.drew = W0 at hcell hfr hcy HF ⊢
      have hHeld : (fun W : World => W.cell? ⟨g, j, none⟩ = some (byt X) ∧ W.cell? ⟨g9, r, none⟩ = some (byt Y)) W0 := ⟨hcell, hcy⟩
      apply AnyG_pure (i := 0) rfl (by kernel_rfl) (by kernel_rfl) (by kernel_rfl) (by kernel_rfl)
      case hQ => exact fun _ _ _ h => h
      case hB => exact trivial
      case hC => exact .inr hHeld
      case hy => (refine Or.inl ⟨by rfl, ?_⟩; intro w hSw; (try go_split_ands); go_simp; (try with_reducible rfl))
      (try simp only [sq])
      apply AnyG_pure (i := 1) rfl (by kernel_rfl) (by kernel_rfl) (by kernel_rfl) (by kernel_rfl)
      case hQ => exact fun _ _ _ h => h
      case hB => exact trivial
      case hC => exact .inr hHeld
      case hy => (refine Or.inl ⟨by rfl, ?_⟩; intro w hSw; (try go_split_ands); go_simp; (try with_reducible rfl))
      (try simp only [sq])
      apply AnyG_pure (i := 2) rfl (by kernel_rfl) (by kernel_rfl) (by kernel_rfl) (by kernel_rfl)
      case hQ => exact fun _ _ _ h => h
      case hB => exact trivial
      case hC => exact .inr hHeld
      case hy => (refine Or.inl ⟨by rfl, ?_⟩; intro w hSw; (try go_split_ands); go_simp; (try with_reducible rfl))
      (try simp only [sq])
      apply AnyG_pure (i := 3) rfl (by kernel_rfl) (by kernel_rfl) (by kernel_rfl) (by kernel_rfl)
      case hQ => exact fun _ _ _ h => h
      case hB => exact trivial
      case hC => exact .inr hHeld
      case hy => (refine Or.inl ⟨by rfl, ?_⟩; intro w hSw; (try go_split_ands); go_simp; (try with_reducible rfl))
      (try simp only [sq])
      apply AnyG_pure (i := 4) rfl (by kernel_rfl) (by kernel_rfl) (by kernel_rfl) (by kernel_rfl)
      case hQ => exact fun _ _ _ h => h
      case hB => exact trivial
      case hC => exact .inr hHeld
      case hy => (refine Or.inl ⟨by rfl, ?_⟩; intro w hSw; (try go_split_ands); go_simp; (try with_reducible rfl))
      (try simp only [sq])
      apply AnyG_take (i := 5) rfl (by kernel_rfl) (by kernel_rfl) (by kernel_rfl) (by kernel_rfl)
      case hQ => exact fun _ _ _ h => h
      case hB => exact trivial
      case hC => exact hHeld
      case hy => (refine Or.inl ⟨by rfl, ?_⟩; intro w hSw; (try go_split_ands); go_simp; (try with_reducible rfl))
      (try simp only [sq])
      apply AnyG_pure (i := 6) rfl (by kernel_rfl) (by kernel_rfl) (by kernel_rfl) (by kernel_rfl)
      case hQ => exact fun _ _ _ h => h
      case hB => exact trivial
      case hC => exact .inr hHeld
      case hy => (refine Or.inl ⟨by rfl, ?_⟩; intro w hSw; (try go_split_ands); go_simp; (try with_reducible rfl))
      (try simp only [sq])
      apply AnyG_pure (i := 7) rfl (by kernel_rfl) (by kernel_rfl) (by kernel_rfl) (by kernel_rfl)
      case hQ => exact fun _ _ _ h => h
      case hB => exact trivial
      case hC => exact .inr hHeld
      case hy => (refine Or.inl ⟨by rfl, ?_⟩; intro w hSw; (try go_split_ands); go_simp; (try with_reducible rfl))
      (try simp only [sq])
      apply AnyG_pure (i := 8) rfl (by kernel_rfl) (by kernel_rfl) (by kernel_rfl) (by kernel_rfl)
      case hQ => exact fun _ _ _ h => h
      case hB => exact trivial
      case hC => exact .inr hHeld
      case hy => (refine Or.inl ⟨by rfl, ?_⟩; intro w hSw; (try go_split_ands); go_simp; (try with_reducible rfl))
      (try simp only [sq])
      apply AnyG_take (i := 9) rfl (by kernel_rfl) (by kernel_rfl) (by kernel_rfl) (by kernel_rfl)
      case hQ => exact fun _ _ _ h => h
      case hB => exact trivial
      case hC => exact hHeld
      case hy => (refine Or.inl ⟨by rfl, ?_⟩; intro w hSw; (try go_split_ands); go_simp; (try with_reducible rfl))
      (try simp only [sq])
      apply AnyG_pure (i := 10) rfl (by kernel_rfl) (by kernel_rfl) (by kernel_rfl) (by kernel_rfl)
      case hQ => exact fun _ _ _ h => h
      case hB => exact trivial
      case hC => exact .inr hHeld
      case hy => (refine Or.inl ⟨by rfl, ?_⟩; intro w hSw; (try go_split_ands); go_simp; (try with_reducible rfl))
      (try simp only [sq])
      apply AnyG_pure (i := 11) rfl (by kernel_rfl) (by kernel_rfl) (by kernel_rfl) (by kernel_rfl)
      case hQ => exact fun _ _ _ h => h
      case hB => exact trivial
      case hC => exact .inr hHeld
      case hy => (refine Or.inl ⟨by rfl, ?_⟩; intro w hSw; (try go_split_ands); go_simp; (try with_reducible rfl))
      (try simp only [sq])
      refine AnyG_one (i := 12) (by kernel_rfl) rfl (fun KK hKK => ?_)
      (try simp only [sq])
      go_simp
      obtain ⟨W5, hW5⟩ : ∃ x, x = W0.setCell ⟨g, j, none⟩ (byt (X ^^^ Y)) := ⟨_, rfl⟩
      rw [← hW5] at HF
      change KK _ (W0.setCell ⟨g, j, none⟩ (byt (X ^^^ Y)))
      rw [← hW5]
      clear hW5
      refine hKK.out _ _ (.inl (by kernel_rfl)) trivial ?_
      clear hKK KK
      (try simp only [sq])
      refine AnyG_done (by kernel_rfl) ?_ _
      clear hHeld hcell hcy hfr
      go_wp2_with fail
      go_roundw
      case rel => exact ⟨j + 1, by go_num, by omega, HF.out.1, HF.out.2⟩
      case measure => simp [intOf]; omega
end Go.Proofs.YteekdhcffiaaaaaDoor
namespace Go.Proofs.YteekdhcffiaaaaaDoor
open Go Go.RowKit Sh Leaf
namespace Sh

def boxw : List B8 := [98#8, 111#8, 120#8]
def boxh (k : List B8) (z : Int) (m : List B8) : List B8 := be8 z.toNat ++ strm k z.toNat m
def boxb (a : Alg) (k : List B8) (z : Int) (m : List B8) : List B8 :=
  if a.free = true then sym 98#8 ((a.boxes.length + 1 : Nat) : Int) ++ List.replicate (m.length + 8) 0 else boxh k z m ++ hmac k (boxw ++ boxh k z m)
def fndb (l : List Bx) (k : List B8) (z : Int) (m : List B8) : Option (List B8) := (l.find? fun e => decide (e.key = k ∧ e.nonce = z ∧ e.plain = m)).map (·.box)
def aSeal (a : Alg) (k : List B8) (z : Int) (m : List B8) : Alg × List B8 × Int :=
  if z < 0 ∨ 281474976710656 < z then (zalg, [], 1)
  else if 256 < m.length then (zalg, [], 2)
  else match fndb a.boxes k z m with
    | some b => (a, b, 0)
    | none => if 65536 ≤ a.boxes.length then (zalg, [], 2) else ({ a with boxes := a.boxes ++ [⟨k, z, m, boxb a k z m⟩] }, boxb a k z m, 0)
theorem fndb_drop {l : List Bx} {j : Nat} {e : Bx} (h : l[j]? = some e) (k : List B8) (z : Int) (m : List B8) : fndb (l.drop j) k z m = if e.key = k ∧ e.nonce = z ∧ e.plain = m then some e.box else fndb (l.drop (j + 1)) k z m := by
  have hj := (List.getElem?_eq_some_iff.1 h).1
  have he := (List.getElem?_eq_some_iff.1 h).2
  rw [List.drop_eq_getElem_cons hj, he]
  unfold fndb
  rw [List.find?_cons]
  by_cases h : e.key = k ∧ e.nonce = z ∧ e.plain = m
  · rw [if_pos h, decide_eq_true h]; rfl
  · rw [if_neg h, decide_eq_false h]
theorem fndb_end (l : List Bx) (k : List B8) (z : Int) (m : List B8) : fndb (l.drop l.length) k z m = none := by rw [List.drop_length]; rfl
theorem boxh_length (k : List B8) (z : Int) (m : List B8) : (boxh k z m).length = 8 + m.length := by unfold boxh; rw [List.length_append, be8_length, strm_length]
theorem boxb_length (a : Alg) (k : List B8) (z : Int) (m : List B8) : (boxb a k z m).length = m.length + 40 := by
  unfold boxb
  split
  · rw [List.length_append, sym_length, List.length_replicate]; omega
  · rw [List.length_append, boxh_length, hmac_length]; omega
end Sh
def SeR (w : World) (Q Q' : Nat → Prop) (e : Ending) (r : Alg × List B8 × Int) : Prop := ∃ x v, e = .returned (.tuple #[x, v, .int .i64 r.2.2]) ∧ AlV w Q x r.1 ∧ Bytes w Q' v r.2.1
theorem results_algb {w : World} {g : Nat} {fn : Func} {p q r : Tmp} (h : fn.results = #[.cell p 32, .tmp q, .tmp r]) (tmps : Array Value) {cs : Array Value} (hp : tmps.getD p undef = .pointer (some ⟨g, 0, none⟩)) (y : Value) (hq : tmps.getD q undef = y) (x : Value) (hr : tmps.getD r undef = x)
    (h8 : cs.size = 36) (hg : Whole w g 32 cs) : (results fn tmps).run Tryd.prog w = .ok (.tuple #[.agg cs, y, x]) w := by
  have hp' : tmps[p]?.getD undef = .pointer (some ⟨g, 0, none⟩) := by simpa using hp
  have hq' : tmps[q]?.getD undef = y := by simpa using hq
  have hr' : tmps[r]?.getD undef = x := by simpa using hr
  simp [results, h, hp', hq', hr', asAddr, run_loadVar_row w g 32 32 cs (0, 0) _ hg Tryd.underlying32 rfl (by rw [algSize, h8])]
theorem bytes_nil (w : World) (Q : Nat → Prop) : Bytes w Q (.slice none 0 0) [] := ⟨none, 0, rfl, Nat.le_refl _, by unfold maxLen; omega, fun _ => rfl, fun h => by cases h⟩
end Go.Proofs.YteekdhcffiaaaaaDoor
namespace Go.Proofs.YteekdhcffiaaaaaDoor
open Go Go.RowKit Sh Leaf

theorem bcl_size (X : BxM) : (bcl X).toArray.size = 35 := by rw [List.size_toArray, bcl_len]
theorem bcl_one1 (X : BxM) : (bcl X).toArray.all (·.oneCell') = true := all_oneCell_toArray (bcl_one X)
theorem bcl_sz (X : BxM) : (Tryd.prog.info? 72).map (·.size) = some (bcl X).length := by rw [boxSize, bcl_len]
theorem wpList_store_box {w : World} {g : Nat} {ops : Array Oper} {rest : List Oper} {o : Oper} {a : Act} {Q : Exit → Act → World → Prop} (hgd : o.guard = none) (x y : Operand) (ho : o.op = .store 72 x y)
    (hx : a.eval x = .pointer (some ⟨g, 0, none⟩)) {cs cs' : Array Value} (hy : a.eval y = .agg cs') (hg : Whole w g 72 cs) (h8 : cs.size = 35) (h8' : cs'.size = 35) (hone : cs'.all (·.oneCell') = true)
    (h : wpList Tryd.prog ops Q rest (a.put o.dst undef) (w.setRow g cs')) : wpList Tryd.prog ops Q (o :: rest) a w :=
  wpList_store_row hgd 72 x y ho g _ hx hy 72 _ hg (by rw [boxSize, h8']) (by rw [h8, h8']) hone h
namespace Sh
def fndo (l : List Bx) (k b : List B8) : Option (List B8) := (l.find? fun e => decide (e.key = k ∧ e.box = b)).map (·.plain)
theorem fndo_drop {l : List Bx} {j : Nat} {e : Bx} (h : l[j]? = some e) (k b : List B8) : fndo (l.drop j) k b = if e.key = k ∧ e.box = b then some e.plain else fndo (l.drop (j + 1)) k b := by
  have hj := (List.getElem?_eq_some_iff.1 h).1
  have he := (List.getElem?_eq_some_iff.1 h).2
  rw [List.drop_eq_getElem_cons hj, he]
  unfold fndo
  rw [List.find?_cons]
  by_cases h : e.key = k ∧ e.box = b
  · rw [if_pos h, decide_eq_true h]; rfl
  · rw [if_neg h, decide_eq_false h]
theorem fndo_end (l : List Bx) (k b : List B8) : fndo (l.drop l.length) k b = none := by rw [List.drop_length]; rfl
def aOpen (a : Alg) (k b : List B8) : List B8 × Int :=
  if a.free = true then (match fndo a.boxes k b with | some p => (p, 0) | none => ([], 14))
  else if b.length < 40 ∨ 296 < b.length then ([], 14)
  else if hmac k (boxw ++ b.take (b.length - 32)) = b.drop (b.length - 32) then (strm k (beval (b.take 8)) ((b.take (b.length - 32)).drop 8), 0) else ([], 14)
end Sh
end Go.Proofs.YteekdhcffiaaaaaDoor
namespace Go.Proofs.YteekdhcffiaaaaaDoor
open Go Go.RowKit Sh Leaf

def tmok (lo hi : Int) : Prop := 0 ≤ lo ∧ lo ≤ hi ∧ hi ≤ 150
instance (lo hi : Int) : Decidable (tmok lo hi) := by unfold tmok; infer_instance
def tjoin (K : List B8) (lo hi : Int) : List B8 := K ++ enc lo.toNat ++ enc hi.toNat
def tsplit (l : List B8) : Option (List B8 × Int × Int) :=
  if l.length < 32 then none
  else if (rd (l.drop 32)).2.2 ≠ 0 then none
  else if (rd ((l.drop 32).drop (rd (l.drop 32)).2.1)).2.2 ≠ 0 then none
  else if tmok ((rd (l.drop 32)).1 : Int) ((rd ((l.drop 32).drop (rd (l.drop 32)).2.1)).1 : Int) ∧ ((l.drop 32).drop (rd (l.drop 32)).2.1).drop (rd ((l.drop 32).drop (rd (l.drop 32)).2.1)).2.1 = [] then some (l.take 32, ((rd (l.drop 32)).1 : Int), ((rd ((l.drop 32).drop (rd (l.drop 32)).2.1)).1 : Int))
  else none
theorem tsplit_join {K : List B8} {lo hi : Int} (hK : K.length = 32) (h : tmok lo hi) : tsplit (tjoin K lo hi) = some (K, lo, hi) := by
  have h0 := h
  obtain ⟨h1, h2, h3⟩ := h
  have e1 : (tjoin K lo hi).drop 32 = enc lo.toNat ++ enc hi.toNat := by
    unfold tjoin
    rw [List.append_assoc, ← hK, List.drop_left]
  have e2 : (tjoin K lo hi).take 32 = K := by
    unfold tjoin
    rw [List.append_assoc, ← hK, List.take_left]
  have r1 := rd_enc lo.toNat (by omega) (enc hi.toNat)
  have r2 := rd_enc hi.toNat (by omega) []
  rw [List.append_nil] at r2
  have hl : ¬ (tjoin K lo hi).length < 32 := by
    unfold tjoin
    simp only [List.length_append]
    omega
  unfold tsplit
  rw [if_neg hl, e1, e2, r1]
  simp only [List.drop_left, r2, ne_eq, not_true_eq_false, if_false]
  rw [if_pos ⟨by rw [Int.toNat_of_nonneg h1, Int.toNat_of_nonneg (by omega)]; exact h0, by simp⟩, Int.toNat_of_nonneg h1, Int.toNat_of_nonneg (by omega)]
structure Blk where
  party : Int
  key : List B8
  ticket : List B8
abbrev zblk : Blk := ⟨0, ztag, []⟩
def pBlank (a : Alg) (party : Int) (key : List B8) (lo hi : Int) : Alg × Blk × Int :=
  if tmok lo hi ∧ 0 ≤ party ∧ party ≤ 7 then
    (if (aKey a).2.2 ≠ 0 then (zalg, zblk, (aKey a).2.2)
    else if (aSeal (aKey a).1 key (aKey a).1.fresh (tjoin (aKey a).2.1 lo hi)).2.2 ≠ 0 then (zalg, zblk, (aSeal (aKey a).1 key (aKey a).1.fresh (tjoin (aKey a).2.1 lo hi)).2.2)
    else ((aSeal (aKey a).1 key (aKey a).1.fresh (tjoin (aKey a).2.1 lo hi)).1, ⟨party, (aKey a).2.1, (aSeal (aKey a).1 key (aKey a).1.fresh (tjoin (aKey a).2.1 lo hi)).2.1⟩, 0))
  else (zalg, zblk, 1)
def pOpenT (a : Alg) (key t : List B8) : List B8 × (Int × Int) × Int :=
  if (aOpen a key t).2 ≠ 0 then (ztag, (0, 0), (aOpen a key t).2)
  else match tsplit (aOpen a key t).1 with
    | some (K, lo, hi) => (K, (lo, hi), 0)
    | none => (ztag, (0, 0), 5)
end Go.Proofs.YteekdhcffiaaaaaDoor
namespace Go.Proofs.YteekdhcffiaaaaaDoor
open Go Go.RowKit Sh Leaf

set_option linter.unusedSimpArgs false in
set_option linter.unusedVariables false in
set_option maxRecDepth 100000 in
set_option maxHeartbeats 4000000 in
theorem porec {w : World} {Q Q2 : Nat → Prop} {A B : Option Addr} {c d : Nat} {bs : List Bx} {K m : List B8} (hx : Bxs w Q A c bs) (hn : bs.length ≤ 1000) (hK : K.length = 32) (hm : Bytes w Q2 (.slice B m.length d) m) :
    Calls Tryd.prog 53 #[.slice A bs.length c, .agg (K.map byt).toArray, .slice B m.length d] w fun e w' => (∃ v, e = .returned (.tuple #[v, .int .i64 (if (fndo bs K m).isSome = true then 0 else 14)]) ∧ Bytes w' (fun g => w.heap.size ≤ g) v ((fndo bs K m).getD [])) ∧ Below w.heap.size w w' := by
  obtain ⟨R, hR⟩ : ∃ R, R = fndo bs K m := ⟨_, rfl⟩
  obtain ⟨p, hp⟩ : ∃ p, p = w.alloc (.cells (K.map byt).toArray 28) := ⟨_, rfl⟩
  have hb : Below w.heap.size w p := by rw [hp]; exact (Below.refl _ _).alloc (Nat.le_refl _) _
  have hsp : w.heap.size + 1 ≤ p.heap.size := by rw [hp]; simp
  have hk : TGRow p w.heap.size K := by rw [hp]; exact Whole.here _ _ _
  have hx0 := (hx.mono (Q' := fun b => b < w.heap.size) fun b hb _ => hb).below hb (Nat.le_refl _)
  have hm0 := (hm.mono (Q' := fun b => b < w.heap.size) fun b hb _ => hb).below hb (Nat.le_refl _)
  rw [← hR]
  have H1 : Hid (Below w.heap.size w p) := Lib.hid (hb)
  have H2 : Hid (TGRow p w.heap.size K) := Lib.hid (hk)
  have H3 : Hid (Bxs p (fun b => b < w.heap.size) A c bs) := Lib.hid (hx0)
  have H4 : Hid (Bytes p (fun b => b < w.heap.size) (.slice B m.length d) m) := Lib.hid (hm0)
  have HR := Lib.hid hR
  clear hR hb hk hx0 hm0 hx hm
  go_enter Tryd.func53, Tryd.ntmps53
  go_upto_region 1 with fail
  rw [← hp]
  clear hp
  go_wp2_with fail
  go_loopw [12] (fun v wr => ∃ j : Nat, v = .int .i64 j ∧ j ≤ bs.length ∧ fndo (bs.drop j) K m = R ∧ Below p.heap.size p wr) (fun v _ => bs.length - (intOf v).toNat)
  case atStart => exact ⟨0, rfl, by omega, by rw [List.drop_zero]; exact HR.out.symm, Below.refl _ _⟩
  case round =>
    obtain ⟨j, rfl, hj, hf, hbw⟩ := hrel
    have hswr : p.heap.size ≤ wr.heap.size := hbw.size
    have HF := Lib.hid hf
    clear hf
    have H5 : Hid (Below p.heap.size p p) := Lib.hid (Below.refl _ _)
    have H6 : Hid (Below w.heap.size w wr) := Lib.hid ((Below.trans H1.out (Below.mono hbw (Below.size H1.out))))
    have H7 : Hid (TGRow wr w.heap.size K) := Lib.hid ((Whole.below H2.out hbw (Whole.lt H2.out)))
    have H8 : Hid (Bxs wr (fun b => b < w.heap.size) A c bs) := Lib.hid ((Bxs.below H3.out hbw (Nat.le_refl _)))
    have H9 : Hid (Bytes wr (fun b => b < w.heap.size) (.slice B m.length d) m) := Lib.hid ((Bytes.below H4.out hbw (Nat.le_refl _)))
    have H10 : Hid (Below p.heap.size p wr) := Lib.hid ((Below.trans H5.out (Below.mono hbw (Below.size H5.out))))
    clear H1 H2 H3 H4 H5
    clear hbw
    by_cases hlt : j < bs.length
    case neg =>
      obtain rfl : j = bs.length := by omega
      have hRn : R = none := by have := HF.out; rw [fndo_end] at this; exact this.symm
      subst hRn
      have HG := Lib.hid H6.out
      go_wp2_with fail
      go_ret2
      exact ⟨⟨_, rfl, bytes_nil _ _⟩, HG.out⟩
    case pos =>
      obtain ⟨e, he⟩ : ∃ e, bs[j]? = some e := ⟨_, List.getElem?_eq_getElem hlt⟩
      obtain ⟨g0, o, D, dc, D2, dc2, hA, hq, hg, hrow, -, hby, hbx, hk32, hnc, hp5, hb5⟩ := Bxs.get H8.out j e he
      obtain ⟨E, hE⟩ : ∃ E : BxM, E = ⟨e, D, dc, D2, dc2⟩ := ⟨_, rfl⟩
      rw [← hE] at hrow
      have hEe : E.e = e := by rw [hE]
      have HX := Lib.hid (And.intro hEe (And.intro (show E.A = D by rw [hE]) (And.intro (show E.c = dc by rw [hE]) (And.intro (show E.A2 = D2 by rw [hE]) (show E.c2 = dc2 by rw [hE])))))
      have HD := Lib.hid (fndo_drop he K m)
      have j0 : (0 : Int) ≤ (j : Int) := by omega
      have jn : (j : Int) < (bs.length : Int) := by omega
      have HA := Lib.hid hA
      subst hA
      have H11 : Hid (Bytes wr (fun b => b < w.heap.size) (.slice D e.plain.length dc) e.plain) := Lib.hid (hby)
      have H12 : Hid (Bytes wr (fun b => b < w.heap.size) (.slice D2 e.box.length dc2) e.box) := Lib.hid (hbx)
      clear hE hEe he hby hbx hq
      have ks0 : ∀ z0 : Array Value, Whole (wr.alloc (.cells z0 72)) wr.heap.size 72 z0 := fun _ => (Whole.here _ _ _)
      go_upto_region 4 with (first
        | (with_reducible refine wpList_load_mid rfl 72 _ rfl g0 (o + j * 35) rfl _ _ hrow Tryd.underlying72 rfl (bcl_sz _) ?_)
        | (with_reducible refine wpList_store_box rfl _ _ rfl (g := wr.heap.size) rfl rfl (ks0 _) rfl (bcl_size _) (bcl_one1 _) ?_))
      clear ks0
      rw [zbr_lit]
      obtain ⟨q1, hq⟩ : ∃ q, q = ((wr.alloc (.cells zbr 72)).setRow wr.heap.size (bcl E).toArray) := ⟨_, rfl⟩
      rw [← hq]
      have hsq1 : wr.heap.size + 1 ≤ q1.heap.size := by rw [hq]; simp
      have H13 : Hid (Below w.heap.size w q1) := Lib.hid (by rw [hq]; exact (below_setRow (Below.trans H6.out (Below.mono (Below.alloc (Below.refl _ _) (Nat.le_refl _) _) (Below.size H6.out))) (by omega) _))
      have H14 : Hid (TGRow q1 w.heap.size K) := Lib.hid (by rw [hq]; exact (Whole.setRow_far (Whole.below H7.out (Below.alloc (Below.refl _ _) (Nat.le_refl _) _) (Whole.lt H7.out)) (by omega) _))
      have H15 : Hid (Bytes q1 (fun b => b < w.heap.size) (.slice B m.length d) m) := Lib.hid (by rw [hq]; exact (Bytes.keep (Bytes.below H9.out (Below.alloc (Below.refl _ _) (Nat.le_refl _) _) (Nat.le_refl _)) fun b _ hq => setRow_other _ _ _ _ (by omega)))
      have H16 : Hid (Below p.heap.size p q1) := Lib.hid (by rw [hq]; exact (below_setRow (Below.trans H10.out (Below.mono (Below.alloc (Below.refl _ _) (Nat.le_refl _) _) (Below.size H10.out))) (by omega) _))
      have H17 : Hid (Bytes q1 (fun b => b < w.heap.size) (.slice D e.plain.length dc) e.plain) := Lib.hid (by rw [hq]; exact (Bytes.keep (Bytes.below H11.out (Below.alloc (Below.refl _ _) (Nat.le_refl _) _) (Nat.le_refl _)) fun b _ hq => setRow_other _ _ _ _ (by omega)))
      have H18 : Hid (Bytes q1 (fun b => b < w.heap.size) (.slice D2 e.box.length dc2) e.box) := Lib.hid (by rw [hq]; exact (Bytes.keep (Bytes.below H12.out (Below.alloc (Below.refl _ _) (Nat.le_refl _) _) (Nat.le_refl _)) fun b _ hq => setRow_other _ _ _ _ (by omega)))
      clear H6 H7 H9 H10 H11 H12
      have H19 : Hid (Whole q1 wr.heap.size 72 (bcl E).toArray) := Lib.hid (by rw [hq]; exact (Whole.setRow (Whole.here _ _ _) _))
      clear hq
      have hEk : E.e.key.length = 32 := by rw [HX.out.1]; exact hk32
      have r1 : q1.rangeAt wr.heap.size 0 (e.key.map byt) := by have := BXRow.key H19.out hEk; rw [HX.out.1] at this; exact this
      have r2 := BXRow.cells H19.out
      rw [HX.out.1, HX.out.2.1, HX.out.2.2.1, HX.out.2.2.2.1, HX.out.2.2.2.2] at r2
      obtain ⟨r32, r33, r34⟩ := r2
      have kq := fun W => run_eql_tag hk32 hK W
      have hkT := H14.out
      by_cases hke : e.key = K
      case neg =>
        rw [decide_eq_false hke] at kq
        have HKE := Lib.hid hke
        clear hke
        have hnx : fndo (bs.drop (j + 1)) K m = R := by have := HF.out; rw [HD.out, if_neg (fun h => HKE.out h.1)] at this; exact this
        have HNX := Lib.hid hnx
        clear hnx
        go_wp2_with (first
          | (with_reducible refine wpList_load_mid rfl 28 _ rfl wr.heap.size 0 rfl _ _ r1 Tryd.underlying28 rfl (by rw [tagSize, List.length_map, hk32]) ?_)
          | (with_reducible refine wpList_load_tag rfl _ rfl rfl hkT (tag_size hK) ?_))
        clear kq r1 r32 r33 r34 hkT
        go_roundw
        case rel => exact ⟨j + 1, by go_num, by omega, HNX.out, H16.out⟩
        case measure => simp [intOf]; omega
      case pos =>
        rw [decide_eq_true hke] at kq
        have HKE := Lib.hid hke
        clear hke
        obtain ⟨D3, hD3⟩ : ∃ D, decide (e.box = m) = D := ⟨_, rfl⟩
        have hcl := bequal D2 B dc2 d e.box m _ _ q1 H18.out H15.out
        rw [hD3] at hcl
        go_wp2_with (first
          | (with_reducible refine wpList_load_mid rfl 28 _ rfl wr.heap.size 0 rfl _ _ r1 Tryd.underlying28 rfl (by rw [tagSize, List.length_map, hk32]) ?_)
          | (with_reducible refine wpList_load_tag rfl _ rfl rfl hkT (tag_size hK) ?_))
        refine hcl.mono ?_
        rintro e1 w1 ⟨rfl, hww⟩
        replace hww := hww.symm
        subst hww
        clear hcl kq r1 hkT
        cases D3
        case false =>
          have hne := of_decide_eq_false hD3
          clear hD3
          have hnx : fndo (bs.drop (j + 1)) K m = R := by have := HF.out; rw [HD.out, if_neg (fun h => hne h.2)] at this; exact this
          have HNX := Lib.hid hnx
          clear hnx hne
          go_wp2_with fail
          clear r32 r33 r34
          go_roundw
          case rel => exact ⟨j + 1, by go_num, by omega, HNX.out, H16.out⟩
          case measure => simp [intOf]; omega
        case true =>
          have heq := of_decide_eq_true hD3
          clear hD3
          have hRs : R = some e.plain := by have := HF.out; rw [HD.out, if_pos ⟨HKE.out, heq⟩] at this; exact this.symm
          clear heq
          subst hRs
          have hcl := clone (.slice D e.plain.length dc) e.plain _ q1 H17.out (by omega)
          go_wp2_with fail
          refine hcl.mono ?_
          rintro e1 w2 ⟨v2, rfl, hv2, hb2⟩
          clear hcl r32 r33 r34
          have HG := Lib.hid (Below.trans H13.out (Below.mono hb2 (Below.size H13.out)))
          have HV := Lib.hid (hv2.mono (Q' := fun g => w.heap.size ≤ g) fun b _ hq => by have := Below.size H13.out; omega)
          clear hv2 hb2
          go_wp2_with fail
          go_ret2
          exact ⟨⟨_, rfl, HV.out⟩, HG.out⟩
end Go.Proofs.YteekdhcffiaaaaaDoor
namespace Go.Proofs.YteekdhcffiaaaaaDoor
open Go Go.RowKit Sh Leaf

namespace Sh
def cOpen (k b : List B8) : List B8 × Int :=
  if b.length < 40 ∨ 296 < b.length then ([], 14)
  else if hmac k (boxw ++ b.take (b.length - 32)) = b.drop (b.length - 32) then (strm k (beval (b.take 8)) ((b.take (b.length - 32)).drop 8), 0) else ([], 14)
theorem aOpen_free {a : Alg} {k b : List B8} (h : a.free = true) : aOpen a k b = ((fndo a.boxes k b).getD [], if (fndo a.boxes k b).isSome = true then 0 else 14) := by
  unfold aOpen
  rw [if_pos h]
  cases fndo a.boxes k b <;> rfl
theorem aOpen_comp {a : Alg} {k b : List B8} (h : a.free = false) : aOpen a k b = cOpen k b := by
  unfold aOpen cOpen
  rw [if_neg (by rw [h]; simp)]
end Sh
def OpR (w : World) (Q : Nat → Prop) (e : Ending) (r : List B8 × Int) : Prop := ∃ v, e = .returned (.tuple #[v, .int .i64 r.2]) ∧ Bytes w Q v r.1
def OpenC (K m : List B8) : Prop := ∀ (W : World) (Q2 : Nat → Prop) (B : Option Addr) (d : Nat), Bytes W Q2 (.slice B m.length d) m → Tables W →
  Calls Tryd.prog 54 #[.agg (K.map byt).toArray, .slice B m.length d] W fun e w' => OpR w' (fun g => W.heap.size ≤ g) e (cOpen K m) ∧ Below W.heap.size W w'
set_option linter.unusedSimpArgs false in
set_option linter.unusedVariables false in
set_option maxRecDepth 100000 in
set_option maxHeartbeats 4000000 in
theorem popen {w : World} {Q Q2 : Nat → Prop} {x : Value} {B : Option Addr} {d : Nat} {a : Alg} {K m : List B8} (hx : AlV w Q x a) (hK : K.length = 32) (hm : Bytes w Q2 (.slice B m.length d) m) (hT : Tables w) (hC : a.free = false → OpenC K m) :
    Calls Tryd.prog 37 #[x, .agg (K.map byt).toArray, .slice B m.length d] w fun e w' => OpR w' (fun g => w.heap.size ≤ g) e (aOpen a K m) ∧ Below w.heap.size w w' := by
  obtain ⟨Am, cm, Ab, cb, rfl, -, hBx, hA⟩ := hx
  obtain ⟨p, hp⟩ : ∃ p, p = (w.alloc (.cells (alc a.free a.seed a.fresh (.slice Am a.macs.length cm) (.slice Ab a.boxes.length cb)) 32)).alloc (.cells (K.map byt).toArray 28) := ⟨_, rfl⟩
  have hr : ALRow p w.heap.size a.free a.seed a.fresh (.slice Am a.macs.length cm) (.slice Ab a.boxes.length cb) := by rw [hp]; exact (Whole.here _ _ _).alloc _
  have hk : TGRow p (w.heap.size + 1) K := by rw [hp]; exact Whole.at_ _ _ _ _ (by simp)
  have hb : Below w.heap.size w p := by rw [hp]; exact ((Below.refl _ _).alloc (Nat.le_refl _) _).alloc (by simp) _
  have hsp : w.heap.size + 2 ≤ p.heap.size := by rw [hp]; simp
  obtain ⟨c0, c33, c34, c35⟩ := ALRow.cells hr
  obtain ⟨f, hf⟩ : ∃ f, f = a.free := ⟨_, rfl⟩
  have HB := Lib.hid hb
  have HK := Lib.hid hk
  obtain ⟨R, hR⟩ : ∃ R, R = aOpen a K m := ⟨_, rfl⟩
  rw [← hR]
  have hBp := hBx.below hb (Nat.le_refl _)
  have hmp := hm.below hb (Nat.le_refl _)
  have hTp := hT.below (Nat.le_refl _) hb
  have han := hA.boxes
  rw [← hf] at c0
  cases f
  · skip
    have hRR : R = cOpen K m := by rw [hR]; exact aOpen_comp hf.symm
    have hcl := hC hf.symm p _ B d hmp hTp
    rw [← hRR] at hcl
    clear hR hRR hr hk hb c33 c34 c35 hBx hBp hmp hTp hm hT hC hA han hf
    go_enter Tryd.func37, Tryd.ntmps37
    go_upto_region 1 with fail
    rw [← hp]
    clear hp
    go_wp2_with (with_reducible refine wpList_load_tag rfl _ rfl rfl HK.out (tag_size hK) ?_)
    refine hcl.mono ?_
    rintro e u ⟨⟨v, rfl, hv⟩, hbu⟩
    clear hcl c0
    have HG := Lib.hid (HB.out.trans (hbu.mono (Below.size HB.out)))
    have HV := Lib.hid (hv.mono (Q' := fun g => w.heap.size ≤ g) fun q _ hq => by omega)
    clear hv hbu
    go_wp2_with fail
    go_ret2
    exact ⟨⟨_, rfl, HV.out⟩, HG.out⟩
  · skip
    have hRR : R = ((fndo a.boxes K m).getD [], if (fndo a.boxes K m).isSome = true then 0 else 14) := by rw [hR]; exact aOpen_free hf.symm
    have hcl := porec hBp han hK hmp
    obtain ⟨R1, hR1⟩ : ∃ r : Int, r = (if (fndo a.boxes K m).isSome = true then 0 else 14) := ⟨_, rfl⟩
    obtain ⟨R0, hR0⟩ : ∃ r, r = (fndo a.boxes K m).getD [] := ⟨_, rfl⟩
    rw [← hR1, ← hR0] at hcl hRR
    subst hRR
    clear hR hR0 hR1 hr hk hb c33 c34 hBx hBp hmp hTp hm hT hC hA han hf
    go_enter Tryd.func37, Tryd.ntmps37
    go_upto_region 1 with fail
    rw [← hp]
    clear hp
    go_wp2_with (with_reducible refine wpList_load_tag rfl _ rfl rfl HK.out (tag_size hK) ?_)
    refine hcl.mono ?_
    rintro e u ⟨⟨v, rfl, hv⟩, hbu⟩
    clear hcl c0 c35
    have HG := Lib.hid (HB.out.trans (hbu.mono (Below.size HB.out)))
    have HV := Lib.hid (hv.mono (Q' := fun g => w.heap.size ≤ g) fun q _ hq => by omega)
    clear hv hbu
    go_wp2_with fail
    go_ret2
    exact ⟨⟨_, rfl, HV.out⟩, HG.out⟩
end Go.Proofs.YteekdhcffiaaaaaDoor
namespace Go.Proofs.YteekdhcffiaaaaaDoor
open Go Go.RowKit Sh Leaf

set_option linter.unusedSimpArgs false in
set_option linter.unusedVariables false in
set_option maxRecDepth 100000 in
set_option maxHeartbeats 4000000 in
theorem prec {w : World} {Q Q2 : Nat → Prop} {A B : Option Addr} {c d : Nat} {bs : List Bx} {K m : List B8} {z : Int} (hx : Bxs w Q A c bs) (hn : bs.length ≤ 1000) (hK : K.length = 32) (hm : Bytes w Q2 (.slice B m.length d) m) :
    Calls Tryd.prog 46 #[.slice A bs.length c, .agg (K.map byt).toArray, .int .i64 z, .slice B m.length d] w fun e w' => (∃ v, e = .returned (.tuple #[v, .bool (fndb bs K z m).isSome]) ∧ Bytes w' (fun g => w.heap.size ≤ g) v ((fndb bs K z m).getD [])) ∧ Below w.heap.size w w' := by
  obtain ⟨R, hR⟩ : ∃ R, R = fndb bs K z m := ⟨_, rfl⟩
  obtain ⟨p, hp⟩ : ∃ p, p = w.alloc (.cells (K.map byt).toArray 28) := ⟨_, rfl⟩
  have hb : Below w.heap.size w p := by rw [hp]; exact (Below.refl _ _).alloc (Nat.le_refl _) _
  have hsp : w.heap.size + 1 ≤ p.heap.size := by rw [hp]; simp
  have hk : TGRow p w.heap.size K := by rw [hp]; exact Whole.here _ _ _
  have hx0 := (hx.mono (Q' := fun b => b < w.heap.size) fun b hb _ => hb).below hb (Nat.le_refl _)
  have hm0 := (hm.mono (Q' := fun b => b < w.heap.size) fun b hb _ => hb).below hb (Nat.le_refl _)
  rw [← hR]
  have H1 : Hid (Below w.heap.size w p) := Lib.hid (hb)
  have H2 : Hid (TGRow p w.heap.size K) := Lib.hid (hk)
  have H3 : Hid (Bxs p (fun b => b < w.heap.size) A c bs) := Lib.hid (hx0)
  have H4 : Hid (Bytes p (fun b => b < w.heap.size) (.slice B m.length d) m) := Lib.hid (hm0)
  have HR := Lib.hid hR
  clear hR hb hk hx0 hm0 hx hm
  go_enter Tryd.func46, Tryd.ntmps46
  go_upto_region 1 with fail
  rw [← hp]
  clear hp
  go_wp2_with fail
  go_loopw [14] (fun v wr => ∃ j : Nat, v = .int .i64 j ∧ j ≤ bs.length ∧ fndb (bs.drop j) K z m = R ∧ Below p.heap.size p wr) (fun v _ => bs.length - (intOf v).toNat)
  case atStart => exact ⟨0, rfl, by omega, by rw [List.drop_zero]; exact HR.out.symm, Below.refl _ _⟩
  case round =>
    obtain ⟨j, rfl, hj, hf, hbw⟩ := hrel
    have hswr : p.heap.size ≤ wr.heap.size := hbw.size
    have HF := Lib.hid hf
    clear hf
    have H5 : Hid (Below p.heap.size p p) := Lib.hid (Below.refl _ _)
    have H6 : Hid (Below w.heap.size w wr) := Lib.hid ((Below.trans H1.out (Below.mono hbw (Below.size H1.out))))
    have H7 : Hid (TGRow wr w.heap.size K) := Lib.hid ((Whole.below H2.out hbw (Whole.lt H2.out)))
    have H8 : Hid (Bxs wr (fun b => b < w.heap.size) A c bs) := Lib.hid ((Bxs.below H3.out hbw (Nat.le_refl _)))
    have H9 : Hid (Bytes wr (fun b => b < w.heap.size) (.slice B m.length d) m) := Lib.hid ((Bytes.below H4.out hbw (Nat.le_refl _)))
    have H10 : Hid (Below p.heap.size p wr) := Lib.hid ((Below.trans H5.out (Below.mono hbw (Below.size H5.out))))
    clear H1 H2 H3 H4 H5
    clear hbw
    by_cases hlt : j < bs.length
    case neg =>
      obtain rfl : j = bs.length := by omega
      have hRn : R = none := by have := HF.out; rw [fndb_end] at this; exact this.symm
      subst hRn
      have HG := Lib.hid H6.out
      go_wp2_with fail
      go_ret2
      exact ⟨⟨_, rfl, bytes_nil _ _⟩, HG.out⟩
    case pos =>
      obtain ⟨e, he⟩ : ∃ e, bs[j]? = some e := ⟨_, List.getElem?_eq_getElem hlt⟩
      obtain ⟨g0, o, D, dc, D2, dc2, hA, hq, hg, hrow, -, hby, hbx, hk32, hnc, hp5, hb5⟩ := Bxs.get H8.out j e he
      obtain ⟨E, hE⟩ : ∃ E : BxM, E = ⟨e, D, dc, D2, dc2⟩ := ⟨_, rfl⟩
      rw [← hE] at hrow
      have hEe : E.e = e := by rw [hE]
      have HX := Lib.hid (And.intro hEe (And.intro (show E.A = D by rw [hE]) (And.intro (show E.c = dc by rw [hE]) (And.intro (show E.A2 = D2 by rw [hE]) (show E.c2 = dc2 by rw [hE])))))
      have HD := Lib.hid (fndb_drop he K z m)
      have j0 : (0 : Int) ≤ (j : Int) := by omega
      have jn : (j : Int) < (bs.length : Int) := by omega
      have HA := Lib.hid hA
      subst hA
      have H11 : Hid (Bytes wr (fun b => b < w.heap.size) (.slice D e.plain.length dc) e.plain) := Lib.hid (hby)
      have H12 : Hid (Bytes wr (fun b => b < w.heap.size) (.slice D2 e.box.length dc2) e.box) := Lib.hid (hbx)
      clear hE hEe he hby hbx hq
      have ks0 : ∀ z0 : Array Value, Whole (wr.alloc (.cells z0 72)) wr.heap.size 72 z0 := fun _ => (Whole.here _ _ _)
      go_upto_region 4 with (first
        | (with_reducible refine wpList_load_mid rfl 72 _ rfl g0 (o + j * 35) rfl _ _ hrow Tryd.underlying72 rfl (bcl_sz _) ?_)
        | (with_reducible refine wpList_store_box rfl _ _ rfl (g := wr.heap.size) rfl rfl (ks0 _) rfl (bcl_size _) (bcl_one1 _) ?_))
      clear ks0
      rw [zbr_lit]
      obtain ⟨q1, hq⟩ : ∃ q, q = ((wr.alloc (.cells zbr 72)).setRow wr.heap.size (bcl E).toArray) := ⟨_, rfl⟩
      rw [← hq]
      have hsq1 : wr.heap.size + 1 ≤ q1.heap.size := by rw [hq]; simp
      have H13 : Hid (Below w.heap.size w q1) := Lib.hid (by rw [hq]; exact (below_setRow (Below.trans H6.out (Below.mono (Below.alloc (Below.refl _ _) (Nat.le_refl _) _) (Below.size H6.out))) (by omega) _))
      have H14 : Hid (TGRow q1 w.heap.size K) := Lib.hid (by rw [hq]; exact (Whole.setRow_far (Whole.below H7.out (Below.alloc (Below.refl _ _) (Nat.le_refl _) _) (Whole.lt H7.out)) (by omega) _))
      have H15 : Hid (Bytes q1 (fun b => b < w.heap.size) (.slice B m.length d) m) := Lib.hid (by rw [hq]; exact (Bytes.keep (Bytes.below H9.out (Below.alloc (Below.refl _ _) (Nat.le_refl _) _) (Nat.le_refl _)) fun b _ hq => setRow_other _ _ _ _ (by omega)))
      have H16 : Hid (Below p.heap.size p q1) := Lib.hid (by rw [hq]; exact (below_setRow (Below.trans H10.out (Below.mono (Below.alloc (Below.refl _ _) (Nat.le_refl _) _) (Below.size H10.out))) (by omega) _))
      have H17 : Hid (Bytes q1 (fun b => b < w.heap.size) (.slice D e.plain.length dc) e.plain) := Lib.hid (by rw [hq]; exact (Bytes.keep (Bytes.below H11.out (Below.alloc (Below.refl _ _) (Nat.le_refl _) _) (Nat.le_refl _)) fun b _ hq => setRow_other _ _ _ _ (by omega)))
      have H18 : Hid (Bytes q1 (fun b => b < w.heap.size) (.slice D2 e.box.length dc2) e.box) := Lib.hid (by rw [hq]; exact (Bytes.keep (Bytes.below H12.out (Below.alloc (Below.refl _ _) (Nat.le_refl _) _) (Nat.le_refl _)) fun b _ hq => setRow_other _ _ _ _ (by omega)))
      clear H6 H7 H9 H10 H11 H12
      have H19 : Hid (Whole q1 wr.heap.size 72 (bcl E).toArray) := Lib.hid (by rw [hq]; exact (Whole.setRow (Whole.here _ _ _) _))
      clear hq
      have hEk : E.e.key.length = 32 := by rw [HX.out.1]; exact hk32
      have r1 : q1.rangeAt wr.heap.size 0 (e.key.map byt) := by have := BXRow.key H19.out hEk; rw [HX.out.1] at this; exact this
      have r2 := BXRow.cells H19.out
      rw [HX.out.1, HX.out.2.1, HX.out.2.2.1, HX.out.2.2.2.1, HX.out.2.2.2.2] at r2
      obtain ⟨r32, r33, r34⟩ := r2
      have kq := fun W => run_eql_tag hk32 hK W
      have hkT := H14.out
      by_cases hke : e.key = K
      case neg =>
        rw [decide_eq_false hke] at kq
        have HKE := Lib.hid hke
        clear hke
        have hnx : fndb (bs.drop (j + 1)) K z m = R := by have := HF.out; rw [HD.out, if_neg (fun h => HKE.out h.1)] at this; exact this
        have HNX := Lib.hid hnx
        clear hnx
        go_wp2_with (first
          | (with_reducible refine wpList_load_mid rfl 28 _ rfl wr.heap.size 0 rfl _ _ r1 Tryd.underlying28 rfl (by rw [tagSize, List.length_map, hk32]) ?_)
          | (with_reducible refine wpList_load_tag rfl _ rfl rfl hkT (tag_size hK) ?_))
        clear kq r1 r32 r33 r34 hkT
        go_roundw
        case rel => exact ⟨j + 1, by go_num, by omega, HNX.out, H16.out⟩
        case measure => simp [intOf]; omega
      case pos =>
        rw [decide_eq_true hke] at kq
        have HKE := Lib.hid hke
        clear hke
        by_cases hze : e.nonce = z
        case neg =>
          have hzq : (e.nonce == z) = false := by simpa using hze
          have HZE := Lib.hid hze
          clear hze
          have hnx : fndb (bs.drop (j + 1)) K z m = R := by have := HF.out; rw [HD.out, if_neg (fun h => HZE.out h.2.1)] at this; exact this
          have HNX := Lib.hid hnx
          clear hnx
          go_wp2_with (first
            | (with_reducible refine wpList_load_mid rfl 28 _ rfl wr.heap.size 0 rfl _ _ r1 Tryd.underlying28 rfl (by rw [tagSize, List.length_map, hk32]) ?_)
            | (with_reducible refine wpList_load_tag rfl _ rfl rfl hkT (tag_size hK) ?_))
          clear kq r1 r32 r33 r34 hkT
          go_roundw
          case rel => exact ⟨j + 1, by go_num, by omega, HNX.out, H16.out⟩
          case measure => simp [intOf]; omega
        case pos =>
          have hzq : (e.nonce == z) = true := by simpa using hze
          have HZE := Lib.hid hze
          clear hze
          obtain ⟨D3, hD3⟩ : ∃ D, decide (e.plain = m) = D := ⟨_, rfl⟩
          have hcl := bequal D B dc d e.plain m _ _ q1 H17.out H15.out
          rw [hD3] at hcl
          go_wp2_with (first
            | (with_reducible refine wpList_load_mid rfl 28 _ rfl wr.heap.size 0 rfl _ _ r1 Tryd.underlying28 rfl (by rw [tagSize, List.length_map, hk32]) ?_)
            | (with_reducible refine wpList_load_tag rfl _ rfl rfl hkT (tag_size hK) ?_))
          refine hcl.mono ?_
          rintro e1 w1 ⟨rfl, hww⟩
          replace hww := hww.symm
          subst hww
          clear hcl kq r1 hkT
          cases D3
          case false =>
            have hne := of_decide_eq_false hD3
            clear hD3
            have hnx : fndb (bs.drop (j + 1)) K z m = R := by have := HF.out; rw [HD.out, if_neg (fun h => hne h.2.2)] at this; exact this
            have HNX := Lib.hid hnx
            clear hnx hne
            go_wp2_with fail
            clear r32 r33 r34
            go_roundw
            case rel => exact ⟨j + 1, by go_num, by omega, HNX.out, H16.out⟩
            case measure => simp [intOf]; omega
          case true =>
            have heq := of_decide_eq_true hD3
            clear hD3
            have hRs : R = some e.box := by have := HF.out; rw [HD.out, if_pos ⟨HKE.out, HZE.out, heq⟩] at this; exact this.symm
            clear heq
            subst hRs
            have hcl := clone (.slice D2 e.box.length dc2) e.box _ q1 H18.out (by omega)
            go_wp2_with fail
            refine hcl.mono ?_
            rintro e1 w2 ⟨v2, rfl, hv2, hb2⟩
            clear hcl r32 r33 r34
            have HG := Lib.hid (Below.trans H13.out (Below.mono hb2 (Below.size H13.out)))
            have HV := Lib.hid (hv2.mono (Q' := fun g => w.heap.size ≤ g) fun b _ hq => by have := Below.size H13.out; omega)
            clear hv2 hb2
            go_wp2_with fail
            go_ret2
            exact ⟨⟨_, rfl, HV.out⟩, HG.out⟩
end Go.Proofs.YteekdhcffiaaaaaDoor
namespace Go.Proofs.YteekdhcffiaaaaaDoor
open Go Go.RowKit Sh Leaf

def NewB (a : Alg) (K m : List B8) (z : Int) : Prop := ∀ (W : World) (Q Q2 : Nat → Prop) (x : Value) (B : Option Addr) (d : Nat), AlV W Q x a → Bytes W Q2 (.slice B m.length d) m → Tables W →
  Calls Tryd.prog 47 #[x, .agg (K.map byt).toArray, .int .i64 z, .slice B m.length d] W fun e w' => (∃ v, e = .returned v ∧ Bytes w' (fun g => W.heap.size ≤ g) v (boxb a K z m)) ∧ Below W.heap.size W w'
set_option linter.unusedSimpArgs false in
set_option linter.unusedVariables false in
set_option maxRecDepth 100000 in
set_option maxHeartbeats 4000000 in
theorem newb_free {a : Alg} {K m : List B8} {z : Int} (hfr : a.free = true) (hK : K.length = 32) (hml : m.length ≤ 100000) : NewB a K m z := by
  intro w Q Q2 x B d hx hm hT
  obtain ⟨Am, cm, Ab, cb, rfl, -, -, hA⟩ := hx
  obtain ⟨X, hX⟩ : ∃ X, X = boxb a K z m := ⟨_, rfl⟩
  rw [← hX]
  have hXX : X = sym 98#8 ((a.boxes.length + 1 : Nat) : Int) ++ List.replicate (m.length + 8) 0 := by rw [hX]; unfold boxb; rw [if_pos hfr]
  obtain ⟨p, hp⟩ : ∃ p, p = (w.alloc (.cells (alc a.free a.seed a.fresh (.slice Am a.macs.length cm) (.slice Ab a.boxes.length cb)) 32)).alloc (.cells (K.map byt).toArray 28) := ⟨_, rfl⟩
  have hr : ALRow p w.heap.size a.free a.seed a.fresh (.slice Am a.macs.length cm) (.slice Ab a.boxes.length cb) := by rw [hp]; exact (Whole.here _ _ _).alloc _
  have hb : Below w.heap.size w p := by rw [hp]; exact ((Below.refl _ _).alloc (Nat.le_refl _) _).alloc (by simp) _
  have hsp : w.heap.size + 2 ≤ p.heap.size := by rw [hp]; simp
  obtain ⟨c0, c33, c34, c35⟩ := ALRow.cells hr
  rw [hfr] at c0
  have hn1 : a.boxes.length ≤ 1000 := hA.boxes
  have HX := Lib.hid hXX
  have HB := Lib.hid hb
  obtain ⟨Y, hY⟩ : ∃ Y, Y = sym 98#8 ((a.boxes.length + 1 : Nat) : Int) := ⟨_, rfl⟩
  have hlY : Y.length = 32 := by rw [hY]; exact sym_length _ _
  have hsy : ∀ W, Calls Tryd.prog 44 #[.int .u8 98, .int .i64 ((a.boxes.length : Int) + 1)] W fun e w' => e = .returned (tagv Y) ∧ Below W.heap.size W w' := fun W => by
    have h := symbol 98#8 ((a.boxes.length + 1 : Nat) : Int) W
    rw [show bv 98#8 = 98 from bv_lit 98 (by omega), ← hY, show ((a.boxes.length + 1 : Nat) : Int) = (a.boxes.length : Int) + 1 by omega] at h
    exact h
  have HY := Lib.hid hY
  have HSY := Lib.hid hsy
  have hnw : IntKind.i64.wrap ((a.boxes.length : Int) + 1) = (a.boxes.length : Int) + 1 := by rw [IntKind.wrap_i64]; omega
  clear hX hXX hb hr hY hsy c33 c34 hm hA hfr
  go_enter Tryd.func47, Tryd.ntmps47
  go_upto_region 1 with fail
  rw [← hp]
  clear hp
  have H1 : Hid (Below w.heap.size w p) := Lib.hid (HB.out)
  clear HB
  have hcl := HSY.out p
  go_wp2_with fail
  refine hcl.mono ?_
  rintro e u1 ⟨rfl, hbu⟩
  clear hcl c0 c35
  have hsu1 : p.heap.size ≤ u1.heap.size := hbu.size
  have H2 : Hid (Below w.heap.size w u1) := Lib.hid ((Below.trans H1.out (Below.mono hbu (Below.size H1.out))))
  clear H1
  clear hbu
  have ks0 : ∀ z0 : Array Value, Whole (u1.alloc (.cells z0 28)) u1.heap.size 28 z0 := fun _ => (Whole.here _ _ _)
  go_upto_region 3 with (with_reducible refine wpList_store_tag rfl _ _ rfl (g := u1.heap.size) rfl rfl (ks0 _) rfl (tag_size hlY) (tag_one _) ?_)
  clear ks0
  rw [ztr_lit]
  obtain ⟨q1, hq⟩ : ∃ q, q = ((u1.alloc (.cells ztr 28)).setRow u1.heap.size (Y.map byt).toArray) := ⟨_, rfl⟩
  rw [← hq]
  have hsq1 : u1.heap.size + 1 ≤ q1.heap.size := by rw [hq]; simp
  have H3 : Hid (Below w.heap.size w q1) := Lib.hid (by rw [hq]; exact (below_setRow (Below.trans H2.out (Below.mono (Below.alloc (Below.refl _ _) (Nat.le_refl _) _) (Below.size H2.out))) (by omega) _))
  clear H2
  have H4 : Hid (TGRow q1 u1.heap.size Y) := Lib.hid (by rw [hq]; exact (Whole.setRow (Whole.here _ _ _) _))
  clear hq
  have hst := fun g W => run_sliceAt_whole (P := Tryd.prog) (t := 28) (e := 5) (n := 32) Tryd.underlying28 (by kernel_rfl) g W
  have hby := Whole.bytes H4.out (by omega)
  rw [hlY] at hby
  obtain ⟨m8, hm8⟩ : ∃ k, k = m.length + 8 := ⟨_, rfl⟩
  have hmk := make_bytes (m8 : Int) m8 rfl (by omega)
  have hwm : IntKind.i64.wrap ((m.length : Int) + 8) = (m8 : Int) := by rw [IntKind.wrap_i64]; omega
  have HM8 := Lib.hid hm8
  have hm8l : m8 ≤ 200000 := by omega
  clear hm8
  (try simp only [Act.put])
  refine wp_region_held_drew (S := fun _ => True) (by kernel_rfl) (trivial) (fun hHeld => ?_)
  apply wpAnyH_take (i := 0) rfl (by kernel_rfl) (by kernel_rfl) (by kernel_rfl)
  case hQ => exact fun _ _ _ h => h
  case hS => exact hHeld
  case hy => (refine Or.inl ⟨by rfl, ?_⟩; intro w hSw; (try go_split_ands); go_simp; (try with_reducible rfl))
  (try simp only [List.getElem_toArray, List.getElem_cons_zero, Act.put, List.setIfInBounds_toArray, List.set_cons_zero, List.set_cons_succ])
  apply wpAnyH_take (i := 1) rfl (by kernel_rfl) (by kernel_rfl) (by kernel_rfl)
  case hQ => exact fun _ _ _ h => h
  case hS => exact hHeld
  case hy => (refine Or.inl ⟨by rfl, ?_⟩; intro w hSw; (try go_split_ands); go_simp; (try with_reducible rfl))
  (try simp only [List.getElem_toArray, List.getElem_cons_succ, List.getElem_cons_zero, Act.put, List.setIfInBounds_toArray, List.set_cons_zero, List.set_cons_succ])
  apply wpAnyH_take (i := 2) rfl (by kernel_rfl) (by kernel_rfl) (by kernel_rfl)
  case hQ => exact fun _ _ _ h => h
  case hS => exact hHeld
  case hy => (refine Or.inl ⟨by rfl, ?_⟩; intro w hSw; (try go_split_ands); go_simp; (try with_reducible rfl))
  (try simp only [List.getElem_toArray, List.getElem_cons_succ, List.getElem_cons_zero, Act.put, List.setIfInBounds_toArray, List.set_cons_zero, List.set_cons_succ])
  apply wpAnyH_take (i := 3) rfl (by kernel_rfl) (by kernel_rfl) (by kernel_rfl)
  case hQ => exact fun _ _ _ h => h
  case hS => exact hHeld
  case hy => (refine Or.inl ⟨by rfl, ?_⟩; intro w hSw; (try go_split_ands); go_simp; (try with_reducible rfl))
  (try simp only [List.getElem_toArray, List.getElem_cons_succ, List.getElem_cons_zero, Act.put, List.setIfInBounds_toArray, List.set_cons_zero, List.set_cons_succ])
  refine wpAnyH_ready (rs := [4]) (by kernel_rfl) (by simp) ?_
  refine AllReadyH.cons rfl (fun KK hKK => ?_) AllReadyH.nil
  (try simp only [List.getElem_toArray, List.getElem_cons_succ, List.getElem_cons_zero])
  go_simp
  obtain ⟨V1, hV1⟩ : ∃ x, x = (q1.alloc (.cells (brow m8 fun _ => 0#8) 5)).drew := ⟨_, rfl⟩
  have hz : Bytes V1 (fun b => b = q1.heap.size) (.slice (some ⟨q1.heap.size, 0, none⟩) m8 m8) (List.replicate m8 (0 : B8)) := by rw [hV1]; exact made_bytes _ m8 (by omega)
  have hb1 : Below q1.heap.size q1 V1 := by rw [hV1]; exact ((Below.refl _ _).alloc (Nat.le_refl _) _).drew
  rw [← hV1]
  clear hV1
  refine hKK.out _ _ (trivial) (fun hHeld => ?_)
  clear hKK KK
  (try simp only [List.getElem_toArray, List.getElem_cons_succ, List.getElem_cons_zero, Act.put, List.setIfInBounds_toArray, List.set_cons_zero, List.set_cons_succ])
  refine wpAnyH_ready (rs := [5]) (by kernel_rfl) (by simp) ?_
  refine AllReadyH.cons rfl (fun KK hKK => ?_) AllReadyH.nil
  (try simp only [List.getElem_toArray, List.getElem_cons_succ, List.getElem_cons_zero])
  go_simp
  obtain ⟨V2, hV2⟩ : ∃ x, x = V1.alloc (.cells #[.slice (some ⟨u1.heap.size, 0, none⟩) 32 32, .slice (some ⟨q1.heap.size, 0, none⟩) m8 m8] 39) := ⟨_, rfl⟩
  have hb2 : Below V1.heap.size V1 V2 := by rw [hV2]; exact (Below.refl _ _).alloc (Nat.le_refl _) _
  have hrow : Whole V2 V1.heap.size 39 #[.slice (some ⟨u1.heap.size, 0, none⟩) 32 32, .slice (some ⟨q1.heap.size, 0, none⟩) m8 m8] := by rw [hV2]; exact Whole.here _ _ _
  rw [← hV2]
  clear hV2
  refine hKK.out _ _ (trivial) (fun hHeld => ?_)
  clear hKK KK
  (try simp only [List.getElem_toArray, List.getElem_cons_succ, List.getElem_cons_zero, Act.put, List.setIfInBounds_toArray, List.set_cons_zero, List.set_cons_succ])
  refine wpAnyH_ready (rs := [6]) (by kernel_rfl) (by simp) ?_
  refine AllReadyH.cons rfl (fun KK hKK => ?_) AllReadyH.nil
  (try simp only [List.getElem_toArray, List.getElem_cons_succ, List.getElem_cons_zero])
  go_simp
  go_at_call 65
  refine (concat V1.heap.size _ _ Y (List.replicate m8 0) _ _ V2 (hrow.cell 0) (hrow.cell 1) ((hby.below hb1 (Nat.le_refl _)).below hb2 (Nat.le_refl _)) (hz.below hb2 (Nat.le_refl _)) (by omega) (by rw [hlY, List.length_replicate]; omega)).mono ?_
  rintro e V3 ⟨v, rfl, hv, hb3⟩
  refine hKK.out _ _ (trivial) (fun hHeld => ?_)
  clear hKK KK
  (try simp only [List.getElem_toArray, List.getElem_cons_succ, List.getElem_cons_zero, Act.put, List.setIfInBounds_toArray, List.set_cons_zero, List.set_cons_succ])
  apply wpAnyH_take (i := 7) rfl (by kernel_rfl) (by kernel_rfl) (by kernel_rfl)
  case hQ => exact fun _ _ _ h => h
  case hS => exact hHeld
  case hy => (refine Or.inl ⟨by rfl, ?_⟩; intro w hSw; (try go_split_ands); go_simp; (try with_reducible rfl))
  (try simp only [List.getElem_toArray, List.getElem_cons_succ, List.getElem_cons_zero, Act.put, List.setIfInBounds_toArray, List.set_cons_zero, List.set_cons_succ])
  refine wpAnyH_done (by kernel_rfl) ?_ _
  have hbt := Below.trans hb1 (Below.mono (Below.trans hb2 (Below.mono hb3 (Below.size hb2))) (Below.size hb1))
  have HG := Lib.hid (Below.trans H3.out (Below.mono hbt (Below.size H3.out)))
  have hsz : w.heap.size ≤ V2.heap.size := by have h1 := Below.size H3.out; have h2 := Below.size hb1; have h3 := Below.size hb2; omega
  have HV := Lib.hid (hv.mono (Q' := fun g => w.heap.size ≤ g) fun b _ hq => by omega)
  rw [HY.out, HM8.out, ← HX.out] at HV
  clear hv hb1 hb2 hb3 hbt hz hrow hby hst hmk hwm
  go_wp2_with fail
  go_ret
  exact ⟨⟨_, rfl, HV.out⟩, HG.out⟩
end Go.Proofs.YteekdhcffiaaaaaDoor
namespace Go.Proofs.YteekdhcffiaaaaaDoor
open Go Go.RowKit Sh Leaf

theorem wpList_buildSlice_box {w : World} {ops : Array Oper} {rest : List Oper} {o : Oper} {a : Act} {Q : Exit → Act → World → Prop} (hg : o.guard = none) (x : Operand) (ho : o.op = .buildSlice 30 1 #[(0, x)])
    (N : Nat) (hN : w.heap.size = N) (dst : Option Tmp) (hdst : o.dst = dst) {X : BxM} (hx : a.eval x = .agg (bcl X).toArray)
    (h : wpList Tryd.prog ops Q rest (a.put dst (.slice (some ⟨N, 0, none⟩) 1 1)) (w.alloc (.cells (bcl X).toArray 72))) : wpList Tryd.prog ops Q (o :: rest) a w := by
  refine Great.wpList_buildSliceTo hg 30 72 1 _ ho N hN dst hdst Tryd.underlying30 _ ?_ h
  have e1 : (#[(0, x)].map fun (i, x) => (i, a.eval x)).toList = [(0, .agg (bcl X).toArray)] := by simp [hx]
  rw [e1]
  exact bs_box X
theorem wpList_load_box {w : World} {g : Nat} {ops : Array Oper} {rest : List Oper} {o : Oper} {a : Act} {Q : Exit → Act → World → Prop} (hgd : o.guard = none) (x : Operand) (ho : o.op = .load 72 x)
    (hx : a.eval x = .pointer (some ⟨g, 0, none⟩)) {cs : Array Value} (hg : Whole w g 72 cs) (h8 : cs.size = 35) (h : wpList Tryd.prog ops Q rest (a.put o.dst (.agg cs)) w) : wpList Tryd.prog ops Q (o :: rest) a w :=
  wpList_load_row hgd 72 x ho g hx 72 _ (0, 0) _ hg Tryd.underlying72 rfl (by rw [boxSize, h8]) h
def EntP (P : World) (K m X : List B8) (z : Int) (s : Value) (wx : World) : Prop := ∃ (G : Nat) (D D2 : Option Addr) (dc dc2 : Nat), s = .pointer (some ⟨G, 0, none⟩) ∧ Whole wx G 72 (bcl ⟨⟨K, z, m, X⟩, D, dc, D2, dc2⟩).toArray ∧
  Bytes wx (fun b => P.heap.size ≤ b) (.slice D m.length dc) m ∧ Bytes wx (fun b => P.heap.size ≤ b) (.slice D2 X.length dc2) X ∧ Below P.heap.size P wx
set_option linter.unusedSimpArgs false in
set_option linter.unusedVariables false in
set_option maxRecDepth 100000 in
set_option maxHeartbeats 8000000 in
theorem pseal {w : World} {Q Q2 : Nat → Prop} {x : Value} {B : Option Addr} {d : Nat} {a : Alg} {K m : List B8} {z : Int} (hx : AlV w Q x a) (hlen : a.boxes.length < 1000) (hK : K.length = 32) (hz : i64q z) (hm : Bytes w Q2 (.slice B m.length d) m) (hml : m.length ≤ 100000) (hT : Tables w) (hN : m.length ≤ 256 → 0 ≤ z → z ≤ 281474976710656 → NewB a K m z) :
    Calls Tryd.prog 28 #[x, .agg (K.map byt).toArray, .int .i64 z, .slice B m.length d] w fun e w' => SeR w' (fun g => Q g ∨ w.heap.size ≤ g) (fun g => w.heap.size ≤ g) e (aSeal a K z m) ∧ Below w.heap.size w w' := by
  have hx0 := hx
  obtain ⟨Am, cm, Ab, cb, rfl, hM, hBx, hA⟩ := hx
  obtain ⟨p, hp⟩ : ∃ p, p = ((w.alloc (.cells (alc a.free a.seed a.fresh (.slice Am a.macs.length cm) (.slice Ab a.boxes.length cb)) 32)).alloc (.cells (K.map byt).toArray 28)).alloc (.cells zar 32) := ⟨_, rfl⟩
  have hr : ALRow p w.heap.size a.free a.seed a.fresh (.slice Am a.macs.length cm) (.slice Ab a.boxes.length cb) := by rw [hp]; exact ((Whole.here _ _ _).alloc _).alloc _
  have hk : TGRow p (w.heap.size + 1) K := by rw [hp]; exact (Whole.at_ _ _ _ _ (by simp)).alloc _
  have h6 : Whole p (w.heap.size + 1 + 1) 32 zar := by rw [hp]; exact Whole.at_ _ _ _ _ (by simp)
  have hb : Below w.heap.size w p := by rw [hp]; exact (((Below.refl _ _).alloc (Nat.le_refl _) _).alloc (by simp) _).alloc (by simp; omega) _
  have hsp : w.heap.size + 1 + 1 + 1 ≤ p.heap.size := by have := h6.lt; omega
  obtain ⟨R, hR⟩ : ∃ R, R = aSeal a K z m := ⟨_, rfl⟩
  have hRR := hR
  unfold aSeal at hRR
  rw [← hR]
  have HRR := Lib.hid hRR
  have HAV := Lib.hid hx0
  have HMC := Lib.hid hM
  have HBX := Lib.hid hBx
  have HA := Lib.hid hA
  have HM := Lib.hid hm
  have HTT := Lib.hid hT
  have HNN := Lib.hid hN
  have HLEN := Lib.hid hlen
  have HZ := Lib.hid hz
  have H1 : Hid (Below w.heap.size w p) := Lib.hid (hb)
  have H2 : Hid (Whole p w.heap.size 32 (alc a.free a.seed a.fresh (.slice Am a.macs.length cm) (.slice Ab a.boxes.length cb))) := Lib.hid (hr)
  have H3 : Hid (TGRow p (w.heap.size + 1) K) := Lib.hid (hk)
  have H4 : Hid (Whole p (w.heap.size + 1 + 1) 32 zar) := Lib.hid (h6)
  clear hRR hR hx0 hM hBx hA hm hr hk h6 hb hT hN hz
  by_cases hz0 : z < 0
  · skip
    have HC : Hid (R = (zalg, [], 1)) := Lib.hid (by rw [HRR.out, if_pos (.inl hz0)])
    go_enter Tryd.func28, Tryd.ntmps28
    go_upto_region 1 with fail
    rw [zar_lit, ← hp]
    clear hp
    go_wp2_with (with_reducible refine wpList_store_alg rfl _ _ rfl (g := (w.heap.size + 1 + 1)) rfl rfl H4.out zar_size rfl (by with_unfolding_all rfl) ?_)
    rw [zar_lit]
    have e1 := Whole.setRow H4.out zar
    have HG := Lib.hid (below_setRow H1.out (g := (w.heap.size + 1 + 1)) (by omega) zar)
    refine bodyPost_ret (results_algb Tryd.results28 _ rfl _ rfl _ rfl zar_size e1) rfl ?_
    show SeR _ _ _ _ R ∧ _
    rw [HC.out]
    exact ⟨⟨_, _, rfl, alv_zero _ _, bytes_nil _ _⟩, HG.out⟩
  by_cases hz1 : 281474976710656 < z
  · skip
    have HC : Hid (R = (zalg, [], 1)) := Lib.hid (by rw [HRR.out, if_pos (.inr hz1)])
    go_enter Tryd.func28, Tryd.ntmps28
    go_upto_region 1 with fail
    rw [zar_lit, ← hp]
    clear hp
    go_wp2_with (with_reducible refine wpList_store_alg rfl _ _ rfl (g := (w.heap.size + 1 + 1)) rfl rfl H4.out zar_size rfl (by with_unfolding_all rfl) ?_)
    rw [zar_lit]
    have e1 := Whole.setRow H4.out zar
    have HG := Lib.hid (below_setRow H1.out (g := (w.heap.size + 1 + 1)) (by omega) zar)
    refine bodyPost_ret (results_algb Tryd.results28 _ rfl _ rfl _ rfl zar_size e1) rfl ?_
    show SeR _ _ _ _ R ∧ _
    rw [HC.out]
    exact ⟨⟨_, _, rfl, alv_zero _ _, bytes_nil _ _⟩, HG.out⟩
  by_cases hbig : 256 < m.length
  · skip
    have HC : Hid (R = (zalg, [], 2)) := Lib.hid (by rw [HRR.out, if_neg (by omega), if_pos hbig])
    have hb1 : (256 : Int) < (m.length : Int) := by omega
    clear hbig
    go_enter Tryd.func28, Tryd.ntmps28
    go_upto_region 1 with fail
    rw [zar_lit, ← hp]
    clear hp
    go_wp2_with (with_reducible refine wpList_store_alg rfl _ _ rfl (g := (w.heap.size + 1 + 1)) rfl rfl H4.out zar_size rfl (by with_unfolding_all rfl) ?_)
    rw [zar_lit]
    have e1 := Whole.setRow H4.out zar
    have HG := Lib.hid (below_setRow H1.out (g := (w.heap.size + 1 + 1)) (by omega) zar)
    refine bodyPost_ret (results_algb Tryd.results28 _ rfl _ rfl _ rfl zar_size e1) rfl ?_
    show SeR _ _ _ _ R ∧ _
    rw [HC.out]
    exact ⟨⟨_, _, rfl, alv_zero _ _, bytes_nil _ _⟩, HG.out⟩
  have hR3 := HRR.out
  rw [if_neg (by omega), if_neg hbig] at hR3
  have HNW := Lib.hid (HNN.out (by omega) (by omega) (by omega))
  have hb1 : ¬ (256 : Int) < (m.length : Int) := by omega
  clear hbig HRR HNN
  obtain ⟨f, hf⟩ : ∃ f, f = fndb a.boxes K z m := ⟨_, rfl⟩
  rw [← hf] at hR3
  have HR2 := Lib.hid hR3
  clear hR3
  have hcl := prec (z := z) (HBX.out.below H1.out (Nat.le_refl _)) HA.out.boxes hK (HM.out.below H1.out (Nat.le_refl _))
  rw [← hf] at hcl
  obtain ⟨c0, c33, c34, c35⟩ := ALRow.cells H2.out
  clear hf c0 c33 c34
  go_enter Tryd.func28, Tryd.ntmps28
  go_upto_region 1 with fail
  rw [zar_lit, ← hp]
  clear hp
  go_wp2_with (with_reducible refine wpList_load_tag rfl _ rfl rfl H3.out (tag_size hK) ?_)
  refine hcl.mono ?_
  rintro e u1 ⟨⟨v0, rfl, hv⟩, hbu⟩
  clear hcl c35 hz0 hz1
  have hsu1 : p.heap.size ≤ u1.heap.size := hbu.size
  have HV := Lib.hid hv
  have H5 : Hid (Below w.heap.size w u1) := Lib.hid ((Below.trans H1.out (Below.mono hbu (Below.size H1.out))))
  have H6 : Hid (Whole u1 w.heap.size 32 (alc a.free a.seed a.fresh (.slice Am a.macs.length cm) (.slice Ab a.boxes.length cb))) := Lib.hid ((Whole.below H2.out hbu (Whole.lt H2.out)))
  have H7 : Hid (TGRow u1 (w.heap.size + 1) K) := Lib.hid ((Whole.below H3.out hbu (Whole.lt H3.out)))
  have H8 : Hid (Whole u1 (w.heap.size + 1 + 1) 32 zar) := Lib.hid ((Whole.below H4.out hbu (Whole.lt H4.out)))
  clear H1 H2 H3 H4
  clear hv hbu
  cases f with
  | some b =>
    go_wp2_with (first
      | (with_reducible refine wpList_load_alg rfl _ rfl rfl H6.out (alc_size _ _ _ _ _) ?_)
      | (with_reducible refine wpList_store_alg rfl _ _ rfl (g := (w.heap.size + 1 + 1)) rfl rfl H8.out zar_size (alc_size _ _ _ _ _) (alc_one _ _ _ _ _ _ _ _ _) ?_))
    have e1 := Whole.setRow H8.out (alc a.free a.seed a.fresh (.slice Am a.macs.length cm) (.slice Ab a.boxes.length cb))
    have HG := Lib.hid (below_setRow H5.out (g := (w.heap.size + 1 + 1)) (by omega) (alc a.free a.seed a.fresh (.slice Am a.macs.length cm) (.slice Ab a.boxes.length cb)))
    have HV2 := Lib.hid ((HV.out.setRow (b := (w.heap.size + 1 + 1)) (fun q hq => by omega) (alc a.free a.seed a.fresh (.slice Am a.macs.length cm) (.slice Ab a.boxes.length cb))).mono (Q' := fun g => w.heap.size ≤ g) fun q _ hq => by omega)
    clear HV
    refine bodyPost_ret (results_algb Tryd.results28 _ rfl _ rfl _ rfl (alc_size _ _ _ _ _) e1) rfl ?_
    show SeR _ _ _ _ R ∧ _
    have hRR : R = (a, b, 0) := HR2.out
    rw [hRR]
    exact ⟨⟨_, _, rfl, (HAV.out.below HG.out (Nat.le_refl _)).mono fun _ _ h => .inl h, HV2.out⟩, HG.out⟩
  | none =>
    obtain ⟨X, hX⟩ : ∃ X, X = boxb a K z m := ⟨_, rfl⟩
    have hlX : X.length = m.length + 40 := by rw [hX]; exact boxb_length _ _ _ _
    have hng : ¬ 65536 ≤ a.boxes.length := by omega
    have hRR : R = ({ a with boxes := a.boxes ++ [⟨K, z, m, X⟩] }, X, 0) := by
      have := HR2.out
      simp only [if_neg hng] at this
      rw [this, hX]
    have HRR := Lib.hid hRR
    have hnb := HNW.out u1 _ _ _ _ _ (HAV.out.below H5.out (Nat.le_refl _)) (HM.out.below H5.out (Nat.le_refl _)) (Tables.below HTT.out (Nat.le_refl _) H5.out)
    rw [← hX] at hnb
    obtain ⟨c0, c33, c34, c35⟩ := ALRow.cells H6.out
    have hln2 : decide ((65536 : Int) ≤ (a.boxes.length : Int)) = false := by simp; omega
    have HLX := Lib.hid hlX
    have HB1 := Lib.hid (And.intro hb1 hml)
    clear hX hRR HR2 hng c0 c33 c34 HV hlX hlen hb1 hml
    obtain ⟨nb, hnb2⟩ : ∃ n, n = a.boxes.length := ⟨_, rfl⟩
    rw [← hnb2] at hln2 c35 hnb ⊢
    have HNB2 := Lib.hid hnb2
    clear hnb2
    have hxa2 := H6.out
    rw [← HNB2.out] at hxa2
    go_wp2_with (first
      | (with_reducible refine wpList_load_alg rfl _ rfl rfl hxa2 (alc_size _ _ _ _ _) ?_)
      | (with_reducible refine wpList_load_tag rfl _ rfl rfl H7.out (tag_size hK) ?_))
    refine hnb.mono ?_
    rintro e u2 ⟨⟨v, rfl, hv⟩, hbu⟩
    clear hnb c35 hln2 hxa2
    have hnb2 := HNB2.out
    subst hnb2
    have hml := HB1.out.2
    have hlX := HLX.out
    have hb1 := HB1.out.1
    have hlX2 : X.length ≤ 5000 := by omega
    clear hlX hb1
    have hsu2 : u1.heap.size ≤ u2.heap.size := hbu.size
    obtain ⟨Av, cv, rfl, -⟩ := id hv
    have H9 : Hid (Below w.heap.size w u2) := Lib.hid ((Below.trans H5.out (Below.mono hbu (Below.size H5.out))))
    have H10 : Hid (Whole u2 w.heap.size 32 (alc a.free a.seed a.fresh (.slice Am a.macs.length cm) (.slice Ab a.boxes.length cb))) := Lib.hid ((Whole.below H6.out hbu (Whole.lt H6.out)))
    have H11 : Hid (TGRow u2 (w.heap.size + 1) K) := Lib.hid ((Whole.below H7.out hbu (Whole.lt H7.out)))
    have H12 : Hid (Whole u2 (w.heap.size + 1 + 1) 32 zar) := Lib.hid ((Whole.below H8.out hbu (Whole.lt H8.out)))
    clear H5 H6 H7 H8
    have H13 : Hid (Bytes u2 (fun q => p.heap.size ≤ q ∧ q < u2.heap.size) (.slice Av X.length cv) X) := Lib.hid (hv.mono fun q hq h => show p.heap.size ≤ q ∧ q < u2.heap.size from ⟨by omega, hq⟩)
    clear hv hbu
    go_upto_region 11 with fail
    have hKl : (K.map byt).length = 32 := by rw [List.length_map, hK]
    have HCC : Hid (∀ W, Below u2.heap.size u2 W → W.rangeAt (w.heap.size + 1) 0 (K.map byt)) := Lib.hid fun W hb => TGRow.range (Whole.below H11.out hb (Whole.lt H11.out))
    have hb0 : Below u2.heap.size u2 u2.drew := Below.drew (Below.refl _ _)
    (try simp only [Act.put])
    go_cut [14] (fun s14 wx => EntP u2 K m X z s14 wx)
    case first =>
      refine wp_region_held_drew (S := fun W : World => W.rangeAt (w.heap.size + 1) 0 (K.map byt)) (by kernel_rfl) (HCC.out _ hb0) (fun hHeld => ?_)
      apply wpAnyH_take (i := 0) rfl (by kernel_rfl) (by kernel_rfl) (by kernel_rfl)
      case hQ => exact fun _ _ _ h => h
      case hS => exact hHeld
      case hy => exact yieldsIf_load_mid (by rfl) 28 _ rfl (w.heap.size + 1) (0) rfl ((K.map byt)) _ (fun w hS => hS) Tryd.underlying28 rfl (by rw [tagSize, hKl])
      (try simp only [List.getElem_toArray, List.getElem_cons_zero, Act.put, List.setIfInBounds_toArray, List.set_cons_zero, List.set_cons_succ])
      apply wpAnyH_take (i := 1) rfl (by kernel_rfl) (by kernel_rfl) (by kernel_rfl)
      case hQ => exact fun _ _ _ h => h
      case hS => exact hHeld
      case hy => (refine Or.inl ⟨by rfl, ?_⟩; intro w hSw; (try go_split_ands); go_simp; (try with_reducible rfl))
      (try simp only [List.getElem_toArray, List.getElem_cons_succ, List.getElem_cons_zero, Act.put, List.setIfInBounds_toArray, List.set_cons_zero, List.set_cons_succ])
      apply wpAnyH_take (i := 2) rfl (by kernel_rfl) (by kernel_rfl) (by kernel_rfl)
      case hQ => exact fun _ _ _ h => h
      case hS => exact hHeld
      case hy => (refine Or.inl ⟨by rfl, ?_⟩; intro w hSw; (try go_split_ands); go_simp; (try with_reducible rfl))
      (try simp only [List.getElem_toArray, List.getElem_cons_succ, List.getElem_cons_zero, Act.put, List.setIfInBounds_toArray, List.set_cons_zero, List.set_cons_succ])
      apply wpAnyH_take (i := 4) rfl (by kernel_rfl) (by kernel_rfl) (by kernel_rfl)
      case hQ => exact fun _ _ _ h => h
      case hS => exact hHeld
      case hy => (refine Or.inl ⟨by rfl, ?_⟩; intro w hSw; (try go_split_ands); go_simp; (try with_reducible rfl))
      (try simp only [List.getElem_toArray, List.getElem_cons_succ, List.getElem_cons_zero, Act.put, List.setIfInBounds_toArray, List.set_cons_zero, List.set_cons_succ])
      refine wpAnyH_ready (rs := [3, 7]) (by kernel_rfl) (by simp) ?_
      refine AllReadyH.cons rfl (fun KK hKK => ?_) (AllReadyH.cons rfl (fun KK hKK => ?_) AllReadyH.nil)
      · (try simp only [List.getElem_toArray, List.getElem_cons_succ, List.getElem_cons_zero])
        go_simp
        go_at_call 48
        refine (clone (.slice B m.length d) m _ u2.drew ((HM.out.below H9.out (Nat.le_refl _)).below hb0 (Nat.le_refl _)) (by omega)).mono ?_
        rintro e1 V1 ⟨y1, rfl, hy1, hv1⟩
        obtain ⟨D1, e1, rfl, -⟩ := id hy1
        have hb1 := Below.trans hb0 (Below.mono hv1 (Below.size hb0))
        have hy1 := hy1.mono (Q' := fun q => u2.heap.size ≤ q ∧ q < V1.heap.size) fun q h1 h2 => ⟨Nat.le_trans (Below.size hb0) h2, h1⟩
        refine hKK.out _ _ (HCC.out _ hb1) (fun hHeld => ?_)
        clear hKK KK
        (try simp only [List.getElem_toArray, List.getElem_cons_succ, List.getElem_cons_zero, Act.put, List.setIfInBounds_toArray, List.set_cons_zero, List.set_cons_succ])
        refine wpAnyH_ready (rs := [5, 7]) (by kernel_rfl) (by simp) ?_
        refine AllReadyH.cons rfl (fun KK hKK => ?_) (AllReadyH.cons rfl (fun KK hKK => ?_) AllReadyH.nil)
        · (try simp only [List.getElem_toArray, List.getElem_cons_succ, List.getElem_cons_zero])
          go_simp
          go_at_call 48
          refine (clone (.slice Av X.length cv) X _ V1 (Bytes.below H13.out hb1 (Nat.le_refl _)) (by omega)).mono ?_
          rintro e1 V2 ⟨y2, rfl, hy2, hv2⟩
          obtain ⟨D2, e2, rfl, -⟩ := id hy2
          have hb2 := Below.trans hb1 (Below.mono hv2 (Below.size hb1))
          have hy2 := hy2.mono (Q' := fun q => u2.heap.size ≤ q ∧ q < V2.heap.size) fun q h1 h2 => ⟨Nat.le_trans (Below.size hb1) h2, h1⟩
          have y1c2 := (hy1.below hv2 (Nat.le_refl _)).mono (Q' := fun q => u2.heap.size ≤ q ∧ q < V2.heap.size) fun q h1 h2 => ⟨h2.1, h1⟩
          refine hKK.out _ _ (HCC.out _ hb2) (fun hHeld => ?_)
          clear hKK KK
          (try simp only [List.getElem_toArray, List.getElem_cons_succ, List.getElem_cons_zero, Act.put, List.setIfInBounds_toArray, List.set_cons_zero, List.set_cons_succ])
          apply wpAnyH_take (i := 6) rfl (by kernel_rfl) (by kernel_rfl) (by kernel_rfl)
          case hQ => exact fun _ _ _ h => h
          case hS => exact hHeld
          case hy => exact yieldsIf_build_box (by rfl) _ _ _ _ rfl (e := ⟨K, z, m, X⟩) hK rfl rfl rfl rfl
          (try simp only [List.getElem_toArray, List.getElem_cons_succ, List.getElem_cons_zero, Act.put, List.setIfInBounds_toArray, List.set_cons_zero, List.set_cons_succ])
          refine wpAnyH_ready (rs := [7]) (by kernel_rfl) (by simp) ?_
          refine AllReadyH.cons rfl (fun KK hKK => ?_) AllReadyH.nil
          (try simp only [List.getElem_toArray, List.getElem_cons_succ, List.getElem_cons_zero])
          go_simp
          rw [zbr_lit]
          obtain ⟨V3, hV3⟩ : ∃ x, x = (V2).alloc (.cells zbr 72) := ⟨_, rfl⟩
          have hv3 : Below V2.heap.size V2 V3 := by rw [hV3]; exact (Below.refl _ _).alloc (Nat.le_refl _) _
          have hb3 : Below u2.heap.size u2 V3 := Below.trans hb2 (Below.mono hv3 (Below.size hb2))
          have g3 : Whole V3 (V2.heap.size) 72 zbr := by rw [hV3]; exact Whole.here _ _ _
          have pg3 : u2.heap.size ≤ V2.heap.size := Below.size hb2
          have y1c3 := (y1c2.mono (Q' := fun q => u2.heap.size ≤ q ∧ q ≠ V2.heap.size) fun q h1 h2 => ⟨h2.1, Nat.ne_of_lt h2.2⟩).below hv3 (Nat.le_refl _)
          have y2c3 := (hy2.mono (Q' := fun q => u2.heap.size ≤ q ∧ q ≠ V2.heap.size) fun q h1 h2 => ⟨h2.1, Nat.ne_of_lt h2.2⟩).below hv3 (Nat.le_refl _)
          rw [← hV3]
          clear hV3
          refine hKK.out _ _ (HCC.out _ hb3) (fun hHeld => ?_)
          clear hKK KK
          (try simp only [List.getElem_toArray, List.getElem_cons_succ, List.getElem_cons_zero, Act.put, List.setIfInBounds_toArray, List.set_cons_zero, List.set_cons_succ])
          refine wpAnyH_ready (rs := [8]) (by kernel_rfl) (by simp) ?_
          refine AllReadyH.cons rfl (fun KK hKK => ?_) AllReadyH.nil
          have hG4 : u2.heap.size ≤ V2.heap.size := pg3
          obtain ⟨V4, hV4⟩ : ∃ x, x = (V3).setRow (V2.heap.size) (bcl ⟨⟨K, z, m, X⟩, D1, e1, D2, e2⟩).toArray := ⟨_, rfl⟩
          have g4 : Whole V4 (V2.heap.size) 72 (bcl ⟨⟨K, z, m, X⟩, D1, e1, D2, e2⟩).toArray := by rw [hV4]; exact Whole.setRow g3 _
          have hb4 : Below u2.heap.size u2 V4 := by rw [hV4]; exact below_setRow hb3 hG4 _
          have z1 : Bytes V4 (fun b => u2.heap.size ≤ b) (.slice D1 m.length e1) m := by rw [hV4]; exact (y1c3.setRow (b := V2.heap.size) (fun q hq => hq.2) _).mono fun q _ hq => hq.1
          have z2 : Bytes V4 (fun b => u2.heap.size ≤ b) (.slice D2 X.length e2) X := by rw [hV4]; exact (y2c3.setRow (b := V2.heap.size) (fun q hq => hq.2) _).mono fun q _ hq => hq.1
          rw [if_pos (by kernel_rfl)]
          refine wp_store_row 72 _ _ rfl (V2.heap.size) _ rfl rfl 72 _ g3 (by rw [boxSize, bcl_size]) (by rw [zbr_size, bcl_size]) (bcl_one1 _) ?_
          rw [← hV4]
          clear hV4
          refine hKK.out _ _ (HCC.out _ hb4) (fun hHeld => ?_)
          clear hKK KK
          (try simp only [List.getElem_toArray, List.getElem_cons_succ, List.getElem_cons_zero, Act.put, List.setIfInBounds_toArray, List.set_cons_zero, List.set_cons_succ])
          refine wpAnyH_done (by kernel_rfl) ?_ _
          go_wp2_with fail
          go_meet
          exact ⟨_, _, _, _, _, rfl, g4, z1, z2, hb4⟩
        · (try simp only [List.getElem_toArray, List.getElem_cons_succ, List.getElem_cons_zero])
          go_simp
          rw [zbr_lit]
          obtain ⟨V5, hV5⟩ : ∃ x, x = (V1).alloc (.cells zbr 72) := ⟨_, rfl⟩
          have hv5 : Below V1.heap.size V1 V5 := by rw [hV5]; exact (Below.refl _ _).alloc (Nat.le_refl _) _
          have hb5 : Below u2.heap.size u2 V5 := Below.trans hb1 (Below.mono hv5 (Below.size hb1))
          have g5 : Whole V5 (V1.heap.size) 72 zbr := by rw [hV5]; exact Whole.here _ _ _
          have pg5 : u2.heap.size ≤ V1.heap.size := Below.size hb1
          have y1c5 := (hy1.mono (Q' := fun q => u2.heap.size ≤ q ∧ q ≠ V1.heap.size) fun q h1 h2 => ⟨h2.1, Nat.ne_of_lt h2.2⟩).below hv5 (Nat.le_refl _)
          rw [← hV5]
          clear hV5
          refine hKK.out _ _ (HCC.out _ hb5) (fun hHeld => ?_)
          clear hKK KK
          (try simp only [List.getElem_toArray, List.getElem_cons_succ, List.getElem_cons_zero, Act.put, List.setIfInBounds_toArray, List.set_cons_zero, List.set_cons_succ])
          refine wpAnyH_ready (rs := [5]) (by kernel_rfl) (by simp) ?_
          refine AllReadyH.cons rfl (fun KK hKK => ?_) AllReadyH.nil
          (try simp only [List.getElem_toArray, List.getElem_cons_succ, List.getElem_cons_zero])
          go_simp
          go_at_call 48
          refine (clone (.slice Av X.length cv) X _ V5 (Bytes.below H13.out hb5 (Nat.le_refl _)) (by omega)).mono ?_
          rintro e1 V6 ⟨y6, rfl, hy6, hv6⟩
          obtain ⟨D6, e6, rfl, -⟩ := id hy6
          have hb6 := Below.trans hb5 (Below.mono hv6 (Below.size hb5))
          have hy6 := hy6.mono (Q' := fun q => u2.heap.size ≤ q ∧ q ≠ V1.heap.size) fun q h1 h2 => ⟨Nat.le_trans (Below.size hb5) h2, Nat.ne_of_gt (Nat.lt_of_lt_of_le (Whole.lt g5) h2)⟩
          have y1c6 := y1c5.below hv6 (Nat.le_refl _)
          have g6 := Whole.below g5 hv6 (Whole.lt g5)
          refine hKK.out _ _ (HCC.out _ hb6) (fun hHeld => ?_)
          clear hKK KK
          (try simp only [List.getElem_toArray, List.getElem_cons_succ, List.getElem_cons_zero, Act.put, List.setIfInBounds_toArray, List.set_cons_zero, List.set_cons_succ])
          apply wpAnyH_take (i := 6) rfl (by kernel_rfl) (by kernel_rfl) (by kernel_rfl)
          case hQ => exact fun _ _ _ h => h
          case hS => exact hHeld
          case hy => exact yieldsIf_build_box (by rfl) _ _ _ _ rfl (e := ⟨K, z, m, X⟩) hK rfl rfl rfl rfl
          (try simp only [List.getElem_toArray, List.getElem_cons_succ, List.getElem_cons_zero, Act.put, List.setIfInBounds_toArray, List.set_cons_zero, List.set_cons_succ])
          refine wpAnyH_ready (rs := [8]) (by kernel_rfl) (by simp) ?_
          refine AllReadyH.cons rfl (fun KK hKK => ?_) AllReadyH.nil
          have hG7 : u2.heap.size ≤ V1.heap.size := pg5
          obtain ⟨V7, hV7⟩ : ∃ x, x = (V6).setRow (V1.heap.size) (bcl ⟨⟨K, z, m, X⟩, D1, e1, D6, e6⟩).toArray := ⟨_, rfl⟩
          have g7 : Whole V7 (V1.heap.size) 72 (bcl ⟨⟨K, z, m, X⟩, D1, e1, D6, e6⟩).toArray := by rw [hV7]; exact Whole.setRow g6 _
          have hb7 : Below u2.heap.size u2 V7 := by rw [hV7]; exact below_setRow hb6 hG7 _
          have z1 : Bytes V7 (fun b => u2.heap.size ≤ b) (.slice D1 m.length e1) m := by rw [hV7]; exact (y1c6.setRow (b := V1.heap.size) (fun q hq => hq.2) _).mono fun q _ hq => hq.1
          have z2 : Bytes V7 (fun b => u2.heap.size ≤ b) (.slice D6 X.length e6) X := by rw [hV7]; exact (hy6.setRow (b := V1.heap.size) (fun q hq => hq.2) _).mono fun q _ hq => hq.1
          rw [if_pos (by kernel_rfl)]
          refine wp_store_row 72 _ _ rfl (V1.heap.size) _ rfl rfl 72 _ g6 (by rw [boxSize, bcl_size]) (by rw [zbr_size, bcl_size]) (bcl_one1 _) ?_
          rw [← hV7]
          clear hV7
          refine hKK.out _ _ (HCC.out _ hb7) (fun hHeld => ?_)
          clear hKK KK
          (try simp only [List.getElem_toArray, List.getElem_cons_succ, List.getElem_cons_zero, Act.put, List.setIfInBounds_toArray, List.set_cons_zero, List.set_cons_succ])
          refine wpAnyH_done (by kernel_rfl) ?_ _
          go_wp2_with fail
          go_meet
          exact ⟨_, _, _, _, _, rfl, g7, z1, z2, hb7⟩
      · (try simp only [List.getElem_toArray, List.getElem_cons_succ, List.getElem_cons_zero])
        go_simp
        rw [zbr_lit]
        obtain ⟨V8, hV8⟩ : ∃ x, x = (u2.alloc (.cells zbr 72)).drew := ⟨_, rfl⟩
        have hv8 : Below u2.heap.size u2 V8 := by rw [hV8]; exact ((Below.refl _ _).alloc (Nat.le_refl _) _).drew
        have hb8 : Below u2.heap.size u2 V8 := hv8
        have g8 : Whole V8 (u2.heap.size) 72 zbr := by rw [hV8]; exact Whole.here _ _ _
        have pg8 : u2.heap.size ≤ u2.heap.size := Nat.le_refl _
        rw [← hV8]
        clear hV8
        refine hKK.out _ _ (HCC.out _ hb8) (fun hHeld => ?_)
        clear hKK KK
        (try simp only [List.getElem_toArray, List.getElem_cons_succ, List.getElem_cons_zero, Act.put, List.setIfInBounds_toArray, List.set_cons_zero, List.set_cons_succ])
        refine wpAnyH_ready (rs := [3]) (by kernel_rfl) (by simp) ?_
        refine AllReadyH.cons rfl (fun KK hKK => ?_) AllReadyH.nil
        (try simp only [List.getElem_toArray, List.getElem_cons_succ, List.getElem_cons_zero])
        go_simp
        go_at_call 48
        refine (clone (.slice B m.length d) m _ V8 ((HM.out.below H9.out (Nat.le_refl _)).below hb8 (Nat.le_refl _)) (by omega)).mono ?_
        rintro e1 V9 ⟨y9, rfl, hy9, hv9⟩
        obtain ⟨D9, e9, rfl, -⟩ := id hy9
        have hb9 := Below.trans hb8 (Below.mono hv9 (Below.size hb8))
        have hy9 := hy9.mono (Q' := fun q => u2.heap.size ≤ q ∧ q ≠ u2.heap.size) fun q h1 h2 => ⟨Nat.le_trans (Below.size hb8) h2, Nat.ne_of_gt (Nat.lt_of_lt_of_le (Whole.lt g8) h2)⟩
        have g9 := Whole.below g8 hv9 (Whole.lt g8)
        refine hKK.out _ _ (HCC.out _ hb9) (fun hHeld => ?_)
        clear hKK KK
        (try simp only [List.getElem_toArray, List.getElem_cons_succ, List.getElem_cons_zero, Act.put, List.setIfInBounds_toArray, List.set_cons_zero, List.set_cons_succ])
        refine wpAnyH_ready (rs := [5]) (by kernel_rfl) (by simp) ?_
        refine AllReadyH.cons rfl (fun KK hKK => ?_) AllReadyH.nil
        (try simp only [List.getElem_toArray, List.getElem_cons_succ, List.getElem_cons_zero])
        go_simp
        go_at_call 48
        refine (clone (.slice Av X.length cv) X _ V9 (Bytes.below H13.out hb9 (Nat.le_refl _)) (by omega)).mono ?_
        rintro e1 V10 ⟨y10, rfl, hy10, hv10⟩
        obtain ⟨D10, e10, rfl, -⟩ := id hy10
        have hb10 := Below.trans hb9 (Below.mono hv10 (Below.size hb9))
        have hy10 := hy10.mono (Q' := fun q => u2.heap.size ≤ q ∧ q ≠ u2.heap.size) fun q h1 h2 => ⟨Nat.le_trans (Below.size hb9) h2, Nat.ne_of_gt (Nat.lt_of_lt_of_le (Whole.lt g9) h2)⟩
        have y1c10 := hy9.below hv10 (Nat.le_refl _)
        have g10 := Whole.below g9 hv10 (Whole.lt g9)
        refine hKK.out _ _ (HCC.out _ hb10) (fun hHeld => ?_)
        clear hKK KK
        (try simp only [List.getElem_toArray, List.getElem_cons_succ, List.getElem_cons_zero, Act.put, List.setIfInBounds_toArray, List.set_cons_zero, List.set_cons_succ])
        apply wpAnyH_take (i := 6) rfl (by kernel_rfl) (by kernel_rfl) (by kernel_rfl)
        case hQ => exact fun _ _ _ h => h
        case hS => exact hHeld
        case hy => exact yieldsIf_build_box (by rfl) _ _ _ _ rfl (e := ⟨K, z, m, X⟩) hK rfl rfl rfl rfl
        (try simp only [List.getElem_toArray, List.getElem_cons_succ, List.getElem_cons_zero, Act.put, List.setIfInBounds_toArray, List.set_cons_zero, List.set_cons_succ])
        refine wpAnyH_ready (rs := [8]) (by kernel_rfl) (by simp) ?_
        refine AllReadyH.cons rfl (fun KK hKK => ?_) AllReadyH.nil
        have hG11 : u2.heap.size ≤ u2.heap.size := pg8
        obtain ⟨V11, hV11⟩ : ∃ x, x = (V10).setRow (u2.heap.size) (bcl ⟨⟨K, z, m, X⟩, D9, e9, D10, e10⟩).toArray := ⟨_, rfl⟩
        have g11 : Whole V11 (u2.heap.size) 72 (bcl ⟨⟨K, z, m, X⟩, D9, e9, D10, e10⟩).toArray := by rw [hV11]; exact Whole.setRow g10 _
        have hb11 : Below u2.heap.size u2 V11 := by rw [hV11]; exact below_setRow hb10 hG11 _
        have z1 : Bytes V11 (fun b => u2.heap.size ≤ b) (.slice D9 m.length e9) m := by rw [hV11]; exact (y1c10.setRow (b := u2.heap.size) (fun q hq => hq.2) _).mono fun q _ hq => hq.1
        have z2 : Bytes V11 (fun b => u2.heap.size ≤ b) (.slice D10 X.length e10) X := by rw [hV11]; exact (hy10.setRow (b := u2.heap.size) (fun q hq => hq.2) _).mono fun q _ hq => hq.1
        rw [if_pos (by kernel_rfl)]
        refine wp_store_row 72 _ _ rfl (u2.heap.size) _ rfl rfl 72 _ g10 (by rw [boxSize, bcl_size]) (by rw [zbr_size, bcl_size]) (bcl_one1 _) ?_
        rw [← hV11]
        clear hV11
        refine hKK.out _ _ (HCC.out _ hb11) (fun hHeld => ?_)
        clear hKK KK
        (try simp only [List.getElem_toArray, List.getElem_cons_succ, List.getElem_cons_zero, Act.put, List.setIfInBounds_toArray, List.set_cons_zero, List.set_cons_succ])
        refine wpAnyH_done (by kernel_rfl) ?_ _
        go_wp2_with fail
        go_meet
        exact ⟨_, _, _, _, _, rfl, g11, z1, z2, hb11⟩
    case rest =>
      obtain ⟨G, D, D2, dc, dc2, rfl, hrow, hy1, hy2, hbu⟩ := hcut
      rename World => wc
      have hswc : u2.heap.size ≤ wc.heap.size := hbu.size
      clear HCC hb0 hKl
      have H14 : Hid (Below w.heap.size w wc) := Lib.hid ((Below.trans H9.out (Below.mono hbu (Below.size H9.out))))
      have H15 : Hid (Whole wc w.heap.size 32 (alc a.free a.seed a.fresh (.slice Am a.macs.length cm) (.slice Ab a.boxes.length cb))) := Lib.hid ((Whole.below H10.out hbu (Whole.lt H10.out)))
      have H16 : Hid (TGRow wc (w.heap.size + 1) K) := Lib.hid ((Whole.below H11.out hbu (Whole.lt H11.out)))
      have H17 : Hid (Whole wc (w.heap.size + 1 + 1) 32 zar) := Lib.hid ((Whole.below H12.out hbu (Whole.lt H12.out)))
      have H18 : Hid (Bytes wc (fun q => p.heap.size ≤ q ∧ q < u2.heap.size) (.slice Av X.length cv) X) := Lib.hid ((Bytes.below H13.out hbu (Nat.le_refl _)))
      clear H9 H10 H11 H12 H13
      clear hbu
      obtain ⟨L1, hL1, hS1, hB1⟩ := HBX.out
      have hL1l : L1.length = a.boxes.length := by rw [← hL1, List.length_map]
      obtain ⟨E, hE⟩ : ∃ E : BxM, E = ⟨⟨K, z, m, X⟩, D, dc, D2, dc2⟩ := ⟨_, rfl⟩
      have hEok : bok E := by rw [hE]; exact ⟨hK, HZ.out, by show m.length ≤ 5000; have := HB1.out.1; omega, by show X.length ≤ 5000; omega⟩
      have hEe : E.e = ⟨K, z, m, X⟩ := by rw [hE]
      have hy1' : Bytes wc (fun b => u2.heap.size ≤ b) (.slice E.A E.e.plain.length E.c) E.e.plain := by rw [hE]; exact hy1
      have hy2' : Bytes wc (fun b => u2.heap.size ≤ b) (.slice E.A2 E.e.box.length E.c2) E.e.box := by rw [hE]; exact hy2
      rw [← hE] at hrow
      obtain ⟨W5, hW5⟩ : ∃ x, x = (wc.alloc (.cells (bcl E).toArray 72)).alloc (.cells #[.slice Ab a.boxes.length cb, .slice (some ⟨wc.heap.size, 0, none⟩) 1 1] 30) := ⟨_, rfl⟩
      have hb5 : Below wc.heap.size wc W5 := by rw [hW5]; exact ((Below.refl _ _).alloc (Nat.le_refl _) _).alloc (by simp) _
      have hx1 : Whole W5 wc.heap.size 72 (bcl E).toArray := by rw [hW5]; exact (Whole.here _ _ _).alloc _
      have hx2 : Whole W5 (wc.heap.size + 1) 30 #[.slice Ab a.boxes.length cb, .slice (some ⟨wc.heap.size, 0, none⟩) 1 1] := by rw [hW5]; exact Whole.at_ _ _ _ _ (by simp)
      have hb5w := Below.trans H14.out (Below.mono hb5 (Below.size H14.out))
      have hcl := concatb (wc.heap.size + 1) Ab (some ⟨wc.heap.size, 0, none⟩) cb 1 L1 [E] Q _ W5 (by rw [hL1l]; exact hx2.cell 0) (hx2.cell 1) (hS1.below hb5w (Nat.le_refl _)) (seq_one hx1 rfl hEok) (by simp) (by have := HLEN.out; simp only [List.length_singleton]; omega)
      have HROW := Lib.hid hrow
      have HY := Lib.hid (And.intro (hy1'.below hb5 (Nat.le_refl _)) (hy2'.below hb5 (Nat.le_refl _)))
      have hsW5 : wc.heap.size + 2 ≤ W5.heap.size := by rw [hW5]; simp
      obtain ⟨c0, c33, c34, c35⟩ := ALRow.cells H15.out
      have HL1 := Lib.hid hL1
      have HB12 := Lib.hid hB1
      have HOK : Hid (∀ x ∈ L1 ++ [E], bok x) := Lib.hid fun x hx => by
        rcases List.mem_append.1 hx with h | h
        · exact hS1.2.2.2.1 x h
        · rw [List.mem_singleton.1 h]; exact hEok
      have HEE := Lib.hid hEe
      clear hL1 hS1 hB1 hL1l hE hEok hEe hy1 hy2 hy1' hy2' hrow hx1 hx2 hb5w c0 c33 c34
      go_wp2_with (first
        | (with_reducible refine wpList_load_box rfl _ rfl rfl HROW.out (bcl_size _) ?_)
        | (with_reducible refine wpList_buildSlice_box rfl _ rfl wc.heap.size rfl _ rfl rfl ?_))
      rw [← hW5]
      refine hcl.mono ?_
      rintro e w4 ⟨v', rfl, ho, hb4⟩
      have H19 : Hid (Below w.heap.size w W5) := Lib.hid ((Below.trans H14.out (Below.mono hb5 (Below.size H14.out))))
      have H20 : Hid (Whole W5 w.heap.size 32 (alc a.free a.seed a.fresh (.slice Am a.macs.length cm) (.slice Ab a.boxes.length cb))) := Lib.hid ((Whole.below H15.out hb5 (Whole.lt H15.out)))
      have H21 : Hid (TGRow W5 (w.heap.size + 1) K) := Lib.hid ((Whole.below H16.out hb5 (Whole.lt H16.out)))
      have H22 : Hid (Whole W5 (w.heap.size + 1 + 1) 32 zar) := Lib.hid ((Whole.below H17.out hb5 (Whole.lt H17.out)))
      have H23 : Hid (Bytes W5 (fun q => p.heap.size ≤ q ∧ q < u2.heap.size) (.slice Av X.length cv) X) := Lib.hid ((Bytes.below H18.out hb5 (Nat.le_refl _)))
      clear H14 H15 H16 H17 H18
      have hsw4 : W5.heap.size ≤ w4.heap.size := hb4.size
      have H24 : Hid (Below w.heap.size w w4) := Lib.hid ((Below.trans H19.out (Below.mono hb4 (Below.size H19.out))))
      have H25 : Hid (Whole w4 w.heap.size 32 (alc a.free a.seed a.fresh (.slice Am a.macs.length cm) (.slice Ab a.boxes.length cb))) := Lib.hid ((Whole.below H20.out hb4 (Whole.lt H20.out)))
      have H26 : Hid (TGRow w4 (w.heap.size + 1) K) := Lib.hid ((Whole.below H21.out hb4 (Whole.lt H21.out)))
      have H27 : Hid (Whole w4 (w.heap.size + 1 + 1) 32 zar) := Lib.hid ((Whole.below H22.out hb4 (Whole.lt H22.out)))
      have H28 : Hid (Bytes w4 (fun q => p.heap.size ≤ q ∧ q < u2.heap.size) (.slice Av X.length cv) X) := Lib.hid ((Bytes.below H23.out hb4 (Nat.le_refl _)))
      clear H19 H20 H21 H22 H23
      obtain ⟨A5, c5, rfl, hS5⟩ := OwnS.seq ho HOK.out
      obtain ⟨n5, hn5⟩ : ∃ n, n = (L1 ++ [E]).length := ⟨_, rfl⟩
      rw [← hn5]
      have HN5 := Lib.hid hn5
      have HS5 := Lib.hid hS5
      have HY4 := Lib.hid (And.intro (HY.out.1.below hb4 (Nat.le_refl _)) (HY.out.2.below hb4 (Nat.le_refl _)))
      clear hcl c35 hW5 hb5 ho hn5 hS5 hb4
      obtain ⟨d0, d33, d34, d35⟩ := ALRow.cells H25.out
      have f35 := ALRow.frees H25.out 35
      clear d0 d33 d34
      go_upto_region 13 with fail
      clear d35 f35
      obtain ⟨u5, hu⟩ : ∃ x, x = w4.setCell ⟨w.heap.size, 35, none⟩ (.slice A5 n5 c5) := ⟨_, rfl⟩
      have hru : ALRow u5 w.heap.size a.free a.seed a.fresh (.slice Am a.macs.length cm) (.slice A5 n5 c5) := by rw [hu]; exact ALRow.set35 H25.out _
      have h6u : Whole u5 (w.heap.size + 1 + 1) 32 zar := by rw [hu]; exact Whole.far H27.out (by show _ ≠ w.heap.size; omega) _
      have bbu : Below w.heap.size w u5 := by rw [hu]; exact H24.out.setCell (p := ⟨w.heap.size, 35, none⟩) (Nat.le_refl _) _
      have kp0 : ∀ b, p.heap.size ≤ b → u5.heap[b]? = w4.heap[b]? := by rw [hu]; exact fun b hb => heap_setCell_other w4 ⟨w.heap.size, 35, none⟩ b _ (by show b ≠ w.heap.size; omega)
      have sz0 : w4.heap.size ≤ u5.heap.size := by rw [hu]; exact ((Below.refl 0 w4).setCell (p := ⟨w.heap.size, 35, none⟩) (Nat.zero_le _) _).size
      rw [← hu]
      clear hu
      go_wp2_with (first
        | (with_reducible refine wpList_load_alg rfl _ rfl rfl hru (alc_size _ _ _ _ _) ?_)
        | (with_reducible refine wpList_store_alg rfl _ _ rfl (g := (w.heap.size + 1 + 1)) rfl rfl h6u zar_size (alc_size _ _ _ _ _) (alc_one _ _ _ _ _ _ _ _ _) ?_))
      obtain ⟨X1, hX1⟩ : ∃ x, x = u5.setRow (w.heap.size + 1 + 1) (alc a.free a.seed a.fresh (.slice Am a.macs.length cm) (.slice A5 n5 c5)) := ⟨_, rfl⟩
      have e1 : Whole X1 (w.heap.size + 1 + 1) 32 (alc a.free a.seed a.fresh (.slice Am a.macs.length cm) (.slice A5 n5 c5)) := by rw [hX1]; exact Whole.setRow h6u _
      have hbf : Below w.heap.size w X1 := by rw [hX1]; exact below_setRow bbu (by omega) _
      have kp : ∀ b, p.heap.size ≤ b → X1.heap[b]? = w4.heap[b]? := by rw [hX1]; exact fun b hb => (setRow_other _ _ b _ (by omega)).trans (kp0 b hb)
      have szk : w4.heap.size ≤ X1.heap.size := by rw [hX1]; exact Nat.le_trans sz0 (below_setRow (B := 0) (Below.refl 0 _) (Nat.zero_le _) _).size
      rw [← hX1]
      clear hX1
      refine bodyPost_ret (results_algb Tryd.results28 _ rfl _ rfl _ rfl (alc_size _ _ _ _ _) e1) rfl ?_
      show SeR _ _ _ _ R ∧ _
      rw [HRR.out]
      have HVF := Lib.hid ((Bytes.keep H28.out fun b _ hq => kp b hq.1).mono (Q' := fun g => w.heap.size ≤ g) fun q _ hq => by have := hq.1; omega)
      refine ⟨⟨_, _, rfl, ?_, HVF.out⟩, hbf⟩
      rw [HN5.out]
      have h := alv_moreb (w := w) (Q := Q) (a := a) (X := E) HL1.out (fun x hx => ⟨((HB12.out x hx).1.below hbf (Nat.le_refl _)).mono fun _ _ h => .inl h, ((HB12.out x hx).2.below hbf (Nat.le_refl _)).mono fun _ _ h => .inl h⟩) ((HS5.out.keep szk fun g _ hq => kp g (by have hq : W5.heap.size ≤ g := hq; omega)).mono fun g _ h => (by have h : W5.heap.size ≤ g := h; omega : w.heap.size ≤ g))
        ((HY4.out.1.keep fun g _ hq => kp g (by omega)).mono fun g _ h => (by omega : w.heap.size ≤ g)) ((HY4.out.2.keep fun g _ hq => kp g (by omega)).mono fun g _ h => (by omega : w.heap.size ≤ g)) (HMC.out.below hbf (Nat.le_refl _)) HA.out HLEN.out
      rw [HEE.out] at h
      exact h
end Go.Proofs.YteekdhcffiaaaaaDoor
