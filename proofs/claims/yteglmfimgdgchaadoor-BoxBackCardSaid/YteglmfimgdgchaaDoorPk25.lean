/-
  The reference's stream.
  Plain words of Seal; results of a call that gives an algebra, bytes and a number.
  Good algebras: what every algebra is that was made by New, Key, Mac and Seal.
  The reference's Seal.
-/
import Derived.Deep.RegionHeld3
import Derived.Deep.CutBlock
import Derived.Deep.DeepCutAuto
import Derived.Laws.CopyOwn
import Derived.Test.YteglmfimgdgchaaDoorPk14
import Derived.Test.YteglmfimgdgchaaDoorPk6
import Derived.Test.YteglmfimgdgchaaDoorPk3
import Derived.Test.YteglmfimgdgchaaDoorPk24
import Derived.Test.YteglmfimgdgchaaDoorKAnyG
import Derived.Test.YteglmfimgdgchaaDoorPk19
import Derived.Test.YteglmfimgdgchaaDoorPk15
import Derived.Test.YteglmfimgdgchaaDoorPk20
import Derived.Test.YteglmfimgdgchaaDoorPk26
namespace Go.Proofs.YteglmfimgdgchaaDoor
open Go Go.RowKit Sh Leaf
namespace Sh

def strw : List B8 := [115#8, 116#8, 114#8, 101#8, 97#8, 109#8]
/-- Byte i of the key stream. -/
def kstr (K : List B8) (n i : Nat) : B8 := (hmac K (strw ++ (be8 n ++ be8 (i / 32)))).getD (i % 32) 0
def strm (K : List B8) (n : Nat) (b : List B8) : List B8 := b.mapIdx fun i x => x ^^^ kstr K n i
/-- The first j bytes are done. -/
def stj (K : List B8) (n : Nat) (b : List B8) (j : Nat) : List B8 := b.mapIdx fun i x => if i < j then x ^^^ kstr K n i else x
theorem strm_length (K : List B8) (n : Nat) (b : List B8) : (strm K n b).length = b.length := by unfold strm; simp
theorem stj_length (K : List B8) (n : Nat) (b : List B8) (j : Nat) : (stj K n b j).length = b.length := by unfold stj; simp
theorem stj_zero (K : List B8) (n : Nat) (b : List B8) : stj K n b 0 = b := by
  unfold stj
  refine List.ext_getElem? fun i => ?_
  rw [List.getElem?_mapIdx]
  cases b[i]? <;> simp
theorem stj_all (K : List B8) (n : Nat) (b : List B8) : stj K n b b.length = strm K n b := by
  unfold stj strm
  refine List.ext_getElem? fun i => ?_
  rw [List.getElem?_mapIdx, List.getElem?_mapIdx]
  cases h : b[i]? with
  | none => rfl
  | some x => have := (List.getElem?_eq_some_iff.1 h).1; simp [this]
theorem stj_get (K : List B8) (n : Nat) (b : List B8) (j : Nat) : (stj K n b j).getD j 0 = b.getD j 0 := by
  unfold stj
  rw [List.getD_eq_getElem?_getD, List.getD_eq_getElem?_getD, List.getElem?_mapIdx]
  cases b[j]? <;> simp
theorem stj_set (K : List B8) (n : Nat) (b : List B8) (j : Nat) (hj : j < b.length) : (stj K n b j).set j (b.getD j 0 ^^^ kstr K n j) = stj K n b (j + 1) := by
  refine List.ext_getElem? fun i => ?_
  rw [List.getElem?_set, stj_length]
  unfold stj
  rw [List.getElem?_mapIdx, List.getElem?_mapIdx]
  by_cases e : j = i
  · subst e
    rw [if_pos rfl, if_pos hj, List.getElem?_eq_getElem hj]
    simp [hj]
  · rw [if_neg e]
    cases b[i]? with
    | none => rfl
    | some x => simp only [Option.map_some]; congr 1; by_cases q : i < j
                · rw [if_pos q, if_pos (by omega)]
                · rw [if_neg q, if_neg (by omega)]
end Sh
theorem own_bf {w : World} {base : Nat} {v : Value} {l : List B8} (h : Own w base v l) : OwnBf w base v l := by
  show w.ownsRow base 5 1 v l.length (fl bf l)
  rw [fl_bf]; exact h
theorem bf_own {w : World} {base : Nat} {v : Value} {l : List B8} (h : OwnBf w base v l) : Own w base v l := by
  have h' : w.ownsRow base 5 1 v l.length (fl bf l) := h
  rw [fl_bf] at h'; exact h'
theorem tag_ne_u8 : 23 ≠ 5 := by decide
theorem own_off {w w' : World} {base g : Nat} {v : Value} {l : List B8} {cs : Array Value} (h : OwnBf w base v l) (hz : Whole w g 23 cs) (hg : w.grownBy w' v.ownBlock) : Whole w' g 23 cs := by
  refine (hg.block g hz.lt fun e => ?_).trans hz
  rcases h.2 with ⟨rfl, _⟩ | ⟨g', cap', cur', rfl, hg', hh', _⟩
  · cases e
  · have e : some g = some g' := e
    injection e with e
    subst e
    have hz' := hz.eq
    rw [hz'] at hh'
    injection hh' with hh'
    injection hh' with _ ht
    exact tag_ne_u8 ht
theorem sbytes_strw : sbytes { data := #[115, 116, 114, 101, 97, 109] } = strw := by with_unfolding_all rfl
set_option linter.unusedSimpArgs false in
set_option linter.unusedVariables false in
set_option maxRecDepth 100000 in
set_option maxHeartbeats 4000000 in
theorem rstream {w : World} {Q : Nat → Prop} {B : Option Addr} {d : Nat} {K b : List B8} (n : Nat) (hn : n ≤ 281474976710656) (hK : K.length = 32) (hv : Bytes w Q (.slice B b.length d) b) (hbl : b.length ≤ 5000) :
    Calls Tryd.prog 52 #[.agg (K.map byt).toArray, .int .u64 (n : Int), .slice B b.length d] w fun e w' => ∃ v', e = .returned v' ∧ Own w' w.heap.size v' (strm K n b) ∧ Below w.heap.size w w' := by
  obtain ⟨p, hp⟩ : ∃ p, p = w.alloc (.cells (K.map byt).toArray 23) := ⟨_, rfl⟩
  have hk : TGRow p w.heap.size K := by rw [hp]; exact Whole.here _ _ _
  have hb : Below w.heap.size w p := by rw [hp]; exact (Below.refl _ _).alloc (Nat.le_refl _) _
  have hps : w.heap.size < p.heap.size := hk.lt
  have hvp := hv.below hb (Nat.le_refl _)
  have HB := Lib.hid hb
  have HK := Lib.hid hk
  clear hv hb hk
  go_enter Tryd.func52, Tryd.ntmps52
  go_upto_region 1 with fail
  rw [← hp]
  clear hp
  go_wp2_with (at_builtin; go_must (refine wpList_append_bytes rfl _ _ rfl p.heap.size (.slice (some ⟨p.heap.size, 0, none⟩) 0 0) [] rfl (own_lit p p.heap.size [] (Nat.le_refl _) (by simp)) _ _ b rfl (hvp.alloc _) (by simp; omega) (by simp) ?_; intro v1 w1 hown hb1; rw [List.nil_append] at hown))
  have hb1' : Below p.heap.size p w1 := ((Below.refl _ _).alloc (Nat.le_refl _) _).trans hb1
  clear hb1 hvp
  obtain ⟨A1, c1, rfl, -⟩ := id (Bytes.of_own hown)
  go_loopw [8] (fun v wr => ∃ j : Nat, v = .int .i64 j ∧ j ≤ b.length ∧ Own wr p.heap.size (.slice A1 b.length c1) (stj K n b j) ∧ Below p.heap.size p wr) (fun v _ => b.length - (intOf v).toNat)
  case atStart => exact ⟨0, rfl, by omega, by rw [stj_zero]; exact hown, hb1'⟩
  case round =>
    clear hown hb1'
    obtain ⟨j, rfl, hj, hown, hbw⟩ := hrel
    have HO := Lib.hid hown
    have HBW := Lib.hid hbw
    clear hown hbw
    by_cases hlt : j < b.length
    case neg =>
      obtain rfl : j = b.length := by omega
      have HX : Hid (Own wr w.heap.size (.slice A1 b.length c1) (strm K n b)) := Lib.hid (by have := HO.out; rw [stj_all] at this; exact own_mono this (by omega))
      have HB2 : Hid (Below w.heap.size w wr) := Lib.hid (HB.out.trans (HBW.out.mono (by omega)))
      go_wp2_with fail
      go_ret
      exact ⟨_, rfl, HX.out, HB2.out⟩
    go_upto_region 5 with fail
    have hst := fun g W => run_sliceAt_whole (P := Tryd.prog) (t := 23) (e := 5) (n := 32) Tryd.underlying23 (by kernel_rfl) g W
    obtain ⟨q, hq⟩ : ∃ q, q = j / 32 := ⟨_, rfl⟩
    have e1 : (j : Int).tdiv 32 = (q : Int) := by rw [Int.tdiv_eq_ediv_of_nonneg (by omega), hq]; omega
    have hq1 : q ≤ 5000 := by omega
    have e2 : IntKind.u64.wrap (q : Int) = (q : Int) := by rw [IntKind.wrap_u64]; omega
    have e3 : IntKind.i64.wrap (q : Int) = (q : Int) := by rw [IntKind.wrap_i64]; omega
    obtain ⟨H, hH⟩ : ∃ H, H = hmac K (strw ++ (be8 n ++ be8 q)) := ⟨_, rfl⟩
    have hHl : H.length = 32 := by rw [hH]; exact hmac_length _ _
    have HH := Lib.hid hH
    have HQ := Lib.hid hq
    have hlen8 : ∀ z, (be8 z).length = 8 := fun z => be8_length z
    clear hq hH
    have bU : Below wr.heap.size wr wr.drew := (Below.refl _ _).drew
    go_cut [9] (fun s wx => ∃ g, s = .pointer (some ⟨g, 0, none⟩) ∧ TGRow wx g H ∧ wr.heap.size ≤ g ∧ Below wr.heap.size wr wx)
    case first =>
      refine wp_region_held_drew (S := fun _ : World => True) (by kernel_rfl) (trivial) (fun hHeld => ?_)
      generalize wr.drew = W0 at bU ⊢
      apply wpAnyH_take (i := 0) rfl (by kernel_rfl) (by kernel_rfl) (by kernel_rfl)
      case hQ => exact fun _ _ _ h => h
      case hS => exact hHeld
      case hy => (refine Or.inl ⟨by rfl, ?_⟩; intro w hSw; (try go_split_ands); go_simp; (try with_reducible rfl))
      (try simp only [List.getElem_toArray, List.getElem_cons_zero, Act.put, List.setIfInBounds_toArray, List.set_cons_zero, List.set_cons_succ])
      apply wpAnyH_take (i := 1) rfl (by kernel_rfl) (by kernel_rfl) (by kernel_rfl)
      case hQ => exact fun _ _ _ h => h
      case hS => exact hHeld
      case hy => (refine Or.inl ⟨by rfl, ?_⟩; intro w hSw; (try go_split_ands); go_simp; (try with_reducible rfl))
      (try simp only [List.getElem_toArray, List.getElem_cons_succ, List.getElem_cons_zero, Act.put, List.setIfInBounds_toArray, List.set_cons_zero, List.set_cons_succ])
      apply wpAnyH_take (i := 3) rfl (by kernel_rfl) (by kernel_rfl) (by kernel_rfl)
      case hQ => exact fun _ _ _ h => h
      case hS => exact hHeld
      case hy => (refine Or.inl ⟨by rfl, ?_⟩; intro w hSw; (try go_split_ands); go_simp; (try with_reducible rfl))
      (try simp only [List.getElem_toArray, List.getElem_cons_succ, List.getElem_cons_zero, Act.put, List.setIfInBounds_toArray, List.set_cons_zero, List.set_cons_succ])
      apply wpAnyH_take (i := 4) rfl (by kernel_rfl) (by kernel_rfl) (by kernel_rfl)
      case hQ => exact fun _ _ _ h => h
      case hS => exact hHeld
      case hy => (refine Or.inl ⟨by rfl, ?_⟩; intro w hSw; (try go_split_ands); go_simp; (try with_reducible rfl))
      (try simp only [List.getElem_toArray, List.getElem_cons_succ, List.getElem_cons_zero, Act.put, List.setIfInBounds_toArray, List.set_cons_zero, List.set_cons_succ])
      apply wpAnyH_take (i := 5) rfl (by kernel_rfl) (by kernel_rfl) (by kernel_rfl)
      case hQ => exact fun _ _ _ h => h
      case hS => exact hHeld
      case hy => (refine Or.inl ⟨by rfl, ?_⟩; intro w hSw; (try go_split_ands); go_simp; (try with_reducible rfl))
      (try simp only [List.getElem_toArray, List.getElem_cons_succ, List.getElem_cons_zero, Act.put, List.setIfInBounds_toArray, List.set_cons_zero, List.set_cons_succ])
      refine wpAnyH_ready (rs := [2, 10]) (by kernel_rfl) (by simp) ?_
      refine AllReadyH.cons rfl (fun KK hKK => ?_) (AllReadyH.cons rfl (fun KK hKK => ?_) AllReadyH.nil)
      · (try simp only [List.getElem_toArray, List.getElem_cons_succ, List.getElem_cons_zero])
        go_simp
        go_at_call 41
        refine (eight n W0).mono ?_
        rintro e W1 ⟨vA, rfl, ho1, hs1⟩
        have b1 : Below wr.heap.size wr W1 := bU.trans (hs1.mono bU.size)
        have oA1 : Own W1 wr.heap.size vA (be8 n) := own_mono ho1 bU.size
        refine hKK.out _ _ (trivial) (fun hHeld => ?_)
        clear hKK KK
        (try simp only [List.getElem_toArray, List.getElem_cons_succ, List.getElem_cons_zero, Act.put, List.setIfInBounds_toArray, List.set_cons_zero, List.set_cons_succ])
        refine wpAnyH_ready (rs := [6, 10]) (by kernel_rfl) (by simp) ?_
        refine AllReadyH.cons rfl (fun KK hKK => ?_) (AllReadyH.cons rfl (fun KK hKK => ?_) AllReadyH.nil)
        · (try simp only [List.getElem_toArray, List.getElem_cons_succ, List.getElem_cons_zero])
          go_simp
          go_at_call 41
          refine (eight q W1).mono ?_
          rintro e W2 ⟨vB, rfl, ho2, hs2⟩
          have b2 : Below wr.heap.size wr W2 := b1.trans (hs2.mono b1.size)
          have oA2 := own_below oA1 hs2 (Nat.le_refl _)
          have oB2 : Own W2 wr.heap.size vB (be8 q) := own_mono ho2 b1.size
          obtain ⟨AB, cB, rfl, -⟩ := id (Bytes.of_own oB2)
          refine hKK.out _ _ (trivial) (fun hHeld => ?_)
          clear hKK KK
          (try simp only [List.getElem_toArray, List.getElem_cons_succ, List.getElem_cons_zero, Act.put, List.setIfInBounds_toArray, List.set_cons_zero, List.set_cons_succ])
          refine wpAnyH_ready (rs := [7, 10]) (by kernel_rfl) (by simp) ?_
          refine AllReadyH.cons rfl (fun KK hKK => ?_) (AllReadyH.cons rfl (fun KK hKK => ?_) AllReadyH.nil)
          · skip
            refine step_append_seq (by rfl) _ _ 40 5 (.int .u8 0) 1 (by rfl) Tryd.underlying40 byteInfo byte_size (by omega) (by omega) bf_len bf_one wr.heap.size _ (be8 n) (by rfl) (own_bf oA2) _ AB (be8 q).length cB (be8 q) rfl (by rfl) (seq_bytes (Bytes.of_own oB2)) (by rw [hlen8, hlen8]; omega) b2.size ?_
            intro vC W3 oC0 hs3 hgn3
            have oC3 : Own W3 wr.heap.size vC (be8 n ++ be8 q) := bf_own oC0
            have b3 : Below wr.heap.size wr W3 := b2.trans hs3
            refine hKK.out _ _ (trivial) (fun hHeld => ?_)
            clear hKK KK
            (try simp only [List.getElem_toArray, List.getElem_cons_succ, List.getElem_cons_zero, Act.put, List.setIfInBounds_toArray, List.set_cons_zero, List.set_cons_succ])
            refine wpAnyH_ready (rs := [8, 10]) (by kernel_rfl) (by simp) ?_
            refine AllReadyH.cons rfl (fun KK hKK => ?_) (AllReadyH.cons rfl (fun KK hKK => ?_) AllReadyH.nil)
            · (try simp only [List.getElem_toArray, List.getElem_cons_succ, List.getElem_cons_zero])
              go_simp
              go_at_call 53
              refine (rword { data := #[115, 116, 114, 101, 97, 109] } (by decide) vC (be8 n ++ be8 q) _ W3 (Bytes.of_own oC3) (by rw [List.length_append, hlen8]; omega) (by rw [List.length_append, hlen8, hlen8]; omega)).mono ?_
              rintro e W4 ⟨vM, rfl, oM0, hs4⟩
              have b4 : Below wr.heap.size wr W4 := b3.trans (hs4.mono b3.size)
              rw [sbytes_strw] at oM0
              have oM4 := oM0
              refine hKK.out _ _ (trivial) (fun hHeld => ?_)
              clear hKK KK
              (try simp only [List.getElem_toArray, List.getElem_cons_succ, List.getElem_cons_zero, Act.put, List.setIfInBounds_toArray, List.set_cons_zero, List.set_cons_succ])
              refine wpAnyH_ready (rs := [9, 10]) (by kernel_rfl) (by simp) ?_
              refine AllReadyH.cons rfl (fun KK hKK => ?_) (AllReadyH.cons rfl (fun KK hKK => ?_) AllReadyH.nil)
              · (try simp only [List.getElem_toArray, List.getElem_cons_succ, List.getElem_cons_zero])
                have hby := Whole.bytes (Whole.below HK.out (HBW.out.trans (b4.mono HBW.out.size)) (by omega)) (by omega)
                rw [hK] at hby
                go_simp
                go_at_call 47
                refine (ref_hmac _ _ K (strw ++ (be8 n ++ be8 q)) _ _ W4 hby oM4.bytes (by omega) (by rw [List.length_append, List.length_append, hlen8, hlen8]; simp [strw])).mono ?_
                rintro e W5 ⟨rfl, hs5⟩
                rw [← HH.out]
                have b5 : Below wr.heap.size wr W5 := b4.trans (hs5.mono b4.size)
                refine hKK.out _ _ (trivial) (fun hHeld => ?_)
                clear hKK KK
                (try simp only [List.getElem_toArray, List.getElem_cons_succ, List.getElem_cons_zero, Act.put, List.setIfInBounds_toArray, List.set_cons_zero, List.set_cons_succ])
                refine wpAnyH_ready (rs := [10]) (by kernel_rfl) (by simp) ?_
                refine AllReadyH.cons rfl (fun KK hKK => ?_) AllReadyH.nil
                (try simp only [List.getElem_toArray, List.getElem_cons_succ, List.getElem_cons_zero])
                obtain ⟨G, hG⟩ : ∃ g, g = W5.heap.size := ⟨_, rfl⟩
                obtain ⟨W6, hW6⟩ : ∃ x, x = W5.alloc (.cells ztr 23) := ⟨_, rfl⟩
                have hs6 : Below W5.heap.size W5 W6 := by rw [hW6]; exact (Below.refl _ _).alloc (Nat.le_refl _) _
                have zz6 : Whole W6 G 23 ztr := by rw [hW6, hG]; exact Whole.here _ _ _
                have hgl : wr.heap.size ≤ G := by rw [hG]; exact b5.size
                have b6 : Below wr.heap.size wr W6 := b5.trans (hs6.mono b5.size)
                have z6 := zz6
                go_simp
                rw [ztr_lit, ← hG, ← hW6]
                clear hW6 hG
                refine hKK.out _ _ (trivial) (fun hHeld => ?_)
                clear hKK KK
                (try simp only [List.getElem_toArray, List.getElem_cons_succ, List.getElem_cons_zero, Act.put, List.setIfInBounds_toArray, List.set_cons_zero, List.set_cons_succ])
                refine wpAnyH_ready (rs := [11]) (by kernel_rfl) (by simp) ?_
                refine AllReadyH.cons rfl (fun KK hKK => ?_) AllReadyH.nil
                (try simp only [List.getElem_toArray, List.getElem_cons_succ, List.getElem_cons_zero])
                obtain ⟨W7, hW7⟩ : ∃ x, x = W6.setRow G (H.map byt).toArray := ⟨_, rfl⟩
                have t7 : TGRow W7 G H := by rw [hW7]; exact Whole.setRow z6 _
                have b7 : Below wr.heap.size wr W7 := by rw [hW7]; exact below_setRow b6 hgl _
                rw [if_pos (by kernel_rfl)]
                refine wp_store_row 23 _ _ rfl G _ rfl rfl 23 _ z6 (by rw [tagSize, tag_size hHl]) (by rw [ztr_size, tag_size hHl]) (tag_one _) ?_
                rw [← hW7]
                clear hW7
                refine hKK.out _ _ (trivial) (fun hHeld => ?_)
                clear hKK KK
                (try simp only [List.getElem_toArray, List.getElem_cons_succ, List.getElem_cons_zero, Act.put, List.setIfInBounds_toArray, List.set_cons_zero, List.set_cons_succ])
                refine wpAnyH_done (by kernel_rfl) ?_ _
                go_wp2_with fail
                go_meet
                exact ⟨G, rfl, t7, hgl, b7⟩
              · (try simp only [List.getElem_toArray, List.getElem_cons_succ, List.getElem_cons_zero])
                obtain ⟨G, hG⟩ : ∃ g, g = W4.heap.size := ⟨_, rfl⟩
                obtain ⟨W5, hW5⟩ : ∃ x, x = W4.alloc (.cells ztr 23) := ⟨_, rfl⟩
                have hs5 : Below W4.heap.size W4 W5 := by rw [hW5]; exact (Below.refl _ _).alloc (Nat.le_refl _) _
                have zz5 : Whole W5 G 23 ztr := by rw [hW5, hG]; exact Whole.here _ _ _
                have hgl : wr.heap.size ≤ G := by rw [hG]; exact b4.size
                have b5 : Below wr.heap.size wr W5 := b4.trans (hs5.mono b4.size)
                have oM5 := OwnM.below oM4 hs5 (Nat.le_refl _)
                have z5 := zz5
                go_simp
                rw [ztr_lit, ← hG, ← hW5]
                clear hW5 hG
                refine hKK.out _ _ (trivial) (fun hHeld => ?_)
                clear hKK KK
                (try simp only [List.getElem_toArray, List.getElem_cons_succ, List.getElem_cons_zero, Act.put, List.setIfInBounds_toArray, List.set_cons_zero, List.set_cons_succ])
                refine wpAnyH_ready (rs := [9]) (by kernel_rfl) (by simp) ?_
                refine AllReadyH.cons rfl (fun KK hKK => ?_) AllReadyH.nil
                (try simp only [List.getElem_toArray, List.getElem_cons_succ, List.getElem_cons_zero])
                have hby := Whole.bytes (Whole.below HK.out (HBW.out.trans (b5.mono HBW.out.size)) (by omega)) (by omega)
                rw [hK] at hby
                go_simp
                go_at_call 47
                refine (ref_hmac _ _ K (strw ++ (be8 n ++ be8 q)) _ _ W5 hby oM5.bytes (by omega) (by rw [List.length_append, List.length_append, hlen8, hlen8]; simp [strw])).mono ?_
                rintro e W6 ⟨rfl, hs6⟩
                rw [← HH.out]
                have b6 : Below wr.heap.size wr W6 := b5.trans (hs6.mono b5.size)
                have z6 : Whole W6 G 23 ztr := Whole.below z5 hs6 z5.lt
                refine hKK.out _ _ (trivial) (fun hHeld => ?_)
                clear hKK KK
                (try simp only [List.getElem_toArray, List.getElem_cons_succ, List.getElem_cons_zero, Act.put, List.setIfInBounds_toArray, List.set_cons_zero, List.set_cons_succ])
                refine wpAnyH_ready (rs := [11]) (by kernel_rfl) (by simp) ?_
                refine AllReadyH.cons rfl (fun KK hKK => ?_) AllReadyH.nil
                (try simp only [List.getElem_toArray, List.getElem_cons_succ, List.getElem_cons_zero])
                obtain ⟨W7, hW7⟩ : ∃ x, x = W6.setRow G (H.map byt).toArray := ⟨_, rfl⟩
                have t7 : TGRow W7 G H := by rw [hW7]; exact Whole.setRow z6 _
                have b7 : Below wr.heap.size wr W7 := by rw [hW7]; exact below_setRow b6 hgl _
                rw [if_pos (by kernel_rfl)]
                refine wp_store_row 23 _ _ rfl G _ rfl rfl 23 _ z6 (by rw [tagSize, tag_size hHl]) (by rw [ztr_size, tag_size hHl]) (tag_one _) ?_
                rw [← hW7]
                clear hW7
                refine hKK.out _ _ (trivial) (fun hHeld => ?_)
                clear hKK KK
                (try simp only [List.getElem_toArray, List.getElem_cons_succ, List.getElem_cons_zero, Act.put, List.setIfInBounds_toArray, List.set_cons_zero, List.set_cons_succ])
                refine wpAnyH_done (by kernel_rfl) ?_ _
                go_wp2_with fail
                go_meet
                exact ⟨G, rfl, t7, hgl, b7⟩
            · (try simp only [List.getElem_toArray, List.getElem_cons_succ, List.getElem_cons_zero])
              obtain ⟨G, hG⟩ : ∃ g, g = W3.heap.size := ⟨_, rfl⟩
              obtain ⟨W4, hW4⟩ : ∃ x, x = W3.alloc (.cells ztr 23) := ⟨_, rfl⟩
              have hs4 : Below W3.heap.size W3 W4 := by rw [hW4]; exact (Below.refl _ _).alloc (Nat.le_refl _) _
              have zz4 : Whole W4 G 23 ztr := by rw [hW4, hG]; exact Whole.here _ _ _
              have hgl : wr.heap.size ≤ G := by rw [hG]; exact b3.size
              have b4 : Below wr.heap.size wr W4 := b3.trans (hs4.mono b3.size)
              have oC4 := own_below oC3 hs4 (Nat.le_refl _)
              have z4 := zz4
              go_simp
              rw [ztr_lit, ← hG, ← hW4]
              clear hW4 hG
              refine hKK.out _ _ (trivial) (fun hHeld => ?_)
              clear hKK KK
              (try simp only [List.getElem_toArray, List.getElem_cons_succ, List.getElem_cons_zero, Act.put, List.setIfInBounds_toArray, List.set_cons_zero, List.set_cons_succ])
              refine wpAnyH_ready (rs := [8]) (by kernel_rfl) (by simp) ?_
              refine AllReadyH.cons rfl (fun KK hKK => ?_) AllReadyH.nil
              (try simp only [List.getElem_toArray, List.getElem_cons_succ, List.getElem_cons_zero])
              go_simp
              go_at_call 53
              refine (rword { data := #[115, 116, 114, 101, 97, 109] } (by decide) vC (be8 n ++ be8 q) _ W4 (Bytes.of_own oC4) (by rw [List.length_append, hlen8]; omega) (by rw [List.length_append, hlen8, hlen8]; omega)).mono ?_
              rintro e W5 ⟨vM, rfl, oM0, hs5⟩
              have b5 : Below wr.heap.size wr W5 := b4.trans (hs5.mono b4.size)
              have z5 : Whole W5 G 23 ztr := Whole.below z4 hs5 z4.lt
              rw [sbytes_strw] at oM0
              have oM5 := oM0
              refine hKK.out _ _ (trivial) (fun hHeld => ?_)
              clear hKK KK
              (try simp only [List.getElem_toArray, List.getElem_cons_succ, List.getElem_cons_zero, Act.put, List.setIfInBounds_toArray, List.set_cons_zero, List.set_cons_succ])
              refine wpAnyH_ready (rs := [9]) (by kernel_rfl) (by simp) ?_
              refine AllReadyH.cons rfl (fun KK hKK => ?_) AllReadyH.nil
              (try simp only [List.getElem_toArray, List.getElem_cons_succ, List.getElem_cons_zero])
              have hby := Whole.bytes (Whole.below HK.out (HBW.out.trans (b5.mono HBW.out.size)) (by omega)) (by omega)
              rw [hK] at hby
              go_simp
              go_at_call 47
              refine (ref_hmac _ _ K (strw ++ (be8 n ++ be8 q)) _ _ W5 hby oM5.bytes (by omega) (by rw [List.length_append, List.length_append, hlen8, hlen8]; simp [strw])).mono ?_
              rintro e W6 ⟨rfl, hs6⟩
              rw [← HH.out]
              have b6 : Below wr.heap.size wr W6 := b5.trans (hs6.mono b5.size)
              have z6 : Whole W6 G 23 ztr := Whole.below z5 hs6 z5.lt
              refine hKK.out _ _ (trivial) (fun hHeld => ?_)
              clear hKK KK
              (try simp only [List.getElem_toArray, List.getElem_cons_succ, List.getElem_cons_zero, Act.put, List.setIfInBounds_toArray, List.set_cons_zero, List.set_cons_succ])
              refine wpAnyH_ready (rs := [11]) (by kernel_rfl) (by simp) ?_
              refine AllReadyH.cons rfl (fun KK hKK => ?_) AllReadyH.nil
              (try simp only [List.getElem_toArray, List.getElem_cons_succ, List.getElem_cons_zero])
              obtain ⟨W7, hW7⟩ : ∃ x, x = W6.setRow G (H.map byt).toArray := ⟨_, rfl⟩
              have t7 : TGRow W7 G H := by rw [hW7]; exact Whole.setRow z6 _
              have b7 : Below wr.heap.size wr W7 := by rw [hW7]; exact below_setRow b6 hgl _
              rw [if_pos (by kernel_rfl)]
              refine wp_store_row 23 _ _ rfl G _ rfl rfl 23 _ z6 (by rw [tagSize, tag_size hHl]) (by rw [ztr_size, tag_size hHl]) (tag_one _) ?_
              rw [← hW7]
              clear hW7
              refine hKK.out _ _ (trivial) (fun hHeld => ?_)
              clear hKK KK
              (try simp only [List.getElem_toArray, List.getElem_cons_succ, List.getElem_cons_zero, Act.put, List.setIfInBounds_toArray, List.set_cons_zero, List.set_cons_succ])
              refine wpAnyH_done (by kernel_rfl) ?_ _
              go_wp2_with fail
              go_meet
              exact ⟨G, rfl, t7, hgl, b7⟩
          · (try simp only [List.getElem_toArray, List.getElem_cons_succ, List.getElem_cons_zero])
            obtain ⟨G, hG⟩ : ∃ g, g = W2.heap.size := ⟨_, rfl⟩
            obtain ⟨W3, hW3⟩ : ∃ x, x = W2.alloc (.cells ztr 23) := ⟨_, rfl⟩
            have hs3 : Below W2.heap.size W2 W3 := by rw [hW3]; exact (Below.refl _ _).alloc (Nat.le_refl _) _
            have zz3 : Whole W3 G 23 ztr := by rw [hW3, hG]; exact Whole.here _ _ _
            have hgl : wr.heap.size ≤ G := by rw [hG]; exact b2.size
            have b3 : Below wr.heap.size wr W3 := b2.trans (hs3.mono b2.size)
            have oA3 := own_below oA2 hs3 (Nat.le_refl _)
            have oB3 := own_below oB2 hs3 (Nat.le_refl _)
            have z3 := zz3
            go_simp
            rw [ztr_lit, ← hG, ← hW3]
            clear hW3 hG
            refine hKK.out _ _ (trivial) (fun hHeld => ?_)
            clear hKK KK
            (try simp only [List.getElem_toArray, List.getElem_cons_succ, List.getElem_cons_zero, Act.put, List.setIfInBounds_toArray, List.set_cons_zero, List.set_cons_succ])
            refine wpAnyH_ready (rs := [7]) (by kernel_rfl) (by simp) ?_
            refine AllReadyH.cons rfl (fun KK hKK => ?_) AllReadyH.nil
            refine step_append_seq (by rfl) _ _ 40 5 (.int .u8 0) 1 (by rfl) Tryd.underlying40 byteInfo byte_size (by omega) (by omega) bf_len bf_one wr.heap.size _ (be8 n) (by rfl) (own_bf oA3) _ AB (be8 q).length cB (be8 q) rfl (by rfl) (seq_bytes (Bytes.of_own oB3)) (by rw [hlen8, hlen8]; omega) b3.size ?_
            intro vC W4 oC0 hs4 hgn4
            have oC4 : Own W4 wr.heap.size vC (be8 n ++ be8 q) := bf_own oC0
            have b4 : Below wr.heap.size wr W4 := b3.trans hs4
            have z4 := own_off (own_bf oA3) z3 hgn4
            refine hKK.out _ _ (trivial) (fun hHeld => ?_)
            clear hKK KK
            (try simp only [List.getElem_toArray, List.getElem_cons_succ, List.getElem_cons_zero, Act.put, List.setIfInBounds_toArray, List.set_cons_zero, List.set_cons_succ])
            refine wpAnyH_ready (rs := [8]) (by kernel_rfl) (by simp) ?_
            refine AllReadyH.cons rfl (fun KK hKK => ?_) AllReadyH.nil
            (try simp only [List.getElem_toArray, List.getElem_cons_succ, List.getElem_cons_zero])
            go_simp
            go_at_call 53
            refine (rword { data := #[115, 116, 114, 101, 97, 109] } (by decide) vC (be8 n ++ be8 q) _ W4 (Bytes.of_own oC4) (by rw [List.length_append, hlen8]; omega) (by rw [List.length_append, hlen8, hlen8]; omega)).mono ?_
            rintro e W5 ⟨vM, rfl, oM0, hs5⟩
            have b5 : Below wr.heap.size wr W5 := b4.trans (hs5.mono b4.size)
            have z5 : Whole W5 G 23 ztr := Whole.below z4 hs5 z4.lt
            rw [sbytes_strw] at oM0
            have oM5 := oM0
            refine hKK.out _ _ (trivial) (fun hHeld => ?_)
            clear hKK KK
            (try simp only [List.getElem_toArray, List.getElem_cons_succ, List.getElem_cons_zero, Act.put, List.setIfInBounds_toArray, List.set_cons_zero, List.set_cons_succ])
            refine wpAnyH_ready (rs := [9]) (by kernel_rfl) (by simp) ?_
            refine AllReadyH.cons rfl (fun KK hKK => ?_) AllReadyH.nil
            (try simp only [List.getElem_toArray, List.getElem_cons_succ, List.getElem_cons_zero])
            have hby := Whole.bytes (Whole.below HK.out (HBW.out.trans (b5.mono HBW.out.size)) (by omega)) (by omega)
            rw [hK] at hby
            go_simp
            go_at_call 47
            refine (ref_hmac _ _ K (strw ++ (be8 n ++ be8 q)) _ _ W5 hby oM5.bytes (by omega) (by rw [List.length_append, List.length_append, hlen8, hlen8]; simp [strw])).mono ?_
            rintro e W6 ⟨rfl, hs6⟩
            rw [← HH.out]
            have b6 : Below wr.heap.size wr W6 := b5.trans (hs6.mono b5.size)
            have z6 : Whole W6 G 23 ztr := Whole.below z5 hs6 z5.lt
            refine hKK.out _ _ (trivial) (fun hHeld => ?_)
            clear hKK KK
            (try simp only [List.getElem_toArray, List.getElem_cons_succ, List.getElem_cons_zero, Act.put, List.setIfInBounds_toArray, List.set_cons_zero, List.set_cons_succ])
            refine wpAnyH_ready (rs := [11]) (by kernel_rfl) (by simp) ?_
            refine AllReadyH.cons rfl (fun KK hKK => ?_) AllReadyH.nil
            (try simp only [List.getElem_toArray, List.getElem_cons_succ, List.getElem_cons_zero])
            obtain ⟨W7, hW7⟩ : ∃ x, x = W6.setRow G (H.map byt).toArray := ⟨_, rfl⟩
            have t7 : TGRow W7 G H := by rw [hW7]; exact Whole.setRow z6 _
            have b7 : Below wr.heap.size wr W7 := by rw [hW7]; exact below_setRow b6 hgl _
            rw [if_pos (by kernel_rfl)]
            refine wp_store_row 23 _ _ rfl G _ rfl rfl 23 _ z6 (by rw [tagSize, tag_size hHl]) (by rw [ztr_size, tag_size hHl]) (tag_one _) ?_
            rw [← hW7]
            clear hW7
            refine hKK.out _ _ (trivial) (fun hHeld => ?_)
            clear hKK KK
            (try simp only [List.getElem_toArray, List.getElem_cons_succ, List.getElem_cons_zero, Act.put, List.setIfInBounds_toArray, List.set_cons_zero, List.set_cons_succ])
            refine wpAnyH_done (by kernel_rfl) ?_ _
            go_wp2_with fail
            go_meet
            exact ⟨G, rfl, t7, hgl, b7⟩
        · (try simp only [List.getElem_toArray, List.getElem_cons_succ, List.getElem_cons_zero])
          obtain ⟨G, hG⟩ : ∃ g, g = W1.heap.size := ⟨_, rfl⟩
          obtain ⟨W2, hW2⟩ : ∃ x, x = W1.alloc (.cells ztr 23) := ⟨_, rfl⟩
          have hs2 : Below W1.heap.size W1 W2 := by rw [hW2]; exact (Below.refl _ _).alloc (Nat.le_refl _) _
          have zz2 : Whole W2 G 23 ztr := by rw [hW2, hG]; exact Whole.here _ _ _
          have hgl : wr.heap.size ≤ G := by rw [hG]; exact b1.size
          have b2 : Below wr.heap.size wr W2 := b1.trans (hs2.mono b1.size)
          have oA2 := own_below oA1 hs2 (Nat.le_refl _)
          have z2 := zz2
          go_simp
          rw [ztr_lit, ← hG, ← hW2]
          clear hW2 hG
          refine hKK.out _ _ (trivial) (fun hHeld => ?_)
          clear hKK KK
          (try simp only [List.getElem_toArray, List.getElem_cons_succ, List.getElem_cons_zero, Act.put, List.setIfInBounds_toArray, List.set_cons_zero, List.set_cons_succ])
          refine wpAnyH_ready (rs := [6]) (by kernel_rfl) (by simp) ?_
          refine AllReadyH.cons rfl (fun KK hKK => ?_) AllReadyH.nil
          (try simp only [List.getElem_toArray, List.getElem_cons_succ, List.getElem_cons_zero])
          go_simp
          go_at_call 41
          refine (eight q W2).mono ?_
          rintro e W3 ⟨vB, rfl, ho3, hs3⟩
          have b3 : Below wr.heap.size wr W3 := b2.trans (hs3.mono b2.size)
          have z3 : Whole W3 G 23 ztr := Whole.below z2 hs3 z2.lt
          have oA3 := own_below oA2 hs3 (Nat.le_refl _)
          have oB3 : Own W3 wr.heap.size vB (be8 q) := own_mono ho3 b2.size
          obtain ⟨AB, cB, rfl, -⟩ := id (Bytes.of_own oB3)
          refine hKK.out _ _ (trivial) (fun hHeld => ?_)
          clear hKK KK
          (try simp only [List.getElem_toArray, List.getElem_cons_succ, List.getElem_cons_zero, Act.put, List.setIfInBounds_toArray, List.set_cons_zero, List.set_cons_succ])
          refine wpAnyH_ready (rs := [7]) (by kernel_rfl) (by simp) ?_
          refine AllReadyH.cons rfl (fun KK hKK => ?_) AllReadyH.nil
          refine step_append_seq (by rfl) _ _ 40 5 (.int .u8 0) 1 (by rfl) Tryd.underlying40 byteInfo byte_size (by omega) (by omega) bf_len bf_one wr.heap.size _ (be8 n) (by rfl) (own_bf oA3) _ AB (be8 q).length cB (be8 q) rfl (by rfl) (seq_bytes (Bytes.of_own oB3)) (by rw [hlen8, hlen8]; omega) b3.size ?_
          intro vC W4 oC0 hs4 hgn4
          have oC4 : Own W4 wr.heap.size vC (be8 n ++ be8 q) := bf_own oC0
          have b4 : Below wr.heap.size wr W4 := b3.trans hs4
          have z4 := own_off (own_bf oA3) z3 hgn4
          refine hKK.out _ _ (trivial) (fun hHeld => ?_)
          clear hKK KK
          (try simp only [List.getElem_toArray, List.getElem_cons_succ, List.getElem_cons_zero, Act.put, List.setIfInBounds_toArray, List.set_cons_zero, List.set_cons_succ])
          refine wpAnyH_ready (rs := [8]) (by kernel_rfl) (by simp) ?_
          refine AllReadyH.cons rfl (fun KK hKK => ?_) AllReadyH.nil
          (try simp only [List.getElem_toArray, List.getElem_cons_succ, List.getElem_cons_zero])
          go_simp
          go_at_call 53
          refine (rword { data := #[115, 116, 114, 101, 97, 109] } (by decide) vC (be8 n ++ be8 q) _ W4 (Bytes.of_own oC4) (by rw [List.length_append, hlen8]; omega) (by rw [List.length_append, hlen8, hlen8]; omega)).mono ?_
          rintro e W5 ⟨vM, rfl, oM0, hs5⟩
          have b5 : Below wr.heap.size wr W5 := b4.trans (hs5.mono b4.size)
          have z5 : Whole W5 G 23 ztr := Whole.below z4 hs5 z4.lt
          rw [sbytes_strw] at oM0
          have oM5 := oM0
          refine hKK.out _ _ (trivial) (fun hHeld => ?_)
          clear hKK KK
          (try simp only [List.getElem_toArray, List.getElem_cons_succ, List.getElem_cons_zero, Act.put, List.setIfInBounds_toArray, List.set_cons_zero, List.set_cons_succ])
          refine wpAnyH_ready (rs := [9]) (by kernel_rfl) (by simp) ?_
          refine AllReadyH.cons rfl (fun KK hKK => ?_) AllReadyH.nil
          (try simp only [List.getElem_toArray, List.getElem_cons_succ, List.getElem_cons_zero])
          have hby := Whole.bytes (Whole.below HK.out (HBW.out.trans (b5.mono HBW.out.size)) (by omega)) (by omega)
          rw [hK] at hby
          go_simp
          go_at_call 47
          refine (ref_hmac _ _ K (strw ++ (be8 n ++ be8 q)) _ _ W5 hby oM5.bytes (by omega) (by rw [List.length_append, List.length_append, hlen8, hlen8]; simp [strw])).mono ?_
          rintro e W6 ⟨rfl, hs6⟩
          rw [← HH.out]
          have b6 : Below wr.heap.size wr W6 := b5.trans (hs6.mono b5.size)
          have z6 : Whole W6 G 23 ztr := Whole.below z5 hs6 z5.lt
          refine hKK.out _ _ (trivial) (fun hHeld => ?_)
          clear hKK KK
          (try simp only [List.getElem_toArray, List.getElem_cons_succ, List.getElem_cons_zero, Act.put, List.setIfInBounds_toArray, List.set_cons_zero, List.set_cons_succ])
          refine wpAnyH_ready (rs := [11]) (by kernel_rfl) (by simp) ?_
          refine AllReadyH.cons rfl (fun KK hKK => ?_) AllReadyH.nil
          (try simp only [List.getElem_toArray, List.getElem_cons_succ, List.getElem_cons_zero])
          obtain ⟨W7, hW7⟩ : ∃ x, x = W6.setRow G (H.map byt).toArray := ⟨_, rfl⟩
          have t7 : TGRow W7 G H := by rw [hW7]; exact Whole.setRow z6 _
          have b7 : Below wr.heap.size wr W7 := by rw [hW7]; exact below_setRow b6 hgl _
          rw [if_pos (by kernel_rfl)]
          refine wp_store_row 23 _ _ rfl G _ rfl rfl 23 _ z6 (by rw [tagSize, tag_size hHl]) (by rw [ztr_size, tag_size hHl]) (tag_one _) ?_
          rw [← hW7]
          clear hW7
          refine hKK.out _ _ (trivial) (fun hHeld => ?_)
          clear hKK KK
          (try simp only [List.getElem_toArray, List.getElem_cons_succ, List.getElem_cons_zero, Act.put, List.setIfInBounds_toArray, List.set_cons_zero, List.set_cons_succ])
          refine wpAnyH_done (by kernel_rfl) ?_ _
          go_wp2_with fail
          go_meet
          exact ⟨G, rfl, t7, hgl, b7⟩
      · (try simp only [List.getElem_toArray, List.getElem_cons_succ, List.getElem_cons_zero])
        obtain ⟨G, hG⟩ : ∃ g, g = W0.heap.size := ⟨_, rfl⟩
        obtain ⟨W1, hW1⟩ : ∃ x, x = W0.alloc (.cells ztr 23) := ⟨_, rfl⟩
        have hs1 : Below W0.heap.size W0 W1 := by rw [hW1]; exact (Below.refl _ _).alloc (Nat.le_refl _) _
        have zz1 : Whole W1 G 23 ztr := by rw [hW1, hG]; exact Whole.here _ _ _
        have hgl : wr.heap.size ≤ G := by rw [hG]; exact bU.size
        have b1 : Below wr.heap.size wr W1 := bU.trans (hs1.mono bU.size)
        have z1 := zz1
        go_simp
        rw [ztr_lit, ← hG, ← hW1]
        clear hW1 hG
        refine hKK.out _ _ (trivial) (fun hHeld => ?_)
        clear hKK KK
        (try simp only [List.getElem_toArray, List.getElem_cons_succ, List.getElem_cons_zero, Act.put, List.setIfInBounds_toArray, List.set_cons_zero, List.set_cons_succ])
        refine wpAnyH_ready (rs := [2]) (by kernel_rfl) (by simp) ?_
        refine AllReadyH.cons rfl (fun KK hKK => ?_) AllReadyH.nil
        (try simp only [List.getElem_toArray, List.getElem_cons_succ, List.getElem_cons_zero])
        go_simp
        go_at_call 41
        refine (eight n W1).mono ?_
        rintro e W2 ⟨vA, rfl, ho2, hs2⟩
        have b2 : Below wr.heap.size wr W2 := b1.trans (hs2.mono b1.size)
        have z2 : Whole W2 G 23 ztr := Whole.below z1 hs2 z1.lt
        have oA2 : Own W2 wr.heap.size vA (be8 n) := own_mono ho2 b1.size
        refine hKK.out _ _ (trivial) (fun hHeld => ?_)
        clear hKK KK
        (try simp only [List.getElem_toArray, List.getElem_cons_succ, List.getElem_cons_zero, Act.put, List.setIfInBounds_toArray, List.set_cons_zero, List.set_cons_succ])
        refine wpAnyH_ready (rs := [6]) (by kernel_rfl) (by simp) ?_
        refine AllReadyH.cons rfl (fun KK hKK => ?_) AllReadyH.nil
        (try simp only [List.getElem_toArray, List.getElem_cons_succ, List.getElem_cons_zero])
        go_simp
        go_at_call 41
        refine (eight q W2).mono ?_
        rintro e W3 ⟨vB, rfl, ho3, hs3⟩
        have b3 : Below wr.heap.size wr W3 := b2.trans (hs3.mono b2.size)
        have z3 : Whole W3 G 23 ztr := Whole.below z2 hs3 z2.lt
        have oA3 := own_below oA2 hs3 (Nat.le_refl _)
        have oB3 : Own W3 wr.heap.size vB (be8 q) := own_mono ho3 b2.size
        obtain ⟨AB, cB, rfl, -⟩ := id (Bytes.of_own oB3)
        refine hKK.out _ _ (trivial) (fun hHeld => ?_)
        clear hKK KK
        (try simp only [List.getElem_toArray, List.getElem_cons_succ, List.getElem_cons_zero, Act.put, List.setIfInBounds_toArray, List.set_cons_zero, List.set_cons_succ])
        refine wpAnyH_ready (rs := [7]) (by kernel_rfl) (by simp) ?_
        refine AllReadyH.cons rfl (fun KK hKK => ?_) AllReadyH.nil
        refine step_append_seq (by rfl) _ _ 40 5 (.int .u8 0) 1 (by rfl) Tryd.underlying40 byteInfo byte_size (by omega) (by omega) bf_len bf_one wr.heap.size _ (be8 n) (by rfl) (own_bf oA3) _ AB (be8 q).length cB (be8 q) rfl (by rfl) (seq_bytes (Bytes.of_own oB3)) (by rw [hlen8, hlen8]; omega) b3.size ?_
        intro vC W4 oC0 hs4 hgn4
        have oC4 : Own W4 wr.heap.size vC (be8 n ++ be8 q) := bf_own oC0
        have b4 : Below wr.heap.size wr W4 := b3.trans hs4
        have z4 := own_off (own_bf oA3) z3 hgn4
        refine hKK.out _ _ (trivial) (fun hHeld => ?_)
        clear hKK KK
        (try simp only [List.getElem_toArray, List.getElem_cons_succ, List.getElem_cons_zero, Act.put, List.setIfInBounds_toArray, List.set_cons_zero, List.set_cons_succ])
        refine wpAnyH_ready (rs := [8]) (by kernel_rfl) (by simp) ?_
        refine AllReadyH.cons rfl (fun KK hKK => ?_) AllReadyH.nil
        (try simp only [List.getElem_toArray, List.getElem_cons_succ, List.getElem_cons_zero])
        go_simp
        go_at_call 53
        refine (rword { data := #[115, 116, 114, 101, 97, 109] } (by decide) vC (be8 n ++ be8 q) _ W4 (Bytes.of_own oC4) (by rw [List.length_append, hlen8]; omega) (by rw [List.length_append, hlen8, hlen8]; omega)).mono ?_
        rintro e W5 ⟨vM, rfl, oM0, hs5⟩
        have b5 : Below wr.heap.size wr W5 := b4.trans (hs5.mono b4.size)
        have z5 : Whole W5 G 23 ztr := Whole.below z4 hs5 z4.lt
        rw [sbytes_strw] at oM0
        have oM5 := oM0
        refine hKK.out _ _ (trivial) (fun hHeld => ?_)
        clear hKK KK
        (try simp only [List.getElem_toArray, List.getElem_cons_succ, List.getElem_cons_zero, Act.put, List.setIfInBounds_toArray, List.set_cons_zero, List.set_cons_succ])
        refine wpAnyH_ready (rs := [9]) (by kernel_rfl) (by simp) ?_
        refine AllReadyH.cons rfl (fun KK hKK => ?_) AllReadyH.nil
        (try simp only [List.getElem_toArray, List.getElem_cons_succ, List.getElem_cons_zero])
        have hby := Whole.bytes (Whole.below HK.out (HBW.out.trans (b5.mono HBW.out.size)) (by omega)) (by omega)
        rw [hK] at hby
        go_simp
        go_at_call 47
        refine (ref_hmac _ _ K (strw ++ (be8 n ++ be8 q)) _ _ W5 hby oM5.bytes (by omega) (by rw [List.length_append, List.length_append, hlen8, hlen8]; simp [strw])).mono ?_
        rintro e W6 ⟨rfl, hs6⟩
        rw [← HH.out]
        have b6 : Below wr.heap.size wr W6 := b5.trans (hs6.mono b5.size)
        have z6 : Whole W6 G 23 ztr := Whole.below z5 hs6 z5.lt
        refine hKK.out _ _ (trivial) (fun hHeld => ?_)
        clear hKK KK
        (try simp only [List.getElem_toArray, List.getElem_cons_succ, List.getElem_cons_zero, Act.put, List.setIfInBounds_toArray, List.set_cons_zero, List.set_cons_succ])
        refine wpAnyH_ready (rs := [11]) (by kernel_rfl) (by simp) ?_
        refine AllReadyH.cons rfl (fun KK hKK => ?_) AllReadyH.nil
        (try simp only [List.getElem_toArray, List.getElem_cons_succ, List.getElem_cons_zero])
        obtain ⟨W7, hW7⟩ : ∃ x, x = W6.setRow G (H.map byt).toArray := ⟨_, rfl⟩
        have t7 : TGRow W7 G H := by rw [hW7]; exact Whole.setRow z6 _
        have b7 : Below wr.heap.size wr W7 := by rw [hW7]; exact below_setRow b6 hgl _
        rw [if_pos (by kernel_rfl)]
        refine wp_store_row 23 _ _ rfl G _ rfl rfl 23 _ z6 (by rw [tagSize, tag_size hHl]) (by rw [ztr_size, tag_size hHl]) (tag_one _) ?_
        rw [← hW7]
        clear hW7
        refine hKK.out _ _ (trivial) (fun hHeld => ?_)
        clear hKK KK
        (try simp only [List.getElem_toArray, List.getElem_cons_succ, List.getElem_cons_zero, Act.put, List.setIfInBounds_toArray, List.set_cons_zero, List.set_cons_succ])
        refine wpAnyH_done (by kernel_rfl) ?_ _
        go_wp2_with fail
        go_meet
        exact ⟨G, rfl, t7, hgl, b7⟩
    case rest =>
      obtain ⟨g9, rfl, ht, hgl, hbc⟩ := hcut
      have hbd : Below wr.heap.size wr wc.drew := hbc.drew
      have htd : TGRow wc.drew g9 H := Whole.drew ht
      have oc : Own wc.drew p.heap.size (.slice A1 b.length c1) (stj K n b j) := own_below HO.out hbd (Nat.le_refl _)
      obtain ⟨g, cap, hve, hge, hcell, hfr, hset⟩ := own_cell oc j (by rw [stj_length]; exact hlt)
      have hsl := stj_length K n b j
      injection hve with hv1 hv2 hv3
      subst hv1 hv3
      clear hv2 hsl
      obtain ⟨r, hr⟩ : ∃ r, r = j % 32 := ⟨_, rfl⟩
      have e4 : (j : Int).tmod 32 = (r : Int) := by rw [Int.tmod_eq_emod_of_nonneg (by omega), hr]; omega
      have hr32 : (r : Int) < 32 := by omega
      have hr0 : (0 : Int) ≤ (r : Int) := by omega
      have hrn : r < H.length := by omega
      obtain ⟨X, hX⟩ : ∃ X, X = b.getD j 0 := ⟨_, rfl⟩
      obtain ⟨Y, hY⟩ : ∃ Y, Y = H.getD r 0 := ⟨_, rfl⟩
      rw [stj_get, ← hX] at hcell
      have hcy : wc.drew.cell? ⟨g9, r, none⟩ = some (byt Y) := by
        rw [Whole.cell htd, List.getElem?_toArray, List.getElem?_map, List.getElem?_eq_getElem hrn, hY, List.getD_eq_getElem?_getD, List.getElem?_eq_getElem hrn]
        rfl
      have hxor := bits_xor_bv X Y
      have hke : kstr K n j = Y := by unfold kstr; rw [hY, HH.out, HQ.out, hr]
      have hfin : Own (wc.drew.setCell ⟨g, j, none⟩ (byt (X ^^^ Y))) p.heap.size (.slice (some ⟨g, 0, none⟩) b.length c1) (stj K n b (j + 1)) := by
        have := hset (X ^^^ Y)
        rw [← stj_set K n b j hlt, hke, ← hX]
        exact this
      have hbf : Below p.heap.size p (wc.drew.setCell ⟨g, j, none⟩ (byt (X ^^^ Y))) := (HBW.out.trans (hbd.mono HBW.out.size)).setCell (p := ⟨g, j, none⟩) hge _
      have HF := Lib.hid (And.intro hfin hbf)
      have j0 : (0 : Int) ≤ (j : Int) := by omega
      have jb : (j : Int) < (b.length : Int) := by omega
      clear hset hfin hbf hbd htd oc ht hbc hX hY hke hr hrn hst e1 e2 e3 hge
      go_upto_region 6 with fail
      refine wp_region_G (fun W : World => W.cell? ⟨g, j, none⟩ = some (byt X) ∧ W.cell? ⟨g9, r, none⟩ = some (byt Y)) (fun _ => True) [12] (by kernel_rfl) ?_
      generalize wc.drew = W0 at hcell hfr hcy HF ⊢
      have hHeld : (fun W : World => W.cell? ⟨g, j, none⟩ = some (byt X) ∧ W.cell? ⟨g9, r, none⟩ = some (byt Y)) W0 := ⟨hcell, hcy⟩
      apply AnyG_pure (i := 0) rfl (by kernel_rfl) (by kernel_rfl) (by kernel_rfl) (by kernel_rfl)
      case hQ => exact fun _ _ _ h => h
      case hB => exact trivial
      case hC => exact .inr hHeld
      case hy => (refine Or.inl ⟨by rfl, ?_⟩; intro w hSw; (try go_split_ands); go_simp; (try with_reducible rfl))
      (try simp only [List.getElem_toArray, List.getElem_cons_zero, Act.put, List.setIfInBounds_toArray, List.set_cons_zero, List.set_cons_succ])
      apply AnyG_pure (i := 1) rfl (by kernel_rfl) (by kernel_rfl) (by kernel_rfl) (by kernel_rfl)
      case hQ => exact fun _ _ _ h => h
      case hB => exact trivial
      case hC => exact .inr hHeld
      case hy => (refine Or.inl ⟨by rfl, ?_⟩; intro w hSw; (try go_split_ands); go_simp; (try with_reducible rfl))
      (try simp only [List.getElem_toArray, List.getElem_cons_succ, List.getElem_cons_zero, Act.put, List.setIfInBounds_toArray, List.set_cons_zero, List.set_cons_succ])
      apply AnyG_pure (i := 2) rfl (by kernel_rfl) (by kernel_rfl) (by kernel_rfl) (by kernel_rfl)
      case hQ => exact fun _ _ _ h => h
      case hB => exact trivial
      case hC => exact .inr hHeld
      case hy => (refine Or.inl ⟨by rfl, ?_⟩; intro w hSw; (try go_split_ands); go_simp; (try with_reducible rfl))
      (try simp only [List.getElem_toArray, List.getElem_cons_succ, List.getElem_cons_zero, Act.put, List.setIfInBounds_toArray, List.set_cons_zero, List.set_cons_succ])
      apply AnyG_pure (i := 3) rfl (by kernel_rfl) (by kernel_rfl) (by kernel_rfl) (by kernel_rfl)
      case hQ => exact fun _ _ _ h => h
      case hB => exact trivial
      case hC => exact .inr hHeld
      case hy => (refine Or.inl ⟨by rfl, ?_⟩; intro w hSw; (try go_split_ands); go_simp; (try with_reducible rfl))
      (try simp only [List.getElem_toArray, List.getElem_cons_succ, List.getElem_cons_zero, Act.put, List.setIfInBounds_toArray, List.set_cons_zero, List.set_cons_succ])
      apply AnyG_pure (i := 4) rfl (by kernel_rfl) (by kernel_rfl) (by kernel_rfl) (by kernel_rfl)
      case hQ => exact fun _ _ _ h => h
      case hB => exact trivial
      case hC => exact .inr hHeld
      case hy => (refine Or.inl ⟨by rfl, ?_⟩; intro w hSw; (try go_split_ands); go_simp; (try with_reducible rfl))
      (try simp only [List.getElem_toArray, List.getElem_cons_succ, List.getElem_cons_zero, Act.put, List.setIfInBounds_toArray, List.set_cons_zero, List.set_cons_succ])
      apply AnyG_take (i := 5) rfl (by kernel_rfl) (by kernel_rfl) (by kernel_rfl) (by kernel_rfl)
      case hQ => exact fun _ _ _ h => h
      case hB => exact trivial
      case hC => exact hHeld
      case hy => (refine Or.inl ⟨by rfl, ?_⟩; intro w hSw; (try go_split_ands); go_simp; (try with_reducible rfl))
      (try simp only [List.getElem_toArray, List.getElem_cons_succ, List.getElem_cons_zero, Act.put, List.setIfInBounds_toArray, List.set_cons_zero, List.set_cons_succ])
      apply AnyG_pure (i := 6) rfl (by kernel_rfl) (by kernel_rfl) (by kernel_rfl) (by kernel_rfl)
      case hQ => exact fun _ _ _ h => h
      case hB => exact trivial
      case hC => exact .inr hHeld
      case hy => (refine Or.inl ⟨by rfl, ?_⟩; intro w hSw; (try go_split_ands); go_simp; (try with_reducible rfl))
      (try simp only [List.getElem_toArray, List.getElem_cons_succ, List.getElem_cons_zero, Act.put, List.setIfInBounds_toArray, List.set_cons_zero, List.set_cons_succ])
      apply AnyG_pure (i := 7) rfl (by kernel_rfl) (by kernel_rfl) (by kernel_rfl) (by kernel_rfl)
      case hQ => exact fun _ _ _ h => h
      case hB => exact trivial
      case hC => exact .inr hHeld
      case hy => (refine Or.inl ⟨by rfl, ?_⟩; intro w hSw; (try go_split_ands); go_simp; (try with_reducible rfl))
      (try simp only [List.getElem_toArray, List.getElem_cons_succ, List.getElem_cons_zero, Act.put, List.setIfInBounds_toArray, List.set_cons_zero, List.set_cons_succ])
      apply AnyG_pure (i := 8) rfl (by kernel_rfl) (by kernel_rfl) (by kernel_rfl) (by kernel_rfl)
      case hQ => exact fun _ _ _ h => h
      case hB => exact trivial
      case hC => exact .inr hHeld
      case hy => (refine Or.inl ⟨by rfl, ?_⟩; intro w hSw; (try go_split_ands); go_simp; (try with_reducible rfl))
      (try simp only [List.getElem_toArray, List.getElem_cons_succ, List.getElem_cons_zero, Act.put, List.setIfInBounds_toArray, List.set_cons_zero, List.set_cons_succ])
      apply AnyG_take (i := 9) rfl (by kernel_rfl) (by kernel_rfl) (by kernel_rfl) (by kernel_rfl)
      case hQ => exact fun _ _ _ h => h
      case hB => exact trivial
      case hC => exact hHeld
      case hy => (refine Or.inl ⟨by rfl, ?_⟩; intro w hSw; (try go_split_ands); go_simp; (try with_reducible rfl))
      (try simp only [List.getElem_toArray, List.getElem_cons_succ, List.getElem_cons_zero, Act.put, List.setIfInBounds_toArray, List.set_cons_zero, List.set_cons_succ])
      apply AnyG_pure (i := 10) rfl (by kernel_rfl) (by kernel_rfl) (by kernel_rfl) (by kernel_rfl)
      case hQ => exact fun _ _ _ h => h
      case hB => exact trivial
      case hC => exact .inr hHeld
      case hy => (refine Or.inl ⟨by rfl, ?_⟩; intro w hSw; (try go_split_ands); go_simp; (try with_reducible rfl))
      (try simp only [List.getElem_toArray, List.getElem_cons_succ, List.getElem_cons_zero, Act.put, List.setIfInBounds_toArray, List.set_cons_zero, List.set_cons_succ])
      apply AnyG_pure (i := 11) rfl (by kernel_rfl) (by kernel_rfl) (by kernel_rfl) (by kernel_rfl)
      case hQ => exact fun _ _ _ h => h
      case hB => exact trivial
      case hC => exact .inr hHeld
      case hy => (refine Or.inl ⟨by rfl, ?_⟩; intro w hSw; (try go_split_ands); go_simp; (try with_reducible rfl))
      (try simp only [List.getElem_toArray, List.getElem_cons_succ, List.getElem_cons_zero, Act.put, List.setIfInBounds_toArray, List.set_cons_zero, List.set_cons_succ])
      refine AnyG_one (i := 12) (by kernel_rfl) rfl (fun KK hKK => ?_)
      (try simp only [List.getElem_toArray, List.getElem_cons_succ, List.getElem_cons_zero])
      go_simp
      obtain ⟨W5, hW5⟩ : ∃ x, x = W0.setCell ⟨g, j, none⟩ (byt (X ^^^ Y)) := ⟨_, rfl⟩
      rw [← hW5] at HF
      change KK _ (W0.setCell ⟨g, j, none⟩ (byt (X ^^^ Y)))
      rw [← hW5]
      clear hW5
      refine hKK.out _ _ (.inl (by kernel_rfl)) trivial ?_
      clear hKK KK
      (try simp only [List.getElem_toArray, List.getElem_cons_succ, List.getElem_cons_zero, Act.put, List.setIfInBounds_toArray, List.set_cons_zero, List.set_cons_succ])
      refine AnyG_done (by kernel_rfl) ?_ _
      clear hHeld hcell hcy hfr
      go_wp2_with fail
      go_roundw
      case rel => exact ⟨j + 1, by go_num, by omega, HF.out.1, HF.out.2⟩
      case measure => simp [intOf]; omega
end Go.Proofs.YteglmfimgdgchaaDoor
namespace Go.Proofs.YteglmfimgdgchaaDoor
open Go Go.RowKit Sh Leaf
namespace Sh

def boxw : List B8 := [98#8, 111#8, 120#8]
/-- The bytes of the next box. -/
def boxh (k : List B8) (z : Int) (m : List B8) : List B8 := be8 z.toNat ++ strm k z.toNat m
def boxb (a : Alg) (k : List B8) (z : Int) (m : List B8) : List B8 :=
  if a.free = true then sym 98#8 ((a.boxes.length + 1 : Nat) : Int) ++ List.replicate (m.length + 8) 0 else boxh k z m ++ hmac k (boxw ++ boxh k z m)
def fndb (l : List Bx) (k : List B8) (z : Int) (m : List B8) : Option (List B8) := (l.find? fun e => decide (e.key = k ∧ e.nonce = z ∧ e.plain = m)).map (·.box)
def aSeal (a : Alg) (k : List B8) (z : Int) (m : List B8) : Alg × List B8 × Int :=
  if z < 0 ∨ 281474976710656 < z then (zalg, [], 1)
  else if 256 < m.length then (zalg, [], 2)
  else match fndb a.boxes k z m with
    | some b => (a, b, 0)
    | none => if 65536 ≤ a.boxes.length then (zalg, [], 2) else ({ a with boxes := a.boxes ++ [⟨k, z, m, boxb a k z m⟩] }, boxb a k z m, 0)
theorem fndb_drop {l : List Bx} {j : Nat} {e : Bx} (h : l[j]? = some e) (k : List B8) (z : Int) (m : List B8) : fndb (l.drop j) k z m = if e.key = k ∧ e.nonce = z ∧ e.plain = m then some e.box else fndb (l.drop (j + 1)) k z m := by
  have hj := (List.getElem?_eq_some_iff.1 h).1
  have he := (List.getElem?_eq_some_iff.1 h).2
  rw [List.drop_eq_getElem_cons hj, he]
  unfold fndb
  rw [List.find?_cons]
  by_cases h : e.key = k ∧ e.nonce = z ∧ e.plain = m
  · rw [if_pos h, decide_eq_true h]; rfl
  · rw [if_neg h, decide_eq_false h]
theorem fndb_end (l : List Bx) (k : List B8) (z : Int) (m : List B8) : fndb (l.drop l.length) k z m = none := by rw [List.drop_length]; rfl
theorem boxh_length (k : List B8) (z : Int) (m : List B8) : (boxh k z m).length = 8 + m.length := by unfold boxh; rw [List.length_append, be8_length, strm_length]
theorem boxb_length (a : Alg) (k : List B8) (z : Int) (m : List B8) : (boxb a k z m).length = m.length + 40 := by
  unfold boxb
  split
  · rw [List.length_append, sym_length, List.length_replicate]; omega
  · rw [List.length_append, boxh_length, hmac_length]; omega
end Sh
/-- The result is an algebra, bytes and a number. -/
def SeR (w : World) (Q Q' : Nat → Prop) (e : Ending) (r : Alg × List B8 × Int) : Prop := ∃ x v, e = .returned (.tuple #[x, v, .int .i64 r.2.2]) ∧ AlV w Q x r.1 ∧ Bytes w Q' v r.2.1
theorem results_algb {w : World} {g : Nat} {fn : Func} {p q r : Tmp} (h : fn.results = #[.cell p 28, .tmp q, .tmp r]) (tmps : Array Value) {cs : Array Value} (hp : tmps.getD p undef = .pointer (some ⟨g, 0, none⟩)) (y : Value) (hq : tmps.getD q undef = y) (x : Value) (hr : tmps.getD r undef = x)
    (h8 : cs.size = 36) (hg : Whole w g 28 cs) : (results fn tmps).run Tryd.prog w = .ok (.tuple #[.agg cs, y, x]) w := by
  have hp' : tmps[p]?.getD undef = .pointer (some ⟨g, 0, none⟩) := by simpa using hp
  have hq' : tmps[q]?.getD undef = y := by simpa using hq
  have hr' : tmps[r]?.getD undef = x := by simpa using hr
  simp [results, h, hp', hq', hr', asAddr, run_loadVar_row w g 28 28 cs (0, 0) _ hg Tryd.underlying28 rfl (by rw [algSize, h8])]
theorem bytes_nil (w : World) (Q : Nat → Prop) : Bytes w Q (.slice none 0 0) [] := ⟨none, 0, rfl, Nat.le_refl _, by unfold maxLen; omega, fun _ => rfl, fun h => by cases h⟩
end Go.Proofs.YteglmfimgdgchaaDoor
namespace Go.Proofs.YteglmfimgdgchaaDoor
open Go Go.RowKit Sh Leaf
namespace Sh

theorem fnd_snoc (l : List Me) (x : Me) (k m : List B8) : fnd (l ++ [x]) k m = match fnd l k m with | some t => some t | none => if x.key = k ∧ x.msg = m then some x.tag else none := by
  unfold fnd
  rw [List.find?_append]
  cases h : List.find? (fun e => decide (e.key = k ∧ e.msg = m)) l with
  | some e => rfl
  | none =>
    simp only [Option.none_or, Option.map_none]
    by_cases hx : x.key = k ∧ x.msg = m
    · rw [if_pos hx, List.find?_cons, decide_eq_true hx]; rfl
    · rw [if_neg hx, List.find?_cons, decide_eq_false hx]; rfl
theorem fndb_snoc (l : List Bx) (x : Bx) (k : List B8) (z : Int) (m : List B8) : fndb (l ++ [x]) k z m = match fndb l k z m with | some t => some t | none => if x.key = k ∧ x.nonce = z ∧ x.plain = m then some x.box else none := by
  unfold fndb
  rw [List.find?_append]
  cases h : List.find? (fun e => decide (e.key = k ∧ e.nonce = z ∧ e.plain = m)) l with
  | some e => rfl
  | none =>
    simp only [Option.none_or, Option.map_none]
    by_cases hx : x.key = k ∧ x.nonce = z ∧ x.plain = m
    · rw [if_pos hx, List.find?_cons, decide_eq_true hx]; rfl
    · rw [if_neg hx, List.find?_cons, decide_eq_false hx]; rfl
theorem fnd_mem {l : List Me} {k m t : List B8} (h : fnd l k m = some t) : ∃ e ∈ l, e.key = k ∧ e.msg = m ∧ e.tag = t := by
  unfold fnd at h
  obtain ⟨e, he, rfl⟩ := Option.map_eq_some_iff.1 h
  have h1 := List.find?_some he
  have h2 : e.key = k ∧ e.msg = m := by simpa using h1
  exact ⟨e, List.mem_of_find?_eq_some he, h2.1, h2.2, rfl⟩
theorem fndb_mem {l : List Bx} {k : List B8} {z : Int} {m t : List B8} (h : fndb l k z m = some t) : ∃ e ∈ l, e.key = k ∧ e.nonce = z ∧ e.plain = m ∧ e.box = t := by
  unfold fndb at h
  obtain ⟨e, he, rfl⟩ := Option.map_eq_some_iff.1 h
  have h1 := List.find?_some he
  have h2 : e.key = k ∧ e.nonce = z ∧ e.plain = m := by simpa using h1
  exact ⟨e, List.mem_of_find?_eq_some he, h2.1, h2.2.1, h2.2.2, rfl⟩
structure GoodA (a : Alg) : Prop where
  fm : ∀ e ∈ a.macs, fnd a.macs e.key e.msg = some e.tag
  cm : a.free = false → ∀ e ∈ a.macs, e.tag = hmac e.key e.msg
  lm : ∀ e ∈ a.macs, e.msg.length ≤ 4096
  fb : ∀ b ∈ a.boxes, fndb a.boxes b.key b.nonce b.plain = some b.box
  cb : a.free = false → ∀ b ∈ a.boxes, b.box = boxh b.key b.nonce b.plain ++ hmac b.key (boxw ++ boxh b.key b.nonce b.plain)
  lb : ∀ b ∈ a.boxes, b.plain.length ≤ 256
  nb : ∀ b ∈ a.boxes, 0 ≤ b.nonce ∧ b.nonce ≤ 281474976710656
  tb : a.free = true → ∀ (i : Nat) b, a.boxes[i]? = some b → b.box = sym 98#8 ((i + 1 : Nat) : Int) ++ List.replicate (b.plain.length + 8) 0
  tm : a.free = true → ∀ (i : Nat) e, a.macs[i]? = some e → e.tag = sym 109#8 ((i + 1 : Nat) : Int)
theorem snoc_get {α : Type} {l : List α} {x y : α} {i : Nat} (h : (l ++ [x])[i]? = some y) : l[i]? = some y ∨ (i = l.length ∧ y = x) := by
  rw [List.getElem?_append] at h
  split at h
  · exact .inl h
  · right
    obtain ⟨hi, h⟩ := List.getElem?_eq_some_iff.1 h
    have : i - l.length = 0 := by simp at hi; omega
    refine ⟨by omega, ?_⟩
    simp [this] at h
    exact h.symm
theorem good_new (f : Bool) (K : List B8) : GoodA ⟨f, K, 0, [], []⟩ := ⟨by simp, by simp, by simp, by simp, by simp, by simp, by simp, by simp, by simp⟩
theorem good_key {a : Alg} (h : GoodA a) : GoodA (aKey a).1 := by
  unfold aKey
  split
  · exact good_new _ _
  · exact ⟨h.fm, h.cm, h.lm, h.fb, h.cb, h.lb, h.nb, h.tb, h.tm⟩
theorem good_mac {a : Alg} {K m : List B8} (h : GoodA a) : GoodA (aMac a K m).1 := by
  unfold aMac
  split
  · exact good_new _ _
  rename_i hm
  split
  · exact h
  rename_i hf
  split
  · exact good_new _ _
  refine ⟨?_, ?_, ?_, h.fb, h.cb, h.lb, h.nb, h.tb, ?_⟩
  · intro e he
    show fnd (a.macs ++ [_]) _ _ = _
    rw [fnd_snoc]
    rcases List.mem_append.1 he with he | he
    · rw [h.fm e he]
    · rw [List.mem_singleton.1 he]
      simp only [hf]
      simp
  · intro hfr e he
    rcases List.mem_append.1 he with he | he
    · exact h.cm hfr e he
    · rw [List.mem_singleton.1 he]
      show ntag a K m = _
      unfold ntag
      rw [if_neg (by rw [show a.free = false from hfr]; simp)]
  · intro e he
    rcases List.mem_append.1 he with he | he
    · exact h.lm e he
    · rw [List.mem_singleton.1 he]
      show m.length ≤ 4096
      omega
  · intro hfr i e he
    rcases snoc_get he with he | ⟨rfl, rfl⟩
    · exact h.tm hfr i e he
    · show ntag a K m = _
      unfold ntag
      rw [if_pos hfr]
theorem good_seal {a : Alg} {K m : List B8} {z : Int} (h : GoodA a) : GoodA (aSeal a K z m).1 := by
  unfold aSeal
  split
  · exact good_new _ _
  rename_i hz
  split
  · exact good_new _ _
  rename_i hm
  split
  · exact h
  rename_i hf
  split
  · exact good_new _ _
  refine ⟨h.fm, h.cm, h.lm, ?_, ?_, ?_, ?_, ?_, h.tm⟩
  · intro e he
    show fndb (a.boxes ++ [_]) _ _ _ = _
    rw [fndb_snoc]
    rcases List.mem_append.1 he with he | he
    · rw [h.fb e he]
    · rw [List.mem_singleton.1 he]
      simp only [hf]
      simp
  · intro hfr e he
    rcases List.mem_append.1 he with he | he
    · exact h.cb hfr e he
    · rw [List.mem_singleton.1 he]
      show boxb a K z m = _
      unfold boxb
      rw [if_neg (by rw [show a.free = false from hfr]; simp)]
  · intro e he
    rcases List.mem_append.1 he with he | he
    · exact h.lb e he
    · rw [List.mem_singleton.1 he]
      show m.length ≤ 256
      omega
  · intro e he
    rcases List.mem_append.1 he with he | he
    · exact h.nb e he
    · rw [List.mem_singleton.1 he]
      show 0 ≤ z ∧ z ≤ 281474976710656
      omega
  · intro hfr i e he
    rcases snoc_get he with he | ⟨rfl, rfl⟩
    · exact h.tb hfr i e he
    · show boxb a K z m = _
      unfold boxb
      rw [if_pos hfr]
end Sh
end Go.Proofs.YteglmfimgdgchaaDoor
namespace Go.Proofs.YteglmfimgdgchaaDoor
open Go Go.RowKit Sh Leaf
theorem sbytes_boxw : sbytes { data := #[98, 111, 120] } = boxw := by with_unfolding_all rfl
theorem own_setRow {w : World} {base G : Nat} {v : Value} {l : List B8} {cs : Array Value} (h : Own w base v l) (hz : Whole w G 23 cs) (cs' : Array Value) : Own (w.setRow G cs') base v l := by
  refine ⟨h.1, ?_⟩
  rcases h.2 with h2 | ⟨g', cap', cur', hv, hg', hh', r⟩
  · exact .inl h2
  · refine .inr ⟨g', cap', cur', hv, hg', ?_, r⟩
    have hne : g' ≠ G := by
      intro e
      subst e
      have hz' := hz.eq
      rw [hz'] at hh'
      injection hh' with hh'
      injection hh' with _ ht
      exact tag_ne_u8 ht
    exact (setRow_other _ _ g' _ hne).trans hh'
set_option linter.unusedSimpArgs false in
set_option linter.unusedVariables false in
set_option maxRecDepth 100000 in
set_option maxHeartbeats 8000000 in
theorem rseal {w : World} {Q Q2 : Nat → Prop} {x : Value} {B : Option Addr} {d : Nat} {a : Alg} {K m : List B8} {z : Int} (hx : AlV w Q x a) (hlen : a.boxes.length < 1000) (hK : K.length = 32) (hz : i64q z) (hm : Bytes w Q2 (.slice B m.length d) m) (hml : m.length ≤ 100000) :
    Calls Tryd.prog 34 #[x, .agg (K.map byt).toArray, .int .i64 z, .slice B m.length d] w fun e w' => SeR w' (fun g => Q g ∨ w.heap.size ≤ g) (fun g => w.heap.size ≤ g) e (aSeal a K z m) ∧ Below w.heap.size w w' := by
  have hx0 := hx
  obtain ⟨Am, cm, Ab, cb, rfl, hM, hBx, hA⟩ := hx
  obtain ⟨nb, hnb⟩ : ∃ n, n = a.boxes.length := ⟨_, rfl⟩
  rw [← hnb] at hlen hx0 ⊢
  obtain ⟨p, hp⟩ : ∃ p, p = ((w.alloc (.cells (alc a.free a.seed a.fresh (.slice Am a.macs.length cm) (.slice Ab nb cb)) 28)).alloc (.cells (K.map byt).toArray 23)).alloc (.cells zar 28) := ⟨_, rfl⟩
  have hr : ALRow p w.heap.size a.free a.seed a.fresh (.slice Am a.macs.length cm) (.slice Ab nb cb) := by rw [hp]; exact ((Whole.here _ _ _).alloc _).alloc _
  have hk : TGRow p (w.heap.size + 1) K := by rw [hp]; exact (Whole.at_ _ _ _ _ (by simp)).alloc _
  have h8 : Whole p (w.heap.size + 1 + 1) 28 zar := by rw [hp]; exact Whole.at_ _ _ _ _ (by simp)
  have hb : Below w.heap.size w p := by rw [hp]; exact (((Below.refl _ _).alloc (Nat.le_refl _) _).alloc (by simp) _).alloc (by simp; omega) _
  have hps : (w.heap.size + 1 + 1) < p.heap.size := h8.lt
  have HX := Lib.hid hx0
  have HMC := Lib.hid hM
  have HBX := Lib.hid hBx
  have HA := Lib.hid hA
  have HM := Lib.hid hm
  have HR := Lib.hid hr
  have HK := Lib.hid hk
  have H8 := Lib.hid h8
  have HB := Lib.hid hb
  have HNB := Lib.hid hnb
  obtain ⟨hz0, hz1⟩ := hz
  clear hx0 hM hBx hA hm hr hk h8 hb hnb
  obtain ⟨R, hR⟩ : ∃ R, R = aSeal a K z m := ⟨_, rfl⟩
  have hRR := hR
  unfold aSeal at hRR
  rw [← hR]
  clear hR
  go_enter Tryd.func34, Tryd.ntmps34
  go_upto_region 1 with fail
  rw [zar_lit, ← hp]
  clear hp
  by_cases hneg : z < 0
  · skip
    rw [if_pos (Or.inl hneg)] at hRR
    have HRR := Lib.hid hRR
    clear hRR
    go_wp2_with (with_reducible refine wpList_store_alg rfl _ _ rfl (g := (w.heap.size + 1 + 1)) rfl rfl H8.out zar_size rfl (by with_unfolding_all rfl) ?_)
    rw [zar_lit]
    have e1 := Whole.setRow H8.out zar
    refine bodyPost_ret (results_algb Tryd.results34 _ rfl _ rfl _ rfl zar_size e1) rfl ?_
    show SeR _ _ _ _ R ∧ _
    rw [HRR.out]
    exact ⟨⟨_, _, rfl, alv_zero _ _, bytes_nil _ _⟩, below_setRow HB.out (by omega) _⟩
  by_cases hbig : 281474976710656 < z
  · skip
    rw [if_pos (Or.inr hbig)] at hRR
    have HRR := Lib.hid hRR
    clear hRR
    go_wp2_with (with_reducible refine wpList_store_alg rfl _ _ rfl (g := (w.heap.size + 1 + 1)) rfl rfl H8.out zar_size rfl (by with_unfolding_all rfl) ?_)
    rw [zar_lit]
    have e1 := Whole.setRow H8.out zar
    refine bodyPost_ret (results_algb Tryd.results34 _ rfl _ rfl _ rfl zar_size e1) rfl ?_
    show SeR _ _ _ _ R ∧ _
    rw [HRR.out]
    exact ⟨⟨_, _, rfl, alv_zero _ _, bytes_nil _ _⟩, below_setRow HB.out (by omega) _⟩
  rw [if_neg (by omega)] at hRR
  by_cases hlong : 256 < m.length
  · skip
    rw [if_pos hlong] at hRR
    have HRR := Lib.hid hRR
    have hl1 : (256 : Int) < (m.length : Int) := by omega
    clear hRR hlong
    go_wp2_with (with_reducible refine wpList_store_alg rfl _ _ rfl (g := (w.heap.size + 1 + 1)) rfl rfl H8.out zar_size rfl (by with_unfolding_all rfl) ?_)
    rw [zar_lit]
    have e1 := Whole.setRow H8.out zar
    refine bodyPost_ret (results_algb Tryd.results34 _ rfl _ rfl _ rfl zar_size e1) rfl ?_
    show SeR _ _ _ _ R ∧ _
    rw [HRR.out]
    exact ⟨⟨_, _, rfl, alv_zero _ _, bytes_nil _ _⟩, below_setRow HB.out (by omega) _⟩
  rw [if_neg hlong] at hRR
  have hl1 : ¬ (256 : Int) < (m.length : Int) := by omega
  obtain ⟨f, hf⟩ : ∃ f, f = fndb a.boxes K z m := ⟨_, rfl⟩
  rw [← hf] at hRR
  have HRR0 := Lib.hid hRR
  have HF0 := Lib.hid hf
  clear hRR hf
  go_wp2_with fail
  go_loopw [11] (fun v wr => ∃ j : Nat, v = .int .i64 j ∧ j ≤ nb ∧ fndb (a.boxes.drop j) K z m = f ∧ Below p.heap.size p wr) (fun v _ => nb - (intOf v).toNat)
  case atStart => exact ⟨0, rfl, by omega, by rw [List.drop_zero]; exact HF0.out.symm, Below.refl _ _⟩
  case round =>
    obtain ⟨j, rfl, hj, hf, hbw⟩ := hrel
    have HF := Lib.hid hf
    have HBW := Lib.hid hbw
    have hpw : p.heap.size ≤ wr.heap.size := hbw.size
    obtain ⟨c0, c33, c34, c35⟩ := ALRow.cells (Whole.below HR.out hbw (by omega))
    clear hf hbw c0 c33 c34
    by_cases hlt : j < nb
    case neg =>
      obtain rfl : j = nb := by omega
      have HXN : Hid (f = none) := Lib.hid (by have := HF.out; rw [HNB.out, fndb_end] at this; exact this.symm)
      obtain ⟨zn, rfl⟩ := Int.eq_ofNat_of_zero_le hneg
      obtain ⟨bx, hbx⟩ : ∃ b, b = boxb a K (zn : Int) m := ⟨_, rfl⟩
      have hbl : bx.length = m.length + 40 := by rw [hbx]; exact boxb_length _ _ _ _
      have hRR : R = ({ a with boxes := a.boxes ++ [⟨K, (zn : Int), m, bx⟩] }, bx, 0) := by
        have := HRR0.out
        rw [HXN.out] at this
        simp only [if_neg (show ¬ 65536 ≤ a.boxes.length by have := HNB.out; omega)] at this
        rw [hbx]; exact this
      have HRR := Lib.hid hRR
      have HBXE := Lib.hid hbx
      have HBL := Lib.hid hbl
      have hzn : zn ≤ 281474976710656 := by omega
      have hmn : m.length ≤ 256 := by omega
      have hc0 := (ALRow.cells (Whole.below HR.out HBW.out (by omega))).1
      have hln2 : ¬ (65536 : Int) ≤ (j : Int) := by omega
      have HRR1 := HRR
      have hst := fun g W => run_sliceAt_whole (P := Tryd.prog) (t := 23) (e := 5) (n := 32) Tryd.underlying23 (by kernel_rfl) g W
      have HZ := Lib.hid (And.intro hzn (And.intro hneg (And.intro hbig (And.intro hz0 hz1))))
      have HMN := Lib.hid hmn
      clear hRR hbx hbl HRR0 HF HF0 HRR1 hzn hneg hbig hz0 hz1 hmn hlong hl1
      clear hst
      obtain ⟨E, hE⟩ : ∃ E, E = a.free := ⟨_, rfl⟩
      rw [← hE] at hc0
      have HE := Lib.hid hE
      clear hE
      go_upto_if 66 with fail
      go_cut [13, 14, 15] (fun v s t wx => ∃ (D : Option Addr) (dc : Nat), v = .slice D bx.length dc ∧ Bytes wx (fun g => p.heap.size ≤ g) (.slice D bx.length dc) bx ∧ Below p.heap.size p wx)
      case first =>
        have hzn := HZ.out.1
        have hmn := HMN.out
        have hst := fun g W => run_sliceAt_whole (P := Tryd.prog) (t := 23) (e := 5) (n := 32) Tryd.underlying23 (by kernel_rfl) g W
        cases E with
        | true =>
          have hsy := rsymbol 98#8 ((j + 1 : Nat) : Int) wr
          rw [bv98, show ((j + 1 : Nat) : Int) = (j : Int) + 1 by omega] at hsy
          obtain ⟨S, hS⟩ : ∃ S, S = sym 98#8 ((j : Int) + 1) := ⟨_, rfl⟩
          have hSl : S.length = 32 := by rw [hS]; exact sym_length _ _
          rw [← hS] at hsy
          have HSS := Lib.hid hS
          clear hS
          go_wp2_with fail
          refine hsy.mono ?_
          rintro e w1 ⟨rfl, hb1⟩
          clear hsy c35 hc0
          have hp1 : p.heap.size ≤ w1.heap.size := Nat.le_trans hpw hb1.size
          go_upto_region 16 with (with_reducible refine wpList_store_tag rfl _ _ rfl (g := w1.heap.size) rfl rfl (Whole.here w1 _ _) rfl (tag_size hSl) (tag_one _) ?_)
          rw [ztr_lit]
          obtain ⟨u, hu⟩ : ∃ x, x = (w1.alloc (.cells ztr 23)).setRow w1.heap.size (S.map byt).toArray := ⟨_, rfl⟩
          have ht : TGRow u w1.heap.size S := by rw [hu]; exact Whole.setRow (Whole.here _ _ _) _
          have hbu : Below w1.heap.size w1 u := by rw [hu]; exact below_setRow ((Below.refl _ _).alloc (Nat.le_refl _) _) (Nat.le_refl _) _
          rw [← hu]
          clear hu
          have HBU : Hid (Below p.heap.size p u) := Lib.hid (HBW.out.trans ((hb1.mono hpw).trans (hbu.mono hp1)))
          clear hb1 hbu
          go_wp2_with (at_builtin; refine wpList_append_tag_zeros rfl _ _ rfl w1.heap.size S rfl ht hSl (m.length + 8) (by with_unfolding_all rfl) (by omega) (by omega) ?_; intro v2 w2 ho2 hb2)
          have hbxe : S ++ List.replicate (m.length + 8) 0 = bx := by
            rw [HBXE.out, HSS.out]
            unfold boxb
            rw [if_pos HE.out.symm, ← HNB.out]
            rfl
          rw [hbxe] at ho2
          obtain ⟨D, dc, rfl, -⟩ := id (Bytes.of_own ho2)
          go_meet
          exact ⟨D, dc, rfl, (Bytes.of_own ho2).mono (fun g _ h => by have h : u.heap.size ≤ g := h; have := HBU.out.size; omega), HBU.out.trans (hb2.mono HBU.out.size)⟩
        | false =>
          have hwz : IntKind.u64.wrap (zn : Int) = (zn : Int) := by rw [IntKind.wrap_u64]; omega
          have hlen8 : (be8 zn).length = 8 := be8_length zn
          have hKl : (K.map byt).length = 32 := by rw [List.length_map, hK]
          have hstl : (strm K zn m).length = m.length := strm_length K zn m
          clear hc0 c35
          go_upto_region 17 with fail
          have hk0 : TGRow wr.drew (w.heap.size + 1) K := Whole.drew (Whole.below HK.out HBW.out (by omega))
          have b0 : Below p.heap.size p wr.drew := HBW.out.drew
          have hm0 := Lib.hid ((HM.out.below HB.out (Nat.le_refl _)).below b0 (Nat.le_refl _))
          have hpw0 : p.heap.size ≤ wr.drew.heap.size := hpw
          refine wp_region_held_drew (S := fun W : World => W.rangeAt (w.heap.size + 1) 0 (K.map byt)) (by kernel_rfl) (TGRow.range hk0) (fun hHeld => ?_)
          generalize wr.drew = W0 at hk0 b0 hm0 hpw0 hHeld ⊢
          have HCC : Hid (∀ W, Below W0.heap.size W0 W → (fun W : World => W.rangeAt (w.heap.size + 1) 0 (K.map byt)) W) := Lib.hid fun W hb => TGRow.range (Whole.below hk0 hb hk0.lt)
          apply wpAnyH_take (i := 0) rfl (by kernel_rfl) (by kernel_rfl) (by kernel_rfl)
          case hQ => exact fun _ _ _ h => h
          case hS => exact hHeld
          case hy => (refine Or.inl ⟨by rfl, ?_⟩; intro w hSw; (try go_split_ands); go_simp; (try with_reducible rfl))
          (try simp only [List.getElem_toArray, List.getElem_cons_zero, Act.put, List.setIfInBounds_toArray, List.set_cons_zero, List.set_cons_succ])
          apply wpAnyH_take (i := 1) rfl (by kernel_rfl) (by kernel_rfl) (by kernel_rfl)
          case hQ => exact fun _ _ _ h => h
          case hS => exact hHeld
          case hy => (refine Or.inl ⟨by rfl, ?_⟩; intro w hSw; (try go_split_ands); go_simp; (try with_reducible rfl))
          (try simp only [List.getElem_toArray, List.getElem_cons_succ, List.getElem_cons_zero, Act.put, List.setIfInBounds_toArray, List.set_cons_zero, List.set_cons_succ])
          apply wpAnyH_take (i := 3) rfl (by kernel_rfl) (by kernel_rfl) (by kernel_rfl)
          case hQ => exact fun _ _ _ h => h
          case hS => exact hHeld
          case hy => exact yieldsIf_load_mid (by rfl) 23 _ rfl (w.heap.size + 1) (0) rfl (K.map byt) _ (fun w hS => hS) Tryd.underlying23 rfl (by rw [tagSize, hKl])
          (try simp only [List.getElem_toArray, List.getElem_cons_succ, List.getElem_cons_zero, Act.put, List.setIfInBounds_toArray, List.set_cons_zero, List.set_cons_succ])
          apply wpAnyH_take (i := 4) rfl (by kernel_rfl) (by kernel_rfl) (by kernel_rfl)
          case hQ => exact fun _ _ _ h => h
          case hS => exact hHeld
          case hy => (refine Or.inl ⟨by rfl, ?_⟩; intro w hSw; (try go_split_ands); go_simp; (try with_reducible rfl))
          (try simp only [List.getElem_toArray, List.getElem_cons_succ, List.getElem_cons_zero, Act.put, List.setIfInBounds_toArray, List.set_cons_zero, List.set_cons_succ])
          apply wpAnyH_take (i := 5) rfl (by kernel_rfl) (by kernel_rfl) (by kernel_rfl)
          case hQ => exact fun _ _ _ h => h
          case hS => exact hHeld
          case hy => (refine Or.inl ⟨by rfl, ?_⟩; intro w hSw; (try go_split_ands); go_simp; (try with_reducible rfl))
          (try simp only [List.getElem_toArray, List.getElem_cons_succ, List.getElem_cons_zero, Act.put, List.setIfInBounds_toArray, List.set_cons_zero, List.set_cons_succ])
          apply wpAnyH_take (i := 6) rfl (by kernel_rfl) (by kernel_rfl) (by kernel_rfl)
          case hQ => exact fun _ _ _ h => h
          case hS => exact hHeld
          case hy => (refine Or.inl ⟨by rfl, ?_⟩; intro w hSw; (try go_split_ands); go_simp; (try with_reducible rfl))
          (try simp only [List.getElem_toArray, List.getElem_cons_succ, List.getElem_cons_zero, Act.put, List.setIfInBounds_toArray, List.set_cons_zero, List.set_cons_succ])
          refine wpAnyH_ready (rs := [2]) (by kernel_rfl) (by simp) ?_
          refine AllReadyH.cons rfl (fun KK hKK => ?_) AllReadyH.nil
          (try simp only [List.getElem_toArray, List.getElem_cons_succ, List.getElem_cons_zero])
          go_simp
          go_at_call 41
          refine (eight zn W0).mono ?_
          rintro e W1 ⟨v1, rfl, o1, s1⟩
          refine hKK.out _ _ (HCC.out _ s1) (fun hHeld => ?_)
          clear hKK KK
          (try simp only [List.getElem_toArray, List.getElem_cons_succ, List.getElem_cons_zero, Act.put, List.setIfInBounds_toArray, List.set_cons_zero, List.set_cons_succ])
          refine wpAnyH_ready (rs := [7]) (by kernel_rfl) (by simp) ?_
          refine AllReadyH.cons rfl (fun KK hKK => ?_) AllReadyH.nil
          (try simp only [List.getElem_toArray, List.getElem_cons_succ, List.getElem_cons_zero])
          go_simp
          go_at_call 52
          refine (rstream (w := W1) (K := K) (b := m) zn hzn hK (hm0.out.below s1 (Nat.le_refl _)) (by omega)).mono ?_
          rintro e W2 ⟨v2, rfl, o2, s2⟩
          have o1b := own_below o1 s2 (Nat.le_refl _)
          have s12 : Below W0.heap.size W0 W2 := s1.trans (s2.mono s1.size)
          refine hKK.out _ _ (HCC.out _ s12) (fun hHeld => ?_)
          clear hKK KK
          (try simp only [List.getElem_toArray, List.getElem_cons_succ, List.getElem_cons_zero, Act.put, List.setIfInBounds_toArray, List.set_cons_zero, List.set_cons_succ])
          refine wpAnyH_ready (rs := [8]) (by kernel_rfl) (by simp) ?_
          refine AllReadyH.cons rfl (fun KK hKK => ?_) AllReadyH.nil
          refine step_append_bytes (by rfl) _ _ (by rfl) W0.heap.size _ (be8 zn) (by rfl) o1b _ _ (strm K zn m) (by rfl) (Bytes.of_own o2) (by omega) s12.size ?_
          intro v3 W3 o3 hs3
          have s3 : Below W0.heap.size W0 W3 := s12.trans hs3
          refine hKK.out _ _ (HCC.out _ s3) (fun hHeld => ?_)
          clear hKK KK
          (try simp only [List.getElem_toArray, List.getElem_cons_succ, List.getElem_cons_zero, Act.put, List.setIfInBounds_toArray, List.set_cons_zero, List.set_cons_succ])
          apply wpAnyH_take (i := 9) rfl (by kernel_rfl) (by kernel_rfl) (by kernel_rfl)
          case hQ => exact fun _ _ _ h => h
          case hS => exact hHeld
          case hy => (refine Or.inl ⟨by rfl, ?_⟩; intro w hSw; (try go_split_ands); go_simp; (try with_reducible rfl))
          (try simp only [List.getElem_toArray, List.getElem_cons_succ, List.getElem_cons_zero, Act.put, List.setIfInBounds_toArray, List.set_cons_zero, List.set_cons_succ])
          refine wpAnyH_done (by kernel_rfl) ?_ _
          clear hHeld
          have b3 : Below p.heap.size p W3 := b0.trans (s3.mono hpw0)
          have hw3 : W0.heap.size ≤ W3.heap.size := s3.size
          obtain ⟨Hh, hHh⟩ : ∃ H, H = be8 zn ++ strm K zn m := ⟨_, rfl⟩
          rw [← hHh] at o3
          have hHl : Hh.length = 8 + m.length := by rw [hHh, List.length_append, hlen8, hstl]
          obtain ⟨T, hT⟩ : ∃ T, T = hmac K (boxw ++ Hh) := ⟨_, rfl⟩
          have hTl : T.length = 32 := by rw [hT]; exact hmac_length _ _
          have hbxe : Hh ++ T = bx := by
            rw [HBXE.out, hT]
            unfold boxb
            rw [if_neg (by rw [← HE.out]; exact Bool.false_ne_true)]
            unfold boxh
            rw [Int.toNat_natCast, hHh]
          have HT := Lib.hid hT
          clear hHh hT s3 hs3 o1 o1b o2 s1 s2 s12 HCC
          go_upto_region 18 with fail
          have oH0 : Own W3.drew W0.heap.size v3 Hh := own_below o3 (Below.refl _ _).drew (Nat.le_refl _)
          have c0 : Below p.heap.size p W3.drew := b3.drew
          refine wp_region_held_drew (S := fun _ : World => True) (by kernel_rfl) (trivial) (fun hHeld => ?_)
          have hw4 : W0.heap.size ≤ W3.drew.heap.size := hw3
          generalize W3.drew = X0 at oH0 c0 hw4 ⊢
          apply wpAnyH_take (i := 0) rfl (by kernel_rfl) (by kernel_rfl) (by kernel_rfl)
          case hQ => exact fun _ _ _ h => h
          case hS => exact hHeld
          case hy => (refine Or.inl ⟨by rfl, ?_⟩; intro w hSw; (try go_split_ands); go_simp; (try with_reducible rfl))
          (try simp only [List.getElem_toArray, List.getElem_cons_zero, Act.put, List.setIfInBounds_toArray, List.set_cons_zero, List.set_cons_succ])
          apply wpAnyH_take (i := 1) rfl (by kernel_rfl) (by kernel_rfl) (by kernel_rfl)
          case hQ => exact fun _ _ _ h => h
          case hS => exact hHeld
          case hy => (refine Or.inl ⟨by rfl, ?_⟩; intro w hSw; (try go_split_ands); go_simp; (try with_reducible rfl))
          (try simp only [List.getElem_toArray, List.getElem_cons_succ, List.getElem_cons_zero, Act.put, List.setIfInBounds_toArray, List.set_cons_zero, List.set_cons_succ])
          refine wpAnyH_ready (rs := [2, 4]) (by kernel_rfl) (by simp) ?_
          refine AllReadyH.cons rfl (fun KK hKK => ?_) (AllReadyH.cons rfl (fun KK hKK => ?_) AllReadyH.nil)
          · (try simp only [List.getElem_toArray, List.getElem_cons_succ, List.getElem_cons_zero])
            go_simp
            go_at_call 53
            refine (rword { data := #[98, 111, 120] } (by decide) v3 Hh _ X0 (Bytes.of_own oH0) (by omega) (by omega)).mono ?_
            rintro e X1 ⟨vM, rfl, oM0, hs1⟩
            have b1 : Below p.heap.size p X1 := c0.trans (hs1.mono c0.size)
            have oH1 := own_below oH0 hs1 (Nat.le_refl _)
            have hsx1 : X0.heap.size ≤ X1.heap.size := hs1.size
            rw [sbytes_boxw] at oM0
            have oM1 := oM0
            refine hKK.out _ _ (trivial) (fun hHeld => ?_)
            clear hKK KK
            (try simp only [List.getElem_toArray, List.getElem_cons_succ, List.getElem_cons_zero, Act.put, List.setIfInBounds_toArray, List.set_cons_zero, List.set_cons_succ])
            refine wpAnyH_ready (rs := [3, 4]) (by kernel_rfl) (by simp) ?_
            refine AllReadyH.cons rfl (fun KK hKK => ?_) (AllReadyH.cons rfl (fun KK hKK => ?_) AllReadyH.nil)
            · (try simp only [List.getElem_toArray, List.getElem_cons_succ, List.getElem_cons_zero])
              have hby := Whole.bytes (Whole.below HK.out b1 (by omega)) (by omega)
              rw [hK] at hby
              go_simp
              go_at_call 47
              refine (ref_hmac _ _ K (boxw ++ Hh) _ _ X1 hby oM1.bytes (by omega) (by rw [List.length_append]; have : boxw.length = 3 := rfl; omega)).mono ?_
              rintro e X2 ⟨rfl, hs2⟩
              rw [← HT.out]
              have b2 : Below p.heap.size p X2 := b1.trans (hs2.mono b1.size)
              have oH2 := own_below oH1 hs2 (Nat.le_refl _)
              have hsx2 : X0.heap.size ≤ X2.heap.size := Nat.le_trans hsx1 hs2.size
              refine hKK.out _ _ (trivial) (fun hHeld => ?_)
              clear hKK KK
              (try simp only [List.getElem_toArray, List.getElem_cons_succ, List.getElem_cons_zero, Act.put, List.setIfInBounds_toArray, List.set_cons_zero, List.set_cons_succ])
              refine wpAnyH_ready (rs := [4]) (by kernel_rfl) (by simp) ?_
              refine AllReadyH.cons rfl (fun KK hKK => ?_) AllReadyH.nil
              (try simp only [List.getElem_toArray, List.getElem_cons_succ, List.getElem_cons_zero])
              obtain ⟨G, hG⟩ : ∃ g, g = X2.heap.size := ⟨_, rfl⟩
              obtain ⟨X3, hX3⟩ : ∃ x, x = X2.alloc (.cells ztr 23) := ⟨_, rfl⟩
              have hs3 : Below X2.heap.size X2 X3 := by rw [hX3]; exact (Below.refl _ _).alloc (Nat.le_refl _) _
              have zz3 : Whole X3 G 23 ztr := by rw [hX3, hG]; exact Whole.here _ _ _
              have b3 : Below p.heap.size p X3 := b2.trans (hs3.mono b2.size)
              have hgl : p.heap.size ≤ G := by rw [hG]; exact b2.size
              have oH3 := own_below oH2 hs3 (Nat.le_refl _)
              have hsx3 : X0.heap.size ≤ X3.heap.size := Nat.le_trans hsx2 hs3.size
              have z3 := zz3
              go_simp
              rw [ztr_lit, ← hG, ← hX3]
              clear hX3 hG
              refine hKK.out _ _ (trivial) (fun hHeld => ?_)
              clear hKK KK
              (try simp only [List.getElem_toArray, List.getElem_cons_succ, List.getElem_cons_zero, Act.put, List.setIfInBounds_toArray, List.set_cons_zero, List.set_cons_succ])
              refine wpAnyH_ready (rs := [5]) (by kernel_rfl) (by simp) ?_
              refine AllReadyH.cons rfl (fun KK hKK => ?_) AllReadyH.nil
              (try simp only [List.getElem_toArray, List.getElem_cons_succ, List.getElem_cons_zero])
              obtain ⟨X4, hX4⟩ : ∃ x, x = X3.setRow G (T.map byt).toArray := ⟨_, rfl⟩
              have t4 : TGRow X4 G T := by rw [hX4]; exact Whole.setRow z3 _
              have b4 : Below p.heap.size p X4 := by rw [hX4]; exact below_setRow b3 hgl _
              have hsx4 : X0.heap.size ≤ X4.heap.size := by rw [hX4]; exact Nat.le_trans hsx3 (below_setRow (B := 0) (Below.refl 0 _) (Nat.zero_le _) _).size
              have oH4 : Own X4 W0.heap.size v3 Hh := by rw [hX4]; exact own_setRow oH3 z3 _
              rw [if_pos (by kernel_rfl)]
              refine wp_store_row 23 _ _ rfl G _ rfl rfl 23 _ z3 (by rw [tagSize, tag_size hTl]) (by rw [ztr_size, tag_size hTl]) (tag_one _) ?_
              rw [← hX4]
              clear hX4
              refine hKK.out _ _ (trivial) (fun hHeld => ?_)
              clear hKK KK
              (try simp only [List.getElem_toArray, List.getElem_cons_succ, List.getElem_cons_zero, Act.put, List.setIfInBounds_toArray, List.set_cons_zero, List.set_cons_succ])
              refine wpAnyH_done (by kernel_rfl) ?_ _
              have hbyT := Whole.bytes t4 (by omega)
              rw [hTl] at hbyT
              have hwx : W0.heap.size ≤ X4.heap.size := Nat.le_trans hw4 hsx4
              have hTl2 : Hh.length + T.length ≤ 100000 := by omega
              clear hHeld
              go_wp2_with (at_builtin; refine wpList_append_bytes rfl _ _ rfl W0.heap.size v3 Hh rfl oH4 _ _ T rfl hbyT (by omega) hwx ?_; intro v9 X9 o9 hb9)
              rw [hbxe] at o9
              obtain ⟨D, dc, rfl, -⟩ := id (Bytes.of_own o9)
              go_meet
              exact ⟨D, dc, rfl, (Bytes.of_own o9).mono (fun g _ h => by have h : W0.heap.size ≤ g := h; omega), b4.trans (hb9.mono hpw0)⟩
            · (try simp only [List.getElem_toArray, List.getElem_cons_succ, List.getElem_cons_zero])
              obtain ⟨G, hG⟩ : ∃ g, g = X1.heap.size := ⟨_, rfl⟩
              obtain ⟨X2, hX2⟩ : ∃ x, x = X1.alloc (.cells ztr 23) := ⟨_, rfl⟩
              have hs2 : Below X1.heap.size X1 X2 := by rw [hX2]; exact (Below.refl _ _).alloc (Nat.le_refl _) _
              have zz2 : Whole X2 G 23 ztr := by rw [hX2, hG]; exact Whole.here _ _ _
              have b2 : Below p.heap.size p X2 := b1.trans (hs2.mono b1.size)
              have hgl : p.heap.size ≤ G := by rw [hG]; exact b1.size
              have oH2 := own_below oH1 hs2 (Nat.le_refl _)
              have oM2 := OwnM.below oM1 hs2 (Nat.le_refl _)
              have hsx2 : X0.heap.size ≤ X2.heap.size := Nat.le_trans hsx1 hs2.size
              have z2 := zz2
              go_simp
              rw [ztr_lit, ← hG, ← hX2]
              clear hX2 hG
              refine hKK.out _ _ (trivial) (fun hHeld => ?_)
              clear hKK KK
              (try simp only [List.getElem_toArray, List.getElem_cons_succ, List.getElem_cons_zero, Act.put, List.setIfInBounds_toArray, List.set_cons_zero, List.set_cons_succ])
              refine wpAnyH_ready (rs := [3]) (by kernel_rfl) (by simp) ?_
              refine AllReadyH.cons rfl (fun KK hKK => ?_) AllReadyH.nil
              (try simp only [List.getElem_toArray, List.getElem_cons_succ, List.getElem_cons_zero])
              have hby := Whole.bytes (Whole.below HK.out b2 (by omega)) (by omega)
              rw [hK] at hby
              go_simp
              go_at_call 47
              refine (ref_hmac _ _ K (boxw ++ Hh) _ _ X2 hby oM2.bytes (by omega) (by rw [List.length_append]; have : boxw.length = 3 := rfl; omega)).mono ?_
              rintro e X3 ⟨rfl, hs3⟩
              rw [← HT.out]
              have b3 : Below p.heap.size p X3 := b2.trans (hs3.mono b2.size)
              have z3 : Whole X3 G 23 ztr := Whole.below z2 hs3 z2.lt
              have oH3 := own_below oH2 hs3 (Nat.le_refl _)
              have hsx3 : X0.heap.size ≤ X3.heap.size := Nat.le_trans hsx2 hs3.size
              refine hKK.out _ _ (trivial) (fun hHeld => ?_)
              clear hKK KK
              (try simp only [List.getElem_toArray, List.getElem_cons_succ, List.getElem_cons_zero, Act.put, List.setIfInBounds_toArray, List.set_cons_zero, List.set_cons_succ])
              refine wpAnyH_ready (rs := [5]) (by kernel_rfl) (by simp) ?_
              refine AllReadyH.cons rfl (fun KK hKK => ?_) AllReadyH.nil
              (try simp only [List.getElem_toArray, List.getElem_cons_succ, List.getElem_cons_zero])
              obtain ⟨X4, hX4⟩ : ∃ x, x = X3.setRow G (T.map byt).toArray := ⟨_, rfl⟩
              have t4 : TGRow X4 G T := by rw [hX4]; exact Whole.setRow z3 _
              have b4 : Below p.heap.size p X4 := by rw [hX4]; exact below_setRow b3 hgl _
              have hsx4 : X0.heap.size ≤ X4.heap.size := by rw [hX4]; exact Nat.le_trans hsx3 (below_setRow (B := 0) (Below.refl 0 _) (Nat.zero_le _) _).size
              have oH4 : Own X4 W0.heap.size v3 Hh := by rw [hX4]; exact own_setRow oH3 z3 _
              rw [if_pos (by kernel_rfl)]
              refine wp_store_row 23 _ _ rfl G _ rfl rfl 23 _ z3 (by rw [tagSize, tag_size hTl]) (by rw [ztr_size, tag_size hTl]) (tag_one _) ?_
              rw [← hX4]
              clear hX4
              refine hKK.out _ _ (trivial) (fun hHeld => ?_)
              clear hKK KK
              (try simp only [List.getElem_toArray, List.getElem_cons_succ, List.getElem_cons_zero, Act.put, List.setIfInBounds_toArray, List.set_cons_zero, List.set_cons_succ])
              refine wpAnyH_done (by kernel_rfl) ?_ _
              have hbyT := Whole.bytes t4 (by omega)
              rw [hTl] at hbyT
              have hwx : W0.heap.size ≤ X4.heap.size := Nat.le_trans hw4 hsx4
              have hTl2 : Hh.length + T.length ≤ 100000 := by omega
              clear hHeld
              go_wp2_with (at_builtin; refine wpList_append_bytes rfl _ _ rfl W0.heap.size v3 Hh rfl oH4 _ _ T rfl hbyT (by omega) hwx ?_; intro v9 X9 o9 hb9)
              rw [hbxe] at o9
              obtain ⟨D, dc, rfl, -⟩ := id (Bytes.of_own o9)
              go_meet
              exact ⟨D, dc, rfl, (Bytes.of_own o9).mono (fun g _ h => by have h : W0.heap.size ≤ g := h; omega), b4.trans (hb9.mono hpw0)⟩
          · (try simp only [List.getElem_toArray, List.getElem_cons_succ, List.getElem_cons_zero])
            obtain ⟨G, hG⟩ : ∃ g, g = X0.heap.size := ⟨_, rfl⟩
            obtain ⟨X1, hX1⟩ : ∃ x, x = X0.alloc (.cells ztr 23) := ⟨_, rfl⟩
            have hs1 : Below X0.heap.size X0 X1 := by rw [hX1]; exact (Below.refl _ _).alloc (Nat.le_refl _) _
            have zz1 : Whole X1 G 23 ztr := by rw [hX1, hG]; exact Whole.here _ _ _
            have b1 : Below p.heap.size p X1 := c0.trans (hs1.mono c0.size)
            have hgl : p.heap.size ≤ G := by rw [hG]; exact c0.size
            have oH1 := own_below oH0 hs1 (Nat.le_refl _)
            have hsx1 : X0.heap.size ≤ X1.heap.size := hs1.size
            have z1 := zz1
            go_simp
            rw [ztr_lit, ← hG, ← hX1]
            clear hX1 hG
            refine hKK.out _ _ (trivial) (fun hHeld => ?_)
            clear hKK KK
            (try simp only [List.getElem_toArray, List.getElem_cons_succ, List.getElem_cons_zero, Act.put, List.setIfInBounds_toArray, List.set_cons_zero, List.set_cons_succ])
            refine wpAnyH_ready (rs := [2]) (by kernel_rfl) (by simp) ?_
            refine AllReadyH.cons rfl (fun KK hKK => ?_) AllReadyH.nil
            (try simp only [List.getElem_toArray, List.getElem_cons_succ, List.getElem_cons_zero])
            go_simp
            go_at_call 53
            refine (rword { data := #[98, 111, 120] } (by decide) v3 Hh _ X1 (Bytes.of_own oH1) (by omega) (by omega)).mono ?_
            rintro e X2 ⟨vM, rfl, oM0, hs2⟩
            have b2 : Below p.heap.size p X2 := b1.trans (hs2.mono b1.size)
            have z2 : Whole X2 G 23 ztr := Whole.below z1 hs2 z1.lt
            have oH2 := own_below oH1 hs2 (Nat.le_refl _)
            have hsx2 : X0.heap.size ≤ X2.heap.size := Nat.le_trans hsx1 hs2.size
            rw [sbytes_boxw] at oM0
            have oM2 := oM0
            refine hKK.out _ _ (trivial) (fun hHeld => ?_)
            clear hKK KK
            (try simp only [List.getElem_toArray, List.getElem_cons_succ, List.getElem_cons_zero, Act.put, List.setIfInBounds_toArray, List.set_cons_zero, List.set_cons_succ])
            refine wpAnyH_ready (rs := [3]) (by kernel_rfl) (by simp) ?_
            refine AllReadyH.cons rfl (fun KK hKK => ?_) AllReadyH.nil
            (try simp only [List.getElem_toArray, List.getElem_cons_succ, List.getElem_cons_zero])
            have hby := Whole.bytes (Whole.below HK.out b2 (by omega)) (by omega)
            rw [hK] at hby
            go_simp
            go_at_call 47
            refine (ref_hmac _ _ K (boxw ++ Hh) _ _ X2 hby oM2.bytes (by omega) (by rw [List.length_append]; have : boxw.length = 3 := rfl; omega)).mono ?_
            rintro e X3 ⟨rfl, hs3⟩
            rw [← HT.out]
            have b3 : Below p.heap.size p X3 := b2.trans (hs3.mono b2.size)
            have z3 : Whole X3 G 23 ztr := Whole.below z2 hs3 z2.lt
            have oH3 := own_below oH2 hs3 (Nat.le_refl _)
            have hsx3 : X0.heap.size ≤ X3.heap.size := Nat.le_trans hsx2 hs3.size
            refine hKK.out _ _ (trivial) (fun hHeld => ?_)
            clear hKK KK
            (try simp only [List.getElem_toArray, List.getElem_cons_succ, List.getElem_cons_zero, Act.put, List.setIfInBounds_toArray, List.set_cons_zero, List.set_cons_succ])
            refine wpAnyH_ready (rs := [5]) (by kernel_rfl) (by simp) ?_
            refine AllReadyH.cons rfl (fun KK hKK => ?_) AllReadyH.nil
            (try simp only [List.getElem_toArray, List.getElem_cons_succ, List.getElem_cons_zero])
            obtain ⟨X4, hX4⟩ : ∃ x, x = X3.setRow G (T.map byt).toArray := ⟨_, rfl⟩
            have t4 : TGRow X4 G T := by rw [hX4]; exact Whole.setRow z3 _
            have b4 : Below p.heap.size p X4 := by rw [hX4]; exact below_setRow b3 hgl _
            have hsx4 : X0.heap.size ≤ X4.heap.size := by rw [hX4]; exact Nat.le_trans hsx3 (below_setRow (B := 0) (Below.refl 0 _) (Nat.zero_le _) _).size
            have oH4 : Own X4 W0.heap.size v3 Hh := by rw [hX4]; exact own_setRow oH3 z3 _
            rw [if_pos (by kernel_rfl)]
            refine wp_store_row 23 _ _ rfl G _ rfl rfl 23 _ z3 (by rw [tagSize, tag_size hTl]) (by rw [ztr_size, tag_size hTl]) (tag_one _) ?_
            rw [← hX4]
            clear hX4
            refine hKK.out _ _ (trivial) (fun hHeld => ?_)
            clear hKK KK
            (try simp only [List.getElem_toArray, List.getElem_cons_succ, List.getElem_cons_zero, Act.put, List.setIfInBounds_toArray, List.set_cons_zero, List.set_cons_succ])
            refine wpAnyH_done (by kernel_rfl) ?_ _
            have hbyT := Whole.bytes t4 (by omega)
            rw [hTl] at hbyT
            have hwx : W0.heap.size ≤ X4.heap.size := Nat.le_trans hw4 hsx4
            have hTl2 : Hh.length + T.length ≤ 100000 := by omega
            clear hHeld
            go_wp2_with (at_builtin; refine wpList_append_bytes rfl _ _ rfl W0.heap.size v3 Hh rfl oH4 _ _ T rfl hbyT (by omega) hwx ?_; intro v9 X9 o9 hb9)
            rw [hbxe] at o9
            obtain ⟨D, dc, rfl, -⟩ := id (Bytes.of_own o9)
            go_meet
            exact ⟨D, dc, rfl, (Bytes.of_own o9).mono (fun g _ h => by have h : W0.heap.size ≤ g := h; omega), b4.trans (hb9.mono hpw0)⟩
      case rest =>
        obtain ⟨D, dc, rfl, hbx, hbc⟩ := hcut
        have hp3 : p.heap.size ≤ wc.heap.size := hbc.size
        have hbl : bx.length ≤ 5000 := by have := HBL.out; have := HMN.out; omega
        have hmn := HMN.out
        have HB3 := Lib.hid hbc
        have HU3 : Hid (Below w.heap.size w wc) := Lib.hid (HB.out.trans (hbc.mono (by omega)))
        have HRU := Lib.hid (Whole.below HR.out hbc (by omega))
        have HBXB := Lib.hid hbx
        obtain ⟨L1, hL1, hS1, hB1⟩ := HBX.out
        have hL1l : L1.length = j := by rw [HNB.out, ← hL1, List.length_map]
        have HL1 := Lib.hid hL1
        have HS1 := Lib.hid hS1
        have HB1 := Lib.hid hB1
        have HL1L := Lib.hid hL1l
        have HLN : Hid (a.boxes.length < 1000) := Lib.hid (by have := HNB.out; omega)
        have hKl : (K.map byt).length = 32 := by rw [List.length_map, hK]
        have hzq : i64q (zn : Int) := by have := HZ.out.1; exact ⟨by omega, by omega⟩
        have HZQ := Lib.hid hzq
        clear hL1 hS1 hB1 hL1l hbx hbc hzq
        have HCC : Hid (∀ W, Below wc.heap.size wc W → W.cell? ⟨w.heap.size, 35, none⟩ = some (.slice Ab j cb) ∧ W.rangeAt (w.heap.size + 1) 0 (K.map byt)) := Lib.hid fun W hb => ⟨(ALRow.cells (Whole.below HRU.out hb (by omega))).2.2.2, TGRow.range (Whole.below (Whole.below HK.out HB3.out (by omega)) hb (by omega))⟩
        clear c35 hc0
        go_upto_region 20 with fail
        go_cut [] (fun wx => ∃ (A5 : Option Addr) (c5 : Nat) (DM : Option Addr) (dcm : Nat), ALRow wx w.heap.size a.free a.seed a.fresh (.slice Am a.macs.length cm) (.slice A5 (L1.length + 1) c5) ∧ Seq bcl bok wx (fun g => p.heap.size ≤ g) A5 c5 (L1 ++ [⟨⟨K, (zn : Int), m, bx⟩, DM, dcm, D, dc⟩]) ∧ Bytes wx (fun b => p.heap.size ≤ b) (.slice DM m.length dcm) m ∧ Bytes wx (fun b => p.heap.size ≤ b) (.slice D bx.length dc) bx ∧ Whole wx (w.heap.size + 1 + 1) 28 zar ∧ p.heap.size ≤ wx.heap.size ∧ Below w.heap.size w wx)
        case first =>
          have b0 : Below wc.heap.size wc wc.drew := (Below.refl _ _).drew
          refine wp_region_G (fun W : World => W.cell? ⟨w.heap.size, 35, none⟩ = some (.slice Ab j cb) ∧ W.rangeAt (w.heap.size + 1) 0 (K.map byt)) (fun _ => True) [14] (by kernel_rfl) ?_
          generalize wc.drew = W0 at b0 ⊢
          have hHeld : (fun W : World => W.cell? ⟨w.heap.size, 35, none⟩ = some (.slice Ab j cb) ∧ W.rangeAt (w.heap.size + 1) 0 (K.map byt)) W0 := HCC.out _ b0
          apply AnyG_pure (i := 1) rfl (by kernel_rfl) (by kernel_rfl) (by kernel_rfl) (by kernel_rfl)
          case hQ => exact fun _ _ _ h => h
          case hB => exact trivial
          case hC => exact .inr hHeld
          case hy => (refine Or.inl ⟨by rfl, ?_⟩; intro w hSw; (try go_split_ands); go_simp; (try with_reducible rfl))
          (try simp only [List.getElem_toArray, List.getElem_cons_succ, List.getElem_cons_zero, Act.put, List.setIfInBounds_toArray, List.set_cons_zero, List.set_cons_succ])
          apply AnyG_take (i := 2) rfl (by kernel_rfl) (by kernel_rfl) (by kernel_rfl) (by kernel_rfl)
          case hQ => exact fun _ _ _ h => h
          case hB => exact trivial
          case hC => exact hHeld
          case hy => (refine Or.inl ⟨by rfl, ?_⟩; intro w hSw; (try go_split_ands); go_simp; (try with_reducible rfl))
          (try simp only [List.getElem_toArray, List.getElem_cons_succ, List.getElem_cons_zero, Act.put, List.setIfInBounds_toArray, List.set_cons_zero, List.set_cons_succ])
          apply AnyG_take (i := 4) rfl (by kernel_rfl) (by kernel_rfl) (by kernel_rfl) (by kernel_rfl)
          case hQ => exact fun _ _ _ h => h
          case hB => exact trivial
          case hC => exact hHeld
          case hy => exact yieldsIf_load_mid (by rfl) 23 _ rfl (w.heap.size + 1) (0) rfl (K.map byt) _ (fun w hS => hS.2) Tryd.underlying23 rfl (by rw [tagSize, hKl])
          (try simp only [List.getElem_toArray, List.getElem_cons_succ, List.getElem_cons_zero, Act.put, List.setIfInBounds_toArray, List.set_cons_zero, List.set_cons_succ])
          apply AnyG_pure (i := 5) rfl (by kernel_rfl) (by kernel_rfl) (by kernel_rfl) (by kernel_rfl)
          case hQ => exact fun _ _ _ h => h
          case hB => exact trivial
          case hC => exact .inr hHeld
          case hy => (refine Or.inl ⟨by rfl, ?_⟩; intro w hSw; (try go_split_ands); go_simp; (try with_reducible rfl))
          (try simp only [List.getElem_toArray, List.getElem_cons_succ, List.getElem_cons_zero, Act.put, List.setIfInBounds_toArray, List.set_cons_zero, List.set_cons_succ])
          apply AnyG_pure (i := 7) rfl (by kernel_rfl) (by kernel_rfl) (by kernel_rfl) (by kernel_rfl)
          case hQ => exact fun _ _ _ h => h
          case hB => exact trivial
          case hC => exact .inr hHeld
          case hy => (refine Or.inl ⟨by rfl, ?_⟩; intro w hSw; (try go_split_ands); go_simp; (try with_reducible rfl))
          (try simp only [List.getElem_toArray, List.getElem_cons_succ, List.getElem_cons_zero, Act.put, List.setIfInBounds_toArray, List.set_cons_zero, List.set_cons_succ])
          apply AnyG_pure (i := 9) rfl (by kernel_rfl) (by kernel_rfl) (by kernel_rfl) (by kernel_rfl)
          case hQ => exact fun _ _ _ h => h
          case hB => exact trivial
          case hC => exact .inr hHeld
          case hy => (refine Or.inl ⟨by rfl, ?_⟩; intro w hSw; (try go_split_ands); go_simp; (try with_reducible rfl))
          (try simp only [List.getElem_toArray, List.getElem_cons_succ, List.getElem_cons_zero, Act.put, List.setIfInBounds_toArray, List.set_cons_zero, List.set_cons_succ])
          refine AnyG_two (i := 0) (j := 6) (by kernel_rfl) rfl rfl (fun KK hKK => ?_) (fun KK hKK => ?_)
          · skip
            (try simp only [List.getElem_toArray, List.getElem_cons_succ, List.getElem_cons_zero])
            obtain ⟨g0, hg⟩ : ∃ g, g = W0.heap.size := ⟨_, rfl⟩
            obtain ⟨W1, hW⟩ : ∃ x, x = W0.alloc (.cells #[] 56) := ⟨_, rfl⟩
            have b1 : Below wc.heap.size wc W1 := by rw [hW]; exact b0.alloc b0.size _
            have oM1 : OwnBc W1 wc.heap.size (.slice (some ⟨g0, 0, none⟩) 0 0) [] := owns_empty (by rw [hW, hg]; exact heap_alloc_new _ _) (by rw [hg]; exact b0.size)
            go_simp
            rw [← hg, ← hW]
            clear hg hW
            clear hHeld
            have hHeld : (fun W : World => W.cell? ⟨w.heap.size, 35, none⟩ = some (.slice Ab j cb) ∧ W.rangeAt (w.heap.size + 1) 0 (K.map byt)) W1 := HCC.out _ b1
            refine hKK.out _ _ (.inr hHeld) trivial ?_
            clear hKK KK
            (try simp only [List.getElem_toArray, List.getElem_cons_succ, List.getElem_cons_zero, Act.put, List.setIfInBounds_toArray, List.set_cons_zero, List.set_cons_succ])
            refine AnyG_two (i := 3) (j := 6) (by kernel_rfl) rfl rfl (fun KK hKK => ?_) (fun KK hKK => ?_)
            · skip
              refine step_append_seq (by rfl) _ _ 26 56 zbox 88 (by rfl) Tryd.underlying26 boxInfo zbox_size (by omega) (by omega) bcl_len bcl_one wc.heap.size _ [] (by rfl) oM1 Q Ab j cb L1 HL1L.out (by rfl) (HS1.out.below (HU3.out.trans (b1.mono HU3.out.size)) (Nat.le_refl _)) (by have := HL1L.out; simp only [List.length_nil]; omega) b1.size ?_
              intro vM W2 oM0 hbn hgn
              have oM2 : OwnBc W2 wc.heap.size vM L1 := by rw [List.nil_append] at oM0; exact oM0
              have b2 := b1.trans hbn
              clear hbn hgn
              clear hHeld
              have hHeld : (fun W : World => W.cell? ⟨w.heap.size, 35, none⟩ = some (.slice Ab j cb) ∧ W.rangeAt (w.heap.size + 1) 0 (K.map byt)) W2 := HCC.out _ b2
              refine hKK.out _ _ (.inr hHeld) trivial ?_
              clear hKK KK
              (try simp only [List.getElem_toArray, List.getElem_cons_succ, List.getElem_cons_zero, Act.put, List.setIfInBounds_toArray, List.set_cons_zero, List.set_cons_succ])
              refine AnyG_one (i := 6) (by kernel_rfl) rfl (fun KK hKK => ?_)
              (try simp only [List.getElem_toArray, List.getElem_cons_succ, List.getElem_cons_zero])
              obtain ⟨g6, hg⟩ : ∃ g, g = W2.heap.size := ⟨_, rfl⟩
              obtain ⟨W3, hW⟩ : ∃ x, x = W2.alloc (.cells #[] 5) := ⟨_, rfl⟩
              have b3 : Below wc.heap.size wc W3 := by rw [hW]; exact b2.alloc b2.size _
              have oB3 : OwnBf W3 wc.heap.size (.slice (some ⟨g6, 0, none⟩) 0 0) [] := owns_empty (by rw [hW, hg]; exact heap_alloc_new _ _) (by rw [hg]; exact b2.size)
              have oM3 := oM2.alloc (.cells #[] 5)
              rw [← hW] at oM3
              go_simp
              rw [← hg, ← hW]
              clear hg hW
              clear hHeld
              have hHeld : (fun W : World => W.cell? ⟨w.heap.size, 35, none⟩ = some (.slice Ab j cb) ∧ W.rangeAt (w.heap.size + 1) 0 (K.map byt)) W3 := HCC.out _ b3
              refine hKK.out _ _ (.inr hHeld) trivial ?_
              clear hKK KK
              (try simp only [List.getElem_toArray, List.getElem_cons_succ, List.getElem_cons_zero, Act.put, List.setIfInBounds_toArray, List.set_cons_zero, List.set_cons_succ])
              refine AnyG_one (i := 8) (by kernel_rfl) rfl (fun KK hKK => ?_)
              refine step_append_seq (by rfl) _ _ 40 5 (.int .u8 0) 1 (by rfl) Tryd.underlying40 byteInfo byte_size (by omega) (by omega) bf_len bf_one wc.heap.size _ [] (by rfl) oB3 Q2 B m.length d m rfl (by rfl) (seq_bytes (HM.out.below (HU3.out.trans (b3.mono HU3.out.size)) (Nat.le_refl _))) (by simp only [List.length_nil]; omega) b3.size ?_
              intro vB W4 oB0 hbn hgn
              have oB4 : OwnBf W4 wc.heap.size vB m := by rw [List.nil_append] at oB0; exact oB0
              have oM4 := oM3.kept hgn (own_ne oM3 oB3 box_ne_u8)
              obtain ⟨DM, dcm, rfl, hsB⟩ := OwnS.seq (ok := fun _ => True) oB4 (fun _ _ => trivial)
              have b4 := b3.trans hbn
              clear hbn hgn hsB
              clear hHeld
              have hHeld : (fun W : World => W.cell? ⟨w.heap.size, 35, none⟩ = some (.slice Ab j cb) ∧ W.rangeAt (w.heap.size + 1) 0 (K.map byt)) W4 := HCC.out _ b4
              refine hKK.out _ _ (.inr hHeld) trivial ?_
              clear hKK KK
              (try simp only [List.getElem_toArray, List.getElem_cons_succ, List.getElem_cons_zero, Act.put, List.setIfInBounds_toArray, List.set_cons_zero, List.set_cons_succ])
              apply AnyG_pure (i := 10) rfl (by kernel_rfl) (by kernel_rfl) (by kernel_rfl) (by kernel_rfl)
              case hQ => exact fun _ _ _ h => h
              case hB => exact trivial
              case hC => exact .inr hHeld
              case hy => exact yieldsIf_build_box (by rfl) _ _ _ _ rfl (e := ⟨K, (zn : Int), m, bx⟩) hK rfl rfl rfl rfl
              (try simp only [List.getElem_toArray, List.getElem_cons_succ, List.getElem_cons_zero, Act.put, List.setIfInBounds_toArray, List.set_cons_zero, List.set_cons_succ])
              refine AnyG_one (i := 11) (by kernel_rfl) rfl (fun KK hKK => ?_)
              have hXok : bok (⟨⟨K, (zn : Int), m, bx⟩, DM, dcm, D, dc⟩ : BxM) := ⟨hK, HZQ.out, by show m.length ≤ 5000; omega, by show bx.length ≤ 5000; omega⟩
              obtain ⟨g11, hg⟩ : ∃ g, g = W4.heap.size := ⟨_, rfl⟩
              obtain ⟨W5, hW⟩ : ∃ x, x = W4.alloc (.cells (bcl (⟨⟨K, (zn : Int), m, bx⟩, DM, dcm, D, dc⟩ : BxM)).toArray 56) := ⟨_, rfl⟩
              have b5 : Below wc.heap.size wc W5 := by rw [hW]; exact b4.alloc b4.size _
              have hx1 : Whole W5 g11 56 (bcl (⟨⟨K, (zn : Int), m, bx⟩, DM, dcm, D, dc⟩ : BxM)).toArray := by rw [hW, hg]; exact Whole.here _ _ _
              have oM5 := oM4.alloc (.cells (bcl (⟨⟨K, (zn : Int), m, bx⟩, DM, dcm, D, dc⟩ : BxM)).toArray 56)
              rw [← hW] at oM5
              have oB5 := oB4.alloc (.cells (bcl (⟨⟨K, (zn : Int), m, bx⟩, DM, dcm, D, dc⟩ : BxM)).toArray 56)
              rw [← hW] at oB5
              refine step_buildSlice_box (by rfl) _ (by rfl) (X := (⟨⟨K, (zn : Int), m, bx⟩, DM, dcm, D, dc⟩ : BxM)) (by rfl) ?_
              rw [← hg, ← hW]
              clear hg hW
              clear hHeld
              have hHeld : (fun W : World => W.cell? ⟨w.heap.size, 35, none⟩ = some (.slice Ab j cb) ∧ W.rangeAt (w.heap.size + 1) 0 (K.map byt)) W5 := HCC.out _ b5
              refine hKK.out _ _ (.inr hHeld) trivial ?_
              clear hKK KK
              (try simp only [List.getElem_toArray, List.getElem_cons_succ, List.getElem_cons_zero, Act.put, List.setIfInBounds_toArray, List.set_cons_zero, List.set_cons_succ])
              refine AnyG_one (i := 12) (by kernel_rfl) rfl (fun KK hKK => ?_)
              refine step_append_seq (by rfl) _ _ 26 56 zbox 88 (by rfl) Tryd.underlying26 boxInfo zbox_size (by omega) (by omega) bcl_len bcl_one wc.heap.size _ L1 (by rfl) oM5 _ (some ⟨g11, 0, none⟩) 1 1 [(⟨⟨K, (zn : Int), m, bx⟩, DM, dcm, D, dc⟩ : BxM)] rfl (by rfl) (seq_one hx1 rfl hXok) (by have := HL1L.out; have := HLN.out; simp only [List.length_singleton]; omega) b5.size ?_
              intro vN W6 oM6 hbn hgn
              have oB6 := oB5.kept hgn (own_ne oB5 oM5 u8_ne_box)
              have b6 := b5.trans hbn
              obtain ⟨A5, c5, rfl, hS5⟩ := OwnS.seq (ok := bok) oM6 (fun x hx => by
                rcases List.mem_append.1 hx with h | h
                · exact HS1.out.2.2.2.1 x h
                · rw [List.mem_singleton.1 h]; exact hXok)
              obtain ⟨D2, dc2, he2, hsB⟩ := OwnS.seq (ok := fun _ => True) oB6 (fun _ _ => trivial)
              injection he2 with q1 q2 q3
              subst q1 q3
              have hV := bytes_seq hsB
              have hn5 : (L1 ++ [(⟨⟨K, (zn : Int), m, bx⟩, DM, dcm, D, dc⟩ : BxM)]).length = L1.length + 1 := by simp
              rw [hn5]
              clear hbn hgn q2 hsB hn5
              clear hHeld
              have hHeld : (fun W : World => W.cell? ⟨w.heap.size, 35, none⟩ = some (.slice Ab j cb) ∧ W.rangeAt (w.heap.size + 1) 0 (K.map byt)) W6 := HCC.out _ b6
              refine hKK.out _ _ (.inr hHeld) trivial ?_
              clear hKK KK
              (try simp only [List.getElem_toArray, List.getElem_cons_succ, List.getElem_cons_zero, Act.put, List.setIfInBounds_toArray, List.set_cons_zero, List.set_cons_succ])
              apply AnyG_pure (i := 13) rfl (by kernel_rfl) (by kernel_rfl) (by kernel_rfl) (by kernel_rfl)
              case hQ => exact fun _ _ _ h => h
              case hB => exact trivial
              case hC => exact .inr hHeld
              case hy => (refine Or.inl ⟨by rfl, ?_⟩; intro w hSw; (try go_split_ands); go_simp; (try with_reducible rfl))
              (try simp only [List.getElem_toArray, List.getElem_cons_succ, List.getElem_cons_zero, Act.put, List.setIfInBounds_toArray, List.set_cons_zero, List.set_cons_succ])
              refine AnyG_one (i := 14) (by kernel_rfl) rfl (fun KK hKK => ?_)
              (try simp only [List.getElem_toArray, List.getElem_cons_succ, List.getElem_cons_zero])
              have hrW := Whole.below HRU.out b6 (by omega)
              have hf35 := ALRow.frees hrW 35
              have hc35 := hHeld.1
              obtain ⟨W7, hW⟩ : ∃ x, x = W6.setCell ⟨w.heap.size, 35, none⟩ (.slice A5 (L1.length + 1) c5) := ⟨_, rfl⟩
              have r1 := ALRow.set35 hrW (.slice A5 (L1.length + 1) c5)
              have r2 := (hS5.mono (Q' := fun g => p.heap.size ≤ g) fun g _ h => Nat.le_trans hp3 h).keep (w' := W7) (by rw [hW]; exact ((Below.refl 0 _).setCell (p := ⟨w.heap.size, 35, none⟩) (Nat.zero_le _) _).size) (fun g _ h => by rw [hW]; exact heap_setCell_other _ ⟨w.heap.size, 35, none⟩ g _ (by show g ≠ w.heap.size; omega))
              have r3 := (hV.mono (Q' := fun g => p.heap.size ≤ g) fun g _ h => Nat.le_trans hp3 h).keep (w' := W7) (fun g _ h => by rw [hW]; exact heap_setCell_other _ ⟨w.heap.size, 35, none⟩ g _ (by show g ≠ w.heap.size; omega))
              have r4 := (HBXB.out.below b6 (Nat.le_refl _)).keep (w' := W7) (fun g _ h => by rw [hW]; exact heap_setCell_other _ ⟨w.heap.size, 35, none⟩ g _ (by show g ≠ w.heap.size; have h : p.heap.size ≤ g := h; omega))
              have r5 := Whole.far (Whole.below (Whole.below H8.out HB3.out (by omega)) b6 (by omega)) (a := ⟨w.heap.size, 35, none⟩) (by show _ ≠ w.heap.size; omega) (.slice A5 (L1.length + 1) c5)
              have r7 := (HU3.out.trans (b6.mono HU3.out.size)).setCell (p := ⟨w.heap.size, 35, none⟩) (Nat.le_refl _) (.slice A5 (L1.length + 1) c5)
              have r6 : p.heap.size ≤ W7.heap.size := by rw [hW]; exact Nat.le_trans hp3 (Nat.le_trans b6.size ((Below.refl 0 _).setCell (p := ⟨w.heap.size, 35, none⟩) (Nat.zero_le _) _).size)
              rw [← hW] at r1 r5 r7
              go_simp
              rw [← hW]
              clear hW
              refine hKK.out _ _ (.inl (by kernel_rfl)) trivial ?_
              clear hKK KK
              (try simp only [List.getElem_toArray, List.getElem_cons_succ, List.getElem_cons_zero, Act.put, List.setIfInBounds_toArray, List.set_cons_zero, List.set_cons_succ])
              refine AnyG_done (by kernel_rfl) ?_ _
              go_wp2_with fail
              go_meet
              exact ⟨A5, c5, DM, dcm, r1, r2, r3, r4, r5, r6, r7⟩
            · skip
              (try simp only [List.getElem_toArray, List.getElem_cons_succ, List.getElem_cons_zero])
              obtain ⟨g6, hg⟩ : ∃ g, g = W1.heap.size := ⟨_, rfl⟩
              obtain ⟨W2, hW⟩ : ∃ x, x = W1.alloc (.cells #[] 5) := ⟨_, rfl⟩
              have b2 : Below wc.heap.size wc W2 := by rw [hW]; exact b1.alloc b1.size _
              have oB2 : OwnBf W2 wc.heap.size (.slice (some ⟨g6, 0, none⟩) 0 0) [] := owns_empty (by rw [hW, hg]; exact heap_alloc_new _ _) (by rw [hg]; exact b1.size)
              have oM2 := oM1.alloc (.cells #[] 5)
              rw [← hW] at oM2
              go_simp
              rw [← hg, ← hW]
              clear hg hW
              clear hHeld
              have hHeld : (fun W : World => W.cell? ⟨w.heap.size, 35, none⟩ = some (.slice Ab j cb) ∧ W.rangeAt (w.heap.size + 1) 0 (K.map byt)) W2 := HCC.out _ b2
              refine hKK.out _ _ (.inr hHeld) trivial ?_
              clear hKK KK
              (try simp only [List.getElem_toArray, List.getElem_cons_succ, List.getElem_cons_zero, Act.put, List.setIfInBounds_toArray, List.set_cons_zero, List.set_cons_succ])
              refine AnyG_one (i := 3) (by kernel_rfl) rfl (fun KK hKK => ?_)
              refine step_append_seq (by rfl) _ _ 26 56 zbox 88 (by rfl) Tryd.underlying26 boxInfo zbox_size (by omega) (by omega) bcl_len bcl_one wc.heap.size _ [] (by rfl) oM2 Q Ab j cb L1 HL1L.out (by rfl) (HS1.out.below (HU3.out.trans (b2.mono HU3.out.size)) (Nat.le_refl _)) (by have := HL1L.out; simp only [List.length_nil]; omega) b2.size ?_
              intro vM W3 oM0 hbn hgn
              have oM3 : OwnBc W3 wc.heap.size vM L1 := by rw [List.nil_append] at oM0; exact oM0
              have oB3 := oB2.kept hgn (own_ne oB2 oM2 u8_ne_box)
              have b3 := b2.trans hbn
              clear hbn hgn
              clear hHeld
              have hHeld : (fun W : World => W.cell? ⟨w.heap.size, 35, none⟩ = some (.slice Ab j cb) ∧ W.rangeAt (w.heap.size + 1) 0 (K.map byt)) W3 := HCC.out _ b3
              refine hKK.out _ _ (.inr hHeld) trivial ?_
              clear hKK KK
              (try simp only [List.getElem_toArray, List.getElem_cons_succ, List.getElem_cons_zero, Act.put, List.setIfInBounds_toArray, List.set_cons_zero, List.set_cons_succ])
              refine AnyG_one (i := 8) (by kernel_rfl) rfl (fun KK hKK => ?_)
              refine step_append_seq (by rfl) _ _ 40 5 (.int .u8 0) 1 (by rfl) Tryd.underlying40 byteInfo byte_size (by omega) (by omega) bf_len bf_one wc.heap.size _ [] (by rfl) oB3 Q2 B m.length d m rfl (by rfl) (seq_bytes (HM.out.below (HU3.out.trans (b3.mono HU3.out.size)) (Nat.le_refl _))) (by simp only [List.length_nil]; omega) b3.size ?_
              intro vB W4 oB0 hbn hgn
              have oB4 : OwnBf W4 wc.heap.size vB m := by rw [List.nil_append] at oB0; exact oB0
              have oM4 := oM3.kept hgn (own_ne oM3 oB3 box_ne_u8)
              obtain ⟨DM, dcm, rfl, hsB⟩ := OwnS.seq (ok := fun _ => True) oB4 (fun _ _ => trivial)
              have b4 := b3.trans hbn
              clear hbn hgn hsB
              clear hHeld
              have hHeld : (fun W : World => W.cell? ⟨w.heap.size, 35, none⟩ = some (.slice Ab j cb) ∧ W.rangeAt (w.heap.size + 1) 0 (K.map byt)) W4 := HCC.out _ b4
              refine hKK.out _ _ (.inr hHeld) trivial ?_
              clear hKK KK
              (try simp only [List.getElem_toArray, List.getElem_cons_succ, List.getElem_cons_zero, Act.put, List.setIfInBounds_toArray, List.set_cons_zero, List.set_cons_succ])
              apply AnyG_pure (i := 10) rfl (by kernel_rfl) (by kernel_rfl) (by kernel_rfl) (by kernel_rfl)
              case hQ => exact fun _ _ _ h => h
              case hB => exact trivial
              case hC => exact .inr hHeld
              case hy => exact yieldsIf_build_box (by rfl) _ _ _ _ rfl (e := ⟨K, (zn : Int), m, bx⟩) hK rfl rfl rfl rfl
              (try simp only [List.getElem_toArray, List.getElem_cons_succ, List.getElem_cons_zero, Act.put, List.setIfInBounds_toArray, List.set_cons_zero, List.set_cons_succ])
              refine AnyG_one (i := 11) (by kernel_rfl) rfl (fun KK hKK => ?_)
              have hXok : bok (⟨⟨K, (zn : Int), m, bx⟩, DM, dcm, D, dc⟩ : BxM) := ⟨hK, HZQ.out, by show m.length ≤ 5000; omega, by show bx.length ≤ 5000; omega⟩
              obtain ⟨g11, hg⟩ : ∃ g, g = W4.heap.size := ⟨_, rfl⟩
              obtain ⟨W5, hW⟩ : ∃ x, x = W4.alloc (.cells (bcl (⟨⟨K, (zn : Int), m, bx⟩, DM, dcm, D, dc⟩ : BxM)).toArray 56) := ⟨_, rfl⟩
              have b5 : Below wc.heap.size wc W5 := by rw [hW]; exact b4.alloc b4.size _
              have hx1 : Whole W5 g11 56 (bcl (⟨⟨K, (zn : Int), m, bx⟩, DM, dcm, D, dc⟩ : BxM)).toArray := by rw [hW, hg]; exact Whole.here _ _ _
              have oM5 := oM4.alloc (.cells (bcl (⟨⟨K, (zn : Int), m, bx⟩, DM, dcm, D, dc⟩ : BxM)).toArray 56)
              rw [← hW] at oM5
              have oB5 := oB4.alloc (.cells (bcl (⟨⟨K, (zn : Int), m, bx⟩, DM, dcm, D, dc⟩ : BxM)).toArray 56)
              rw [← hW] at oB5
              refine step_buildSlice_box (by rfl) _ (by rfl) (X := (⟨⟨K, (zn : Int), m, bx⟩, DM, dcm, D, dc⟩ : BxM)) (by rfl) ?_
              rw [← hg, ← hW]
              clear hg hW
              clear hHeld
              have hHeld : (fun W : World => W.cell? ⟨w.heap.size, 35, none⟩ = some (.slice Ab j cb) ∧ W.rangeAt (w.heap.size + 1) 0 (K.map byt)) W5 := HCC.out _ b5
              refine hKK.out _ _ (.inr hHeld) trivial ?_
              clear hKK KK
              (try simp only [List.getElem_toArray, List.getElem_cons_succ, List.getElem_cons_zero, Act.put, List.setIfInBounds_toArray, List.set_cons_zero, List.set_cons_succ])
              refine AnyG_one (i := 12) (by kernel_rfl) rfl (fun KK hKK => ?_)
              refine step_append_seq (by rfl) _ _ 26 56 zbox 88 (by rfl) Tryd.underlying26 boxInfo zbox_size (by omega) (by omega) bcl_len bcl_one wc.heap.size _ L1 (by rfl) oM5 _ (some ⟨g11, 0, none⟩) 1 1 [(⟨⟨K, (zn : Int), m, bx⟩, DM, dcm, D, dc⟩ : BxM)] rfl (by rfl) (seq_one hx1 rfl hXok) (by have := HL1L.out; have := HLN.out; simp only [List.length_singleton]; omega) b5.size ?_
              intro vN W6 oM6 hbn hgn
              have oB6 := oB5.kept hgn (own_ne oB5 oM5 u8_ne_box)
              have b6 := b5.trans hbn
              obtain ⟨A5, c5, rfl, hS5⟩ := OwnS.seq (ok := bok) oM6 (fun x hx => by
                rcases List.mem_append.1 hx with h | h
                · exact HS1.out.2.2.2.1 x h
                · rw [List.mem_singleton.1 h]; exact hXok)
              obtain ⟨D2, dc2, he2, hsB⟩ := OwnS.seq (ok := fun _ => True) oB6 (fun _ _ => trivial)
              injection he2 with q1 q2 q3
              subst q1 q3
              have hV := bytes_seq hsB
              have hn5 : (L1 ++ [(⟨⟨K, (zn : Int), m, bx⟩, DM, dcm, D, dc⟩ : BxM)]).length = L1.length + 1 := by simp
              rw [hn5]
              clear hbn hgn q2 hsB hn5
              clear hHeld
              have hHeld : (fun W : World => W.cell? ⟨w.heap.size, 35, none⟩ = some (.slice Ab j cb) ∧ W.rangeAt (w.heap.size + 1) 0 (K.map byt)) W6 := HCC.out _ b6
              refine hKK.out _ _ (.inr hHeld) trivial ?_
              clear hKK KK
              (try simp only [List.getElem_toArray, List.getElem_cons_succ, List.getElem_cons_zero, Act.put, List.setIfInBounds_toArray, List.set_cons_zero, List.set_cons_succ])
              apply AnyG_pure (i := 13) rfl (by kernel_rfl) (by kernel_rfl) (by kernel_rfl) (by kernel_rfl)
              case hQ => exact fun _ _ _ h => h
              case hB => exact trivial
              case hC => exact .inr hHeld
              case hy => (refine Or.inl ⟨by rfl, ?_⟩; intro w hSw; (try go_split_ands); go_simp; (try with_reducible rfl))
              (try simp only [List.getElem_toArray, List.getElem_cons_succ, List.getElem_cons_zero, Act.put, List.setIfInBounds_toArray, List.set_cons_zero, List.set_cons_succ])
              refine AnyG_one (i := 14) (by kernel_rfl) rfl (fun KK hKK => ?_)
              (try simp only [List.getElem_toArray, List.getElem_cons_succ, List.getElem_cons_zero])
              have hrW := Whole.below HRU.out b6 (by omega)
              have hf35 := ALRow.frees hrW 35
              have hc35 := hHeld.1
              obtain ⟨W7, hW⟩ : ∃ x, x = W6.setCell ⟨w.heap.size, 35, none⟩ (.slice A5 (L1.length + 1) c5) := ⟨_, rfl⟩
              have r1 := ALRow.set35 hrW (.slice A5 (L1.length + 1) c5)
              have r2 := (hS5.mono (Q' := fun g => p.heap.size ≤ g) fun g _ h => Nat.le_trans hp3 h).keep (w' := W7) (by rw [hW]; exact ((Below.refl 0 _).setCell (p := ⟨w.heap.size, 35, none⟩) (Nat.zero_le _) _).size) (fun g _ h => by rw [hW]; exact heap_setCell_other _ ⟨w.heap.size, 35, none⟩ g _ (by show g ≠ w.heap.size; omega))
              have r3 := (hV.mono (Q' := fun g => p.heap.size ≤ g) fun g _ h => Nat.le_trans hp3 h).keep (w' := W7) (fun g _ h => by rw [hW]; exact heap_setCell_other _ ⟨w.heap.size, 35, none⟩ g _ (by show g ≠ w.heap.size; omega))
              have r4 := (HBXB.out.below b6 (Nat.le_refl _)).keep (w' := W7) (fun g _ h => by rw [hW]; exact heap_setCell_other _ ⟨w.heap.size, 35, none⟩ g _ (by show g ≠ w.heap.size; have h : p.heap.size ≤ g := h; omega))
              have r5 := Whole.far (Whole.below (Whole.below H8.out HB3.out (by omega)) b6 (by omega)) (a := ⟨w.heap.size, 35, none⟩) (by show _ ≠ w.heap.size; omega) (.slice A5 (L1.length + 1) c5)
              have r7 := (HU3.out.trans (b6.mono HU3.out.size)).setCell (p := ⟨w.heap.size, 35, none⟩) (Nat.le_refl _) (.slice A5 (L1.length + 1) c5)
              have r6 : p.heap.size ≤ W7.heap.size := by rw [hW]; exact Nat.le_trans hp3 (Nat.le_trans b6.size ((Below.refl 0 _).setCell (p := ⟨w.heap.size, 35, none⟩) (Nat.zero_le _) _).size)
              rw [← hW] at r1 r5 r7
              go_simp
              rw [← hW]
              clear hW
              refine hKK.out _ _ (.inl (by kernel_rfl)) trivial ?_
              clear hKK KK
              (try simp only [List.getElem_toArray, List.getElem_cons_succ, List.getElem_cons_zero, Act.put, List.setIfInBounds_toArray, List.set_cons_zero, List.set_cons_succ])
              refine AnyG_done (by kernel_rfl) ?_ _
              go_wp2_with fail
              go_meet
              exact ⟨A5, c5, DM, dcm, r1, r2, r3, r4, r5, r6, r7⟩
          · skip
            (try simp only [List.getElem_toArray, List.getElem_cons_succ, List.getElem_cons_zero])
            obtain ⟨g6, hg⟩ : ∃ g, g = W0.heap.size := ⟨_, rfl⟩
            obtain ⟨W1, hW⟩ : ∃ x, x = W0.alloc (.cells #[] 5) := ⟨_, rfl⟩
            have b1 : Below wc.heap.size wc W1 := by rw [hW]; exact b0.alloc b0.size _
            have oB1 : OwnBf W1 wc.heap.size (.slice (some ⟨g6, 0, none⟩) 0 0) [] := owns_empty (by rw [hW, hg]; exact heap_alloc_new _ _) (by rw [hg]; exact b0.size)
            go_simp
            rw [← hg, ← hW]
            clear hg hW
            clear hHeld
            have hHeld : (fun W : World => W.cell? ⟨w.heap.size, 35, none⟩ = some (.slice Ab j cb) ∧ W.rangeAt (w.heap.size + 1) 0 (K.map byt)) W1 := HCC.out _ b1
            refine hKK.out _ _ (.inr hHeld) trivial ?_
            clear hKK KK
            (try simp only [List.getElem_toArray, List.getElem_cons_succ, List.getElem_cons_zero, Act.put, List.setIfInBounds_toArray, List.set_cons_zero, List.set_cons_succ])
            refine AnyG_one (i := 0) (by kernel_rfl) rfl (fun KK hKK => ?_)
            (try simp only [List.getElem_toArray, List.getElem_cons_succ, List.getElem_cons_zero])
            obtain ⟨g0, hg⟩ : ∃ g, g = W1.heap.size := ⟨_, rfl⟩
            obtain ⟨W2, hW⟩ : ∃ x, x = W1.alloc (.cells #[] 56) := ⟨_, rfl⟩
            have b2 : Below wc.heap.size wc W2 := by rw [hW]; exact b1.alloc b1.size _
            have oM2 : OwnBc W2 wc.heap.size (.slice (some ⟨g0, 0, none⟩) 0 0) [] := owns_empty (by rw [hW, hg]; exact heap_alloc_new _ _) (by rw [hg]; exact b1.size)
            have oB2 := oB1.alloc (.cells #[] 56)
            rw [← hW] at oB2
            go_simp
            rw [← hg, ← hW]
            clear hg hW
            clear hHeld
            have hHeld : (fun W : World => W.cell? ⟨w.heap.size, 35, none⟩ = some (.slice Ab j cb) ∧ W.rangeAt (w.heap.size + 1) 0 (K.map byt)) W2 := HCC.out _ b2
            refine hKK.out _ _ (.inr hHeld) trivial ?_
            clear hKK KK
            (try simp only [List.getElem_toArray, List.getElem_cons_succ, List.getElem_cons_zero, Act.put, List.setIfInBounds_toArray, List.set_cons_zero, List.set_cons_succ])
            refine AnyG_one (i := 3) (by kernel_rfl) rfl (fun KK hKK => ?_)
            refine step_append_seq (by rfl) _ _ 26 56 zbox 88 (by rfl) Tryd.underlying26 boxInfo zbox_size (by omega) (by omega) bcl_len bcl_one wc.heap.size _ [] (by rfl) oM2 Q Ab j cb L1 HL1L.out (by rfl) (HS1.out.below (HU3.out.trans (b2.mono HU3.out.size)) (Nat.le_refl _)) (by have := HL1L.out; simp only [List.length_nil]; omega) b2.size ?_
            intro vM W3 oM0 hbn hgn
            have oM3 : OwnBc W3 wc.heap.size vM L1 := by rw [List.nil_append] at oM0; exact oM0
            have oB3 := oB2.kept hgn (own_ne oB2 oM2 u8_ne_box)
            have b3 := b2.trans hbn
            clear hbn hgn
            clear hHeld
            have hHeld : (fun W : World => W.cell? ⟨w.heap.size, 35, none⟩ = some (.slice Ab j cb) ∧ W.rangeAt (w.heap.size + 1) 0 (K.map byt)) W3 := HCC.out _ b3
            refine hKK.out _ _ (.inr hHeld) trivial ?_
            clear hKK KK
            (try simp only [List.getElem_toArray, List.getElem_cons_succ, List.getElem_cons_zero, Act.put, List.setIfInBounds_toArray, List.set_cons_zero, List.set_cons_succ])
            refine AnyG_one (i := 8) (by kernel_rfl) rfl (fun KK hKK => ?_)
            refine step_append_seq (by rfl) _ _ 40 5 (.int .u8 0) 1 (by rfl) Tryd.underlying40 byteInfo byte_size (by omega) (by omega) bf_len bf_one wc.heap.size _ [] (by rfl) oB3 Q2 B m.length d m rfl (by rfl) (seq_bytes (HM.out.below (HU3.out.trans (b3.mono HU3.out.size)) (Nat.le_refl _))) (by simp only [List.length_nil]; omega) b3.size ?_
            intro vB W4 oB0 hbn hgn
            have oB4 : OwnBf W4 wc.heap.size vB m := by rw [List.nil_append] at oB0; exact oB0
            have oM4 := oM3.kept hgn (own_ne oM3 oB3 box_ne_u8)
            obtain ⟨DM, dcm, rfl, hsB⟩ := OwnS.seq (ok := fun _ => True) oB4 (fun _ _ => trivial)
            have b4 := b3.trans hbn
            clear hbn hgn hsB
            clear hHeld
            have hHeld : (fun W : World => W.cell? ⟨w.heap.size, 35, none⟩ = some (.slice Ab j cb) ∧ W.rangeAt (w.heap.size + 1) 0 (K.map byt)) W4 := HCC.out _ b4
            refine hKK.out _ _ (.inr hHeld) trivial ?_
            clear hKK KK
            (try simp only [List.getElem_toArray, List.getElem_cons_succ, List.getElem_cons_zero, Act.put, List.setIfInBounds_toArray, List.set_cons_zero, List.set_cons_succ])
            apply AnyG_pure (i := 10) rfl (by kernel_rfl) (by kernel_rfl) (by kernel_rfl) (by kernel_rfl)
            case hQ => exact fun _ _ _ h => h
            case hB => exact trivial
            case hC => exact .inr hHeld
            case hy => exact yieldsIf_build_box (by rfl) _ _ _ _ rfl (e := ⟨K, (zn : Int), m, bx⟩) hK rfl rfl rfl rfl
            (try simp only [List.getElem_toArray, List.getElem_cons_succ, List.getElem_cons_zero, Act.put, List.setIfInBounds_toArray, List.set_cons_zero, List.set_cons_succ])
            refine AnyG_one (i := 11) (by kernel_rfl) rfl (fun KK hKK => ?_)
            have hXok : bok (⟨⟨K, (zn : Int), m, bx⟩, DM, dcm, D, dc⟩ : BxM) := ⟨hK, HZQ.out, by show m.length ≤ 5000; omega, by show bx.length ≤ 5000; omega⟩
            obtain ⟨g11, hg⟩ : ∃ g, g = W4.heap.size := ⟨_, rfl⟩
            obtain ⟨W5, hW⟩ : ∃ x, x = W4.alloc (.cells (bcl (⟨⟨K, (zn : Int), m, bx⟩, DM, dcm, D, dc⟩ : BxM)).toArray 56) := ⟨_, rfl⟩
            have b5 : Below wc.heap.size wc W5 := by rw [hW]; exact b4.alloc b4.size _
            have hx1 : Whole W5 g11 56 (bcl (⟨⟨K, (zn : Int), m, bx⟩, DM, dcm, D, dc⟩ : BxM)).toArray := by rw [hW, hg]; exact Whole.here _ _ _
            have oM5 := oM4.alloc (.cells (bcl (⟨⟨K, (zn : Int), m, bx⟩, DM, dcm, D, dc⟩ : BxM)).toArray 56)
            rw [← hW] at oM5
            have oB5 := oB4.alloc (.cells (bcl (⟨⟨K, (zn : Int), m, bx⟩, DM, dcm, D, dc⟩ : BxM)).toArray 56)
            rw [← hW] at oB5
            refine step_buildSlice_box (by rfl) _ (by rfl) (X := (⟨⟨K, (zn : Int), m, bx⟩, DM, dcm, D, dc⟩ : BxM)) (by rfl) ?_
            rw [← hg, ← hW]
            clear hg hW
            clear hHeld
            have hHeld : (fun W : World => W.cell? ⟨w.heap.size, 35, none⟩ = some (.slice Ab j cb) ∧ W.rangeAt (w.heap.size + 1) 0 (K.map byt)) W5 := HCC.out _ b5
            refine hKK.out _ _ (.inr hHeld) trivial ?_
            clear hKK KK
            (try simp only [List.getElem_toArray, List.getElem_cons_succ, List.getElem_cons_zero, Act.put, List.setIfInBounds_toArray, List.set_cons_zero, List.set_cons_succ])
            refine AnyG_one (i := 12) (by kernel_rfl) rfl (fun KK hKK => ?_)
            refine step_append_seq (by rfl) _ _ 26 56 zbox 88 (by rfl) Tryd.underlying26 boxInfo zbox_size (by omega) (by omega) bcl_len bcl_one wc.heap.size _ L1 (by rfl) oM5 _ (some ⟨g11, 0, none⟩) 1 1 [(⟨⟨K, (zn : Int), m, bx⟩, DM, dcm, D, dc⟩ : BxM)] rfl (by rfl) (seq_one hx1 rfl hXok) (by have := HL1L.out; have := HLN.out; simp only [List.length_singleton]; omega) b5.size ?_
            intro vN W6 oM6 hbn hgn
            have oB6 := oB5.kept hgn (own_ne oB5 oM5 u8_ne_box)
            have b6 := b5.trans hbn
            obtain ⟨A5, c5, rfl, hS5⟩ := OwnS.seq (ok := bok) oM6 (fun x hx => by
              rcases List.mem_append.1 hx with h | h
              · exact HS1.out.2.2.2.1 x h
              · rw [List.mem_singleton.1 h]; exact hXok)
            obtain ⟨D2, dc2, he2, hsB⟩ := OwnS.seq (ok := fun _ => True) oB6 (fun _ _ => trivial)
            injection he2 with q1 q2 q3
            subst q1 q3
            have hV := bytes_seq hsB
            have hn5 : (L1 ++ [(⟨⟨K, (zn : Int), m, bx⟩, DM, dcm, D, dc⟩ : BxM)]).length = L1.length + 1 := by simp
            rw [hn5]
            clear hbn hgn q2 hsB hn5
            clear hHeld
            have hHeld : (fun W : World => W.cell? ⟨w.heap.size, 35, none⟩ = some (.slice Ab j cb) ∧ W.rangeAt (w.heap.size + 1) 0 (K.map byt)) W6 := HCC.out _ b6
            refine hKK.out _ _ (.inr hHeld) trivial ?_
            clear hKK KK
            (try simp only [List.getElem_toArray, List.getElem_cons_succ, List.getElem_cons_zero, Act.put, List.setIfInBounds_toArray, List.set_cons_zero, List.set_cons_succ])
            apply AnyG_pure (i := 13) rfl (by kernel_rfl) (by kernel_rfl) (by kernel_rfl) (by kernel_rfl)
            case hQ => exact fun _ _ _ h => h
            case hB => exact trivial
            case hC => exact .inr hHeld
            case hy => (refine Or.inl ⟨by rfl, ?_⟩; intro w hSw; (try go_split_ands); go_simp; (try with_reducible rfl))
            (try simp only [List.getElem_toArray, List.getElem_cons_succ, List.getElem_cons_zero, Act.put, List.setIfInBounds_toArray, List.set_cons_zero, List.set_cons_succ])
            refine AnyG_one (i := 14) (by kernel_rfl) rfl (fun KK hKK => ?_)
            (try simp only [List.getElem_toArray, List.getElem_cons_succ, List.getElem_cons_zero])
            have hrW := Whole.below HRU.out b6 (by omega)
            have hf35 := ALRow.frees hrW 35
            have hc35 := hHeld.1
            obtain ⟨W7, hW⟩ : ∃ x, x = W6.setCell ⟨w.heap.size, 35, none⟩ (.slice A5 (L1.length + 1) c5) := ⟨_, rfl⟩
            have r1 := ALRow.set35 hrW (.slice A5 (L1.length + 1) c5)
            have r2 := (hS5.mono (Q' := fun g => p.heap.size ≤ g) fun g _ h => Nat.le_trans hp3 h).keep (w' := W7) (by rw [hW]; exact ((Below.refl 0 _).setCell (p := ⟨w.heap.size, 35, none⟩) (Nat.zero_le _) _).size) (fun g _ h => by rw [hW]; exact heap_setCell_other _ ⟨w.heap.size, 35, none⟩ g _ (by show g ≠ w.heap.size; omega))
            have r3 := (hV.mono (Q' := fun g => p.heap.size ≤ g) fun g _ h => Nat.le_trans hp3 h).keep (w' := W7) (fun g _ h => by rw [hW]; exact heap_setCell_other _ ⟨w.heap.size, 35, none⟩ g _ (by show g ≠ w.heap.size; omega))
            have r4 := (HBXB.out.below b6 (Nat.le_refl _)).keep (w' := W7) (fun g _ h => by rw [hW]; exact heap_setCell_other _ ⟨w.heap.size, 35, none⟩ g _ (by show g ≠ w.heap.size; have h : p.heap.size ≤ g := h; omega))
            have r5 := Whole.far (Whole.below (Whole.below H8.out HB3.out (by omega)) b6 (by omega)) (a := ⟨w.heap.size, 35, none⟩) (by show _ ≠ w.heap.size; omega) (.slice A5 (L1.length + 1) c5)
            have r7 := (HU3.out.trans (b6.mono HU3.out.size)).setCell (p := ⟨w.heap.size, 35, none⟩) (Nat.le_refl _) (.slice A5 (L1.length + 1) c5)
            have r6 : p.heap.size ≤ W7.heap.size := by rw [hW]; exact Nat.le_trans hp3 (Nat.le_trans b6.size ((Below.refl 0 _).setCell (p := ⟨w.heap.size, 35, none⟩) (Nat.zero_le _) _).size)
            rw [← hW] at r1 r5 r7
            go_simp
            rw [← hW]
            clear hW
            refine hKK.out _ _ (.inl (by kernel_rfl)) trivial ?_
            clear hKK KK
            (try simp only [List.getElem_toArray, List.getElem_cons_succ, List.getElem_cons_zero, Act.put, List.setIfInBounds_toArray, List.set_cons_zero, List.set_cons_succ])
            refine AnyG_done (by kernel_rfl) ?_ _
            go_wp2_with fail
            go_meet
            exact ⟨A5, c5, DM, dcm, r1, r2, r3, r4, r5, r6, r7⟩
        case rest =>
          obtain ⟨A5, c5, DM, dcm, hr, hS5, hV, hV2, h8, hp9, hbw⟩ := hcut
          rename World => w9
          have HS5 := Lib.hid (hS5.keep (w' := w9.drew) (Nat.le_refl _) fun _ _ _ => rfl)
          have HV := Lib.hid hV.drew
          have HV2 := Lib.hid hV2.drew
          have hr0 : ALRow w9.drew w.heap.size a.free a.seed a.fresh (.slice Am a.macs.length cm) (.slice A5 (L1.length + 1) c5) := Whole.drew hr
          have h80 : Whole w9.drew (w.heap.size + 1 + 1) 28 zar := Whole.drew h8
          have HBF : Hid (Below w.heap.size w w9.drew) := Lib.hid hbw.drew
          have hp1w0 : p.heap.size ≤ w9.drew.heap.size := hp9
          clear hr hS5 hV hV2 h8 hbw hp9
          go_upto_region 21 with fail
          refine wp_region_held_drew (S := fun W : World => W.rangeAt w.heap.size 0 (alcl a.free a.seed a.fresh (.slice Am a.macs.length cm) (.slice A5 (L1.length + 1) c5))) (by kernel_rfl) (Whole.range hr0) (fun hHeld => ?_)
          generalize w9.drew = W0 at hr0 h80 HBF HS5 HV HV2 hp1w0 hHeld ⊢
          have HCC : Hid (∀ W, Below W0.heap.size W0 W → (fun W : World => W.rangeAt w.heap.size 0 (alcl a.free a.seed a.fresh (.slice Am a.macs.length cm) (.slice A5 (L1.length + 1) c5))) W) := Lib.hid fun W hb => Whole.range (Whole.below hr0 hb hr0.lt)
          apply wpAnyH_take (i := 0) rfl (by kernel_rfl) (by kernel_rfl) (by kernel_rfl)
          case hQ => exact fun _ _ _ h => h
          case hS => exact hHeld
          case hy => exact yieldsIf_load_mid (by rfl) 28 _ rfl w.heap.size (0) rfl (alcl a.free a.seed a.fresh (.slice Am a.macs.length cm) (.slice A5 (L1.length + 1) c5)) _ (fun w hS => hS) Tryd.underlying28 rfl (by rw [algSize, alcl_length])
          (try simp only [List.getElem_toArray, List.getElem_cons_zero, Act.put, List.setIfInBounds_toArray, List.set_cons_zero, List.set_cons_succ])
          apply wpAnyH_take (i := 2) rfl (by kernel_rfl) (by kernel_rfl) (by kernel_rfl)
          case hQ => exact fun _ _ _ h => h
          case hS => exact hHeld
          case hy => (refine Or.inl ⟨by rfl, ?_⟩; intro w hSw; (try go_split_ands); go_simp; (try with_reducible rfl))
          (try simp only [List.getElem_toArray, List.getElem_cons_succ, List.getElem_cons_zero, Act.put, List.setIfInBounds_toArray, List.set_cons_zero, List.set_cons_succ])
          refine wpAnyH_ready (rs := [1]) (by kernel_rfl) (by simp) ?_
          refine AllReadyH.cons rfl (fun KK hKK => ?_) AllReadyH.nil
          (try simp only [List.getElem_toArray, List.getElem_cons_succ, List.getElem_cons_zero])
          obtain ⟨g5, hg5⟩ : ∃ g, g = W0.heap.size := ⟨_, rfl⟩
          obtain ⟨W1, hW1⟩ : ∃ x, x = W0.alloc (.cells #[] 5) := ⟨_, rfl⟩
          have own0 : OwnBf W1 W0.heap.size (.slice (some ⟨g5, 0, none⟩) 0 0) [] := owns_empty (by rw [hW1, hg5]; exact heap_alloc_new _ _) (by rw [hg5]; exact Nat.le_refl _)
          have s1 : Below W0.heap.size W0 W1 := by rw [hW1]; exact (Below.refl _ _).alloc (Nat.le_refl _) _
          go_simp
          rw [← hg5, ← hW1]
          clear hg5 hW1
          refine hKK.out _ _ (HCC.out _ s1) (fun hHeld => ?_)
          clear hKK KK
          (try simp only [List.getElem_toArray, List.getElem_cons_succ, List.getElem_cons_zero, Act.put, List.setIfInBounds_toArray, List.set_cons_zero, List.set_cons_succ])
          refine wpAnyH_ready (rs := [3]) (by kernel_rfl) (by simp) ?_
          refine AllReadyH.cons rfl (fun KK hKK => ?_) AllReadyH.nil
          refine step_append_bytes (by rfl) _ _ (by rfl) W0.heap.size _ [] (by rfl) (bf_own own0) _ _ bx (by rfl) (HV2.out.below s1 (Nat.le_refl _)) (by simp only [List.length_nil]; omega) s1.size ?_
          intro vN W2 oN hs2
          rw [List.nil_append] at oN
          have s2 : Below W0.heap.size W0 W2 := s1.trans hs2
          refine hKK.out _ _ (HCC.out _ s2) (fun hHeld => ?_)
          clear hKK KK
          (try simp only [List.getElem_toArray, List.getElem_cons_succ, List.getElem_cons_zero, Act.put, List.setIfInBounds_toArray, List.set_cons_zero, List.set_cons_succ])
          refine wpAnyH_ready (rs := [4]) (by kernel_rfl) (by simp) ?_
          refine AllReadyH.cons rfl (fun KK hKK => ?_) AllReadyH.nil
          (try simp only [List.getElem_toArray, List.getElem_cons_succ, List.getElem_cons_zero])
          obtain ⟨W3, hW3⟩ : ∃ x, x = W2.setRow (w.heap.size + 1 + 1) (alcl a.free a.seed a.fresh (.slice Am a.macs.length cm) (.slice A5 (L1.length + 1) c5)).toArray := ⟨_, rfl⟩
          have h8w := Whole.below h80 s2 h80.lt
          have e1 : Whole W3 (w.heap.size + 1 + 1) 28 (alc a.free a.seed a.fresh (.slice Am a.macs.length cm) (.slice A5 (L1.length + 1) c5)) := by rw [hW3]; exact Whole.setRow h8w _
          have hbf : Below w.heap.size w W3 := by rw [hW3]; exact below_setRow (HBF.out.trans (s2.mono HBF.out.size)) (by omega) _
          have hV : Bytes W3 (fun g => w.heap.size ≤ g) vN bx := ((Bytes.of_own oN).keep (fun b _ hb => by rw [hW3]; exact setRow_other _ _ b _ (by have : W0.heap.size ≤ b := hb; omega))).mono fun b _ hb => by have : W0.heap.size ≤ b := hb; omega
          have kp : ∀ b, b < W0.heap.size → p.heap.size ≤ b → W3.heap[b]? = W0.heap[b]? := fun b hb hq => by rw [hW3]; exact (setRow_other _ _ b _ (by omega)).trans (s2.block b hb)
          have szk : W0.heap.size ≤ W3.heap.size := by rw [hW3]; exact Nat.le_trans s2.size (below_setRow (B := 0) (Below.refl 0 _) (Nat.zero_le _) _).size
          rw [if_pos (by kernel_rfl)]
          refine wp_store_row 28 _ _ rfl (w.heap.size + 1 + 1) _ rfl rfl 28 _ h8w (by rw [algSize, List.size_toArray, alcl_length]) (by rw [zar_size, List.size_toArray, alcl_length]) (alc_one _ _ _ _ _ _ _ _ _) ?_
          rw [← hW3]
          have hS3 : (fun W : World => W.rangeAt w.heap.size 0 (alcl a.free a.seed a.fresh (.slice Am a.macs.length cm) (.slice A5 (L1.length + 1) c5))) W3 := by rw [hW3]; exact Whole.range (Whole.setRow_far (Whole.below hr0 s2 hr0.lt) (by omega) _)
          clear hW3
          refine hKK.out _ _ (hS3) (fun hHeld => ?_)
          clear hKK KK
          (try simp only [List.getElem_toArray, List.getElem_cons_succ, List.getElem_cons_zero, Act.put, List.setIfInBounds_toArray, List.set_cons_zero, List.set_cons_succ])
          apply wpAnyH_take (i := 5) rfl (by kernel_rfl) (by kernel_rfl) (by kernel_rfl)
          case hQ => exact fun _ _ _ h => h
          case hS => exact hHeld
          case hy => (refine Or.inl ⟨by rfl, ?_⟩; intro w hSw; (try go_split_ands); go_simp; (try with_reducible rfl))
          (try simp only [List.getElem_toArray, List.getElem_cons_succ, List.getElem_cons_zero, Act.put, List.setIfInBounds_toArray, List.set_cons_zero, List.set_cons_succ])
          apply wpAnyH_take (i := 6) rfl (by kernel_rfl) (by kernel_rfl) (by kernel_rfl)
          case hQ => exact fun _ _ _ h => h
          case hS => exact hHeld
          case hy => (refine Or.inl ⟨by rfl, ?_⟩; intro w hSw; (try go_split_ands); go_simp; (try with_reducible rfl))
          (try simp only [List.getElem_toArray, List.getElem_cons_succ, List.getElem_cons_zero, Act.put, List.setIfInBounds_toArray, List.set_cons_zero, List.set_cons_succ])
          refine wpAnyH_done (by kernel_rfl) ?_ _
          clear hHeld
          go_wp2_with fail
          refine bodyPost_ret (results_algb Tryd.results34 _ rfl _ rfl _ rfl (alc_size _ _ _ _ _) e1) rfl ?_
          show SeR _ _ _ _ R ∧ _
          rw [HRR.out]
          exact ⟨⟨_, _, rfl, (by
              have h := alv_moreb (w := w) (Q := Q) (a := a) (X := (⟨⟨K, (zn : Int), m, bx⟩, DM, dcm, D, dc⟩ : BxM)) HL1.out (fun x hx => ⟨((HB1.out x hx).1.below hbf (Nat.le_refl _)).mono fun _ _ h => .inl h, ((HB1.out x hx).2.below hbf (Nat.le_refl _)).mono fun _ _ h => .inl h⟩) ((HS5.out.keep szk kp).mono fun g _ h => (by have h : p.heap.size ≤ g := h; omega : w.heap.size ≤ g)) ((HV.out.keep kp).mono fun g _ h => (by have h : p.heap.size ≤ g := h; omega : w.heap.size ≤ g)) ((HV2.out.keep kp).mono fun g _ h => (by have h : p.heap.size ≤ g := h; omega : w.heap.size ≤ g)) (HMC.out.below hbf (Nat.le_refl _)) HA.out HLN.out
              rw [show (L1 ++ [(⟨⟨K, (zn : Int), m, bx⟩, DM, dcm, D, dc⟩ : BxM)]).length = L1.length + 1 by simp] at h
              exact h), hV⟩, hbf⟩
    obtain ⟨e, he⟩ : ∃ e, a.boxes[j]? = some e := ⟨_, List.getElem?_eq_getElem (by have := HNB.out; omega)⟩
    obtain ⟨g, o, D, dc, D1, dc1, rfl, hq, hg, hrow, -, hby, hbx, hk32, hnc, hp5, hb5⟩ := Bxs.get ((HBX.out.below HB.out (Nat.le_refl _)).below HBW.out (Nat.le_refl _)) j e he
    have HS := Lib.hid (fndb_drop he K z m)
    have HBY := Lib.hid hby
    have HBO := Lib.hid hbx
    have HT := Lib.hid (And.intro hp5 hb5)
    have HNC := Lib.hid hnc
    obtain ⟨X, hX⟩ : ∃ X : BxM, X = ⟨e, D, dc, D1, dc1⟩ := ⟨_, rfl⟩
    rw [← hX] at hrow
    have HXE := Lib.hid hX
    have hXl := bcl_len X
    have hXs : (bcl X).toArray.size = 35 := by rw [List.size_toArray, hXl]
    have j0 : (0 : Int) ≤ (j : Int) := by omega
    have jn : (j : Int) < (nb : Int) := by omega
    clear he hby hbx hq hnc hp5 hb5 hX
    go_upto_region 9 with (first
      | (with_reducible refine wpList_load_mid rfl 56 _ rfl g (o + j * 35) rfl _ _ hrow Tryd.underlying56 rfl (by rw [boxSize, hXl]) ?_)
      | (with_reducible refine wpList_store_row rfl 56 _ _ rfl wr.heap.size _ rfl rfl 56 _ (heap_alloc_new wr _) (by rw [boxSize, hXs]) (by rw [hXs]; with_unfolding_all rfl) (all_oneCell_toArray (bcl_one X)) ?_))
    rw [zbr_lit]
    obtain ⟨u, hu⟩ : ∃ x, x = (wr.alloc (.cells zbr 56)).setRow wr.heap.size (bcl X).toArray := ⟨_, rfl⟩
    have hxr : Whole u wr.heap.size 56 (bcl X).toArray := by rw [hu]; exact Whole.setRow (Whole.here _ _ _) _
    have hbu : Below wr.heap.size wr u := by rw [hu]; exact below_setRow ((Below.refl _ _).alloc (Nat.le_refl _) _) (Nat.le_refl _) _
    rw [← hu]
    clear hu hrow
    have hwu : wr.heap.size < u.heap.size := hxr.lt
    have HBU : Hid (Below p.heap.size p u) := Lib.hid (HBW.out.trans (hbu.mono hpw))
    have HWU := Lib.hid hbu
    have k1 : u.rangeAt wr.heap.size 0 (e.key.map byt) := by
      have := BXRow.key hxr (by rw [HXE.out]; exact hk32); rw [HXE.out] at this; exact this
    have k2 : u.rangeAt (w.heap.size + 1) 0 (K.map byt) := TGRow.range (Whole.below HK.out HBU.out (by omega))
    obtain ⟨n1, p1, b1⟩ : u.cell? ⟨wr.heap.size, 32, none⟩ = some (.int .i64 e.nonce) ∧ u.cell? ⟨wr.heap.size, 33, none⟩ = some (.slice D e.plain.length dc) ∧ u.cell? ⟨wr.heap.size, 34, none⟩ = some (.slice D1 e.box.length dc1) := by
      have := BXRow.cells hxr; rw [HXE.out] at this; exact this
    have HXR := Lib.hid hxr
    have hqq := fun W => run_eql_tag hk32 hK W
    have hkl : (e.key.map byt).length = 32 := by rw [List.length_map, hk32]
    have hKl : (K.map byt).length = 32 := by rw [List.length_map, hK]
    clear hxr hbu c35 b1
    by_cases hke : e.key = K
    case neg =>
      rw [decide_eq_false hke] at hqq
      have HXN : Hid (fndb (a.boxes.drop (j + 1)) K z m = f) := Lib.hid (by have := HS.out; rw [HF.out, if_neg (fun q => hke q.1)] at this; exact this.symm)
      go_wp2_with (first
        | (with_reducible refine wpList_load_mid rfl 23 _ rfl wr.heap.size 0 rfl _ _ k1 Tryd.underlying23 rfl (by rw [tagSize, hkl]) ?_)
        | (with_reducible refine wpList_load_mid rfl 23 _ rfl (w.heap.size + 1) 0 rfl _ _ k2 Tryd.underlying23 rfl (by rw [tagSize, hKl]) ?_))
      go_roundw
      case rel => exact ⟨j + 1, by go_num, by omega, HXN.out, HBU.out⟩
      case measure => simp [intOf]; omega
    rw [decide_eq_true hke] at hqq
    have HKe := Lib.hid hke
    clear hke
    by_cases hne : e.nonce = z
    case neg =>
      have hne2 : ¬ z = e.nonce := fun q => hne q.symm
      have HXN : Hid (fndb (a.boxes.drop (j + 1)) K z m = f) := Lib.hid (by have := HS.out; rw [HF.out, if_neg (fun q => hne q.2.1)] at this; exact this.symm)
      go_wp2_with (first
        | (with_reducible refine wpList_load_mid rfl 23 _ rfl wr.heap.size 0 rfl _ _ k1 Tryd.underlying23 rfl (by rw [tagSize, hkl]) ?_)
        | (with_reducible refine wpList_load_mid rfl 23 _ rfl (w.heap.size + 1) 0 rfl _ _ k2 Tryd.underlying23 rfl (by rw [tagSize, hKl]) ?_))
      go_roundw
      case rel => exact ⟨j + 1, by go_num, by omega, HXN.out, HBU.out⟩
      case measure => simp [intOf]; omega
    rw [hne] at n1
    have HKE := Lib.hid (And.intro HKe.out hne)
    clear hne
    go_wp2_with (first
      | (with_reducible refine wpList_load_mid rfl 23 _ rfl wr.heap.size 0 rfl _ _ k1 Tryd.underlying23 rfl (by rw [tagSize, hkl]) ?_)
      | (with_reducible refine wpList_load_mid rfl 23 _ rfl (w.heap.size + 1) 0 rfl _ _ k2 Tryd.underlying23 rfl (by rw [tagSize, hKl]) ?_))
    refine (same_ _ _ e.plain m _ _ u (HBY.out.below HWU.out (Nat.le_refl _)) ((HM.out.below HB.out (Nat.le_refl _)).below HBU.out (Nat.le_refl _)) (by have := HT.out.1; omega) (by omega)).mono ?_
    rintro e1 w1 ⟨rfl, hw1⟩
    have HB1 : Hid (Below p.heap.size p w1) := Lib.hid (HBU.out.trans (hw1.mono HBU.out.size))
    have hp1w : p.heap.size ≤ w1.heap.size := HB1.out.size
    have HU1 := Lib.hid hw1
    clear hw1 k1 k2 n1 p1 hqq
    by_cases hem : e.plain = m
    case neg =>
      rw [decide_eq_false hem]
      have HXN : Hid (fndb (a.boxes.drop (j + 1)) K z m = f) := Lib.hid (by have := HS.out; rw [HF.out, if_neg (fun q => hem q.2.2)] at this; exact this.symm)
      go_wp2_with fail
      go_roundw
      case rel => exact ⟨j + 1, by go_num, by omega, HXN.out, HB1.out⟩
      case measure => simp [intOf]; omega
    rw [decide_eq_true hem]
    have hfe : f = some e.box := by have := HS.out; rw [HF.out, if_pos ⟨HKE.out.1, HKE.out.2, hem⟩] at this; exact this
    have HRR : Hid (R = (a, e.box, 0)) := Lib.hid (by rw [HRR0.out, hfe])
    have HOB := Lib.hid ((HBO.out.below HWU.out (Nat.le_refl _)).below HU1.out (Nat.le_refl _))
    have hbl5 := HT.out.2
    clear hfe hem HRR0 HF HF0 HS
    go_upto_region 10 with fail
    have hr0 : ALRow w1.drew w.heap.size a.free a.seed a.fresh (.slice Am a.macs.length cm) (.slice (some ⟨g, o, none⟩) nb cb) := Whole.drew (Whole.below HR.out HB1.out (by omega))
    have h80 : Whole w1.drew (w.heap.size + 1 + 1) 28 zar := Whole.drew (Whole.below H8.out HB1.out (by omega))
    have hx0 : Whole w1.drew wr.heap.size 56 (bcl X).toArray := Whole.drew (Whole.below HXR.out HU1.out (by omega))
    have b34 : w1.drew.cell? ⟨wr.heap.size, 34, none⟩ = some (.slice D1 e.box.length dc1) := by
      have := (BXRow.cells hx0).2.2; rw [HXE.out] at this; exact this
    have b0 : Below w1.heap.size w1 w1.drew := (Below.refl _ _).drew
    have HOB0 := Lib.hid (HOB.out.below b0 (Nat.le_refl _))
    have hsz0 : w1.drew.heap.size = w1.heap.size := rfl
    have HBF : Hid (Below w.heap.size w w1.drew) := Lib.hid ((HB.out.trans (HB1.out.mono (by omega))).drew)
    have hwl : wr.heap.size < w1.drew.heap.size := hx0.lt
    have hp1w0 : p.heap.size ≤ w1.drew.heap.size := hp1w
    have HB34 : Hid (∀ W, Whole W wr.heap.size 56 (bcl X).toArray → W.cell? ⟨wr.heap.size, 34, none⟩ = some (.slice D1 e.box.length dc1)) := Lib.hid fun W h => by
      have := (BXRow.cells h).2.2; rw [HXE.out] at this; exact this
    refine wp_region_held_drew (S := fun W : World => W.rangeAt w.heap.size 0 (alcl a.free a.seed a.fresh (.slice Am a.macs.length cm) (.slice (some ⟨g, o, none⟩) nb cb)) ∧ W.cell? ⟨wr.heap.size, 34, none⟩ = some (.slice D1 e.box.length dc1)) (by kernel_rfl) (⟨Whole.range hr0, HB34.out _ hx0⟩) (fun hHeld => ?_)
    generalize w1.drew = W0 at hr0 h80 hx0 b34 HOB0 HBF hwl hp1w0 hHeld ⊢
    have HCC : Hid (∀ W, Below W0.heap.size W0 W → (fun W : World => W.rangeAt w.heap.size 0 (alcl a.free a.seed a.fresh (.slice Am a.macs.length cm) (.slice (some ⟨g, o, none⟩) nb cb)) ∧ W.cell? ⟨wr.heap.size, 34, none⟩ = some (.slice D1 e.box.length dc1)) W) := Lib.hid fun W hb => ⟨Whole.range (Whole.below hr0 hb hr0.lt), (hb.cell (p := ⟨wr.heap.size, 34, none⟩) hwl).trans b34⟩
    apply wpAnyH_take (i := 0) rfl (by kernel_rfl) (by kernel_rfl) (by kernel_rfl)
    case hQ => exact fun _ _ _ h => h
    case hS => exact hHeld
    case hy => exact yieldsIf_load_mid (by rfl) 28 _ rfl w.heap.size (0) rfl (alcl a.free a.seed a.fresh (.slice Am a.macs.length cm) (.slice (some ⟨g, o, none⟩) nb cb)) _ (fun w hS => hS.1) Tryd.underlying28 rfl (by rw [algSize, alcl_length])
    (try simp only [List.getElem_toArray, List.getElem_cons_zero, Act.put, List.setIfInBounds_toArray, List.set_cons_zero, List.set_cons_succ])
    apply wpAnyH_take (i := 2) rfl (by kernel_rfl) (by kernel_rfl) (by kernel_rfl)
    case hQ => exact fun _ _ _ h => h
    case hS => exact hHeld
    case hy => (refine Or.inl ⟨by rfl, ?_⟩; intro w hSw; (try go_split_ands); go_simp; (try with_reducible rfl))
    (try simp only [List.getElem_toArray, List.getElem_cons_succ, List.getElem_cons_zero, Act.put, List.setIfInBounds_toArray, List.set_cons_zero, List.set_cons_succ])
    apply wpAnyH_take (i := 3) rfl (by kernel_rfl) (by kernel_rfl) (by kernel_rfl)
    case hQ => exact fun _ _ _ h => h
    case hS => exact hHeld
    case hy => (refine Or.inl ⟨by rfl, ?_⟩; intro w hSw; (try go_split_ands); go_simp; (try with_reducible rfl))
    (try simp only [List.getElem_toArray, List.getElem_cons_succ, List.getElem_cons_zero, Act.put, List.setIfInBounds_toArray, List.set_cons_zero, List.set_cons_succ])
    refine wpAnyH_ready (rs := [1]) (by kernel_rfl) (by simp) ?_
    refine AllReadyH.cons rfl (fun KK hKK => ?_) AllReadyH.nil
    (try simp only [List.getElem_toArray, List.getElem_cons_succ, List.getElem_cons_zero])
    obtain ⟨g5, hg5⟩ : ∃ g, g = W0.heap.size := ⟨_, rfl⟩
    obtain ⟨W1, hW1⟩ : ∃ x, x = W0.alloc (.cells #[] 5) := ⟨_, rfl⟩
    have own0 : OwnBf W1 W0.heap.size (.slice (some ⟨g5, 0, none⟩) 0 0) [] := owns_empty (by rw [hW1, hg5]; exact heap_alloc_new _ _) (by rw [hg5]; exact Nat.le_refl _)
    have s1 : Below W0.heap.size W0 W1 := by rw [hW1]; exact (Below.refl _ _).alloc (Nat.le_refl _) _
    go_simp
    rw [← hg5, ← hW1]
    clear hg5 hW1
    refine hKK.out _ _ (HCC.out _ s1) (fun hHeld => ?_)
    clear hKK KK
    (try simp only [List.getElem_toArray, List.getElem_cons_succ, List.getElem_cons_zero, Act.put, List.setIfInBounds_toArray, List.set_cons_zero, List.set_cons_succ])
    refine wpAnyH_ready (rs := [4]) (by kernel_rfl) (by simp) ?_
    refine AllReadyH.cons rfl (fun KK hKK => ?_) AllReadyH.nil
    refine step_append_bytes (by rfl) _ _ (by rfl) W0.heap.size _ [] (by rfl) (bf_own own0) _ _ e.box (by rfl) (HOB0.out.below s1 (Nat.le_refl _)) (by simp only [List.length_nil]; omega) s1.size ?_
    intro vN W2 oN hs2
    rw [List.nil_append] at oN
    have s2 : Below W0.heap.size W0 W2 := s1.trans hs2
    refine hKK.out _ _ (HCC.out _ s2) (fun hHeld => ?_)
    clear hKK KK
    (try simp only [List.getElem_toArray, List.getElem_cons_succ, List.getElem_cons_zero, Act.put, List.setIfInBounds_toArray, List.set_cons_zero, List.set_cons_succ])
    refine wpAnyH_ready (rs := [5]) (by kernel_rfl) (by simp) ?_
    refine AllReadyH.cons rfl (fun KK hKK => ?_) AllReadyH.nil
    (try simp only [List.getElem_toArray, List.getElem_cons_succ, List.getElem_cons_zero])
    obtain ⟨W3, hW3⟩ : ∃ x, x = W2.setRow (w.heap.size + 1 + 1) (alcl a.free a.seed a.fresh (.slice Am a.macs.length cm) (.slice (some ⟨g, o, none⟩) nb cb)).toArray := ⟨_, rfl⟩
    have h8w := Whole.below h80 s2 h80.lt
    have e1 : Whole W3 (w.heap.size + 1 + 1) 28 (alc a.free a.seed a.fresh (.slice Am a.macs.length cm) (.slice (some ⟨g, o, none⟩) nb cb)) := by rw [hW3]; exact Whole.setRow h8w _
    have hbf : Below w.heap.size w W3 := by rw [hW3]; exact below_setRow (HBF.out.trans (s2.mono HBF.out.size)) (by omega) _
    have hV : Bytes W3 (fun g => w.heap.size ≤ g) vN e.box := ((Bytes.of_own oN).keep (fun b _ hb => by rw [hW3]; exact setRow_other _ _ b _ (by have : W0.heap.size ≤ b := hb; omega))).mono fun b _ hb => by have : W0.heap.size ≤ b := hb; omega
    have kp : ∀ b, b < W0.heap.size → p.heap.size ≤ b → W3.heap[b]? = W0.heap[b]? := fun b hb hq => by rw [hW3]; exact (setRow_other _ _ b _ (by omega)).trans (s2.block b hb)
    have szk : W0.heap.size ≤ W3.heap.size := by rw [hW3]; exact Nat.le_trans s2.size (below_setRow (B := 0) (Below.refl 0 _) (Nat.zero_le _) _).size
    rw [if_pos (by kernel_rfl)]
    refine wp_store_row 28 _ _ rfl (w.heap.size + 1 + 1) _ rfl rfl 28 _ h8w (by rw [algSize, List.size_toArray, alcl_length]) (by rw [zar_size, List.size_toArray, alcl_length]) (alc_one _ _ _ _ _ _ _ _ _) ?_
    rw [← hW3]
    have hS3 : (fun W : World => W.rangeAt w.heap.size 0 (alcl a.free a.seed a.fresh (.slice Am a.macs.length cm) (.slice (some ⟨g, o, none⟩) nb cb)) ∧ W.cell? ⟨wr.heap.size, 34, none⟩ = some (.slice D1 e.box.length dc1)) W3 := by rw [hW3]; exact ⟨Whole.range (Whole.setRow_far (Whole.below hr0 s2 hr0.lt) (by omega) _), HB34.out _ (Whole.setRow_far (Whole.below hx0 s2 hx0.lt) (by omega) _)⟩
    clear hW3
    refine hKK.out _ _ (hS3) (fun hHeld => ?_)
    clear hKK KK
    (try simp only [List.getElem_toArray, List.getElem_cons_succ, List.getElem_cons_zero, Act.put, List.setIfInBounds_toArray, List.set_cons_zero, List.set_cons_succ])
    apply wpAnyH_take (i := 6) rfl (by kernel_rfl) (by kernel_rfl) (by kernel_rfl)
    case hQ => exact fun _ _ _ h => h
    case hS => exact hHeld
    case hy => (refine Or.inl ⟨by rfl, ?_⟩; intro w hSw; (try go_split_ands); go_simp; (try with_reducible rfl))
    (try simp only [List.getElem_toArray, List.getElem_cons_succ, List.getElem_cons_zero, Act.put, List.setIfInBounds_toArray, List.set_cons_zero, List.set_cons_succ])
    apply wpAnyH_take (i := 7) rfl (by kernel_rfl) (by kernel_rfl) (by kernel_rfl)
    case hQ => exact fun _ _ _ h => h
    case hS => exact hHeld
    case hy => (refine Or.inl ⟨by rfl, ?_⟩; intro w hSw; (try go_split_ands); go_simp; (try with_reducible rfl))
    (try simp only [List.getElem_toArray, List.getElem_cons_succ, List.getElem_cons_zero, Act.put, List.setIfInBounds_toArray, List.set_cons_zero, List.set_cons_succ])
    refine wpAnyH_done (by kernel_rfl) ?_ _
    clear hHeld
    go_wp2_with fail
    refine bodyPost_ret (results_algb Tryd.results34 _ rfl _ rfl _ rfl (alc_size _ _ _ _ _) e1) rfl ?_
    show SeR _ _ _ _ R ∧ _
    rw [HRR.out]
    exact ⟨⟨_, _, rfl, (HX.out.below hbf (Nat.le_refl _)).mono fun _ _ h => .inl h, hV⟩, hbf⟩
end Go.Proofs.YteglmfimgdgchaaDoor
