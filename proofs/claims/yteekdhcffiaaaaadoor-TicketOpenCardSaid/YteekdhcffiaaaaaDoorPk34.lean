/-
  AlgSeal
  Gud
  KLb
  KBk
  BxChk
  BxNew1
  AlgMac
-/
import Derived.Deep.RegionHeld3
import Derived.Deep.CutBlock
import Derived.Deep.DeepCutAuto
import Derived.Test.YteekdhcffiaaaaaDoorKSq
import Derived.Test.YteekdhcffiaaaaaDoorPk23
import Derived.Test.YteekdhcffiaaaaaDoorPk20
import Derived.Test.YteekdhcffiaaaaaDoorPk33
import Derived.Test.YteekdhcffiaaaaaDoorPk27
import Derived.Test.YteekdhcffiaaaaaDoorPk25
import Derived.Test.YteekdhcffiaaaaaDoorPk4
import Derived.Test.YteekdhcffiaaaaaDoorPk8
import Derived.Test.YteekdhcffiaaaaaDoorPk37
import Derived.Test.YteekdhcffiaaaaaDoorPk24
import Derived.Test.YteekdhcffiaaaaaDoorPk15
import Derived.Test.YteekdhcffiaaaaaDoorPk18
import Derived.Test.YteekdhcffiaaaaaDoorPk19
import Derived.Test.YteekdhcffiaaaaaDoorPk3
namespace Go.Proofs.YteekdhcffiaaaaaDoor
open Go Go.RowKit Sh Leaf
theorem sbytes_boxw : sbytes { data := #[98, 111, 120] } = boxw := by with_unfolding_all rfl
theorem own_setRow {w : World} {base G : Nat} {v : Value} {l : List B8} {cs : Array Value} (h : Own w base v l) (hz : Whole w G 28 cs) (cs' : Array Value) : Own (w.setRow G cs') base v l := by
  refine ⟨h.1, ?_⟩
  rcases h.2 with h2 | ⟨g', cap', cur', hv, hg', hh', r⟩
  · exact .inl h2
  · refine .inr ⟨g', cap', cur', hv, hg', ?_, r⟩
    have hne : g' ≠ G := by
      intro e
      subst e
      have hz' := hz.eq
      rw [hz'] at hh'
      injection hh' with hh'
      injection hh' with _ ht
      exact tag_ne_u8 ht
    exact (setRow_other _ _ g' _ hne).trans hh'
set_option linter.unusedSimpArgs false in
set_option linter.unusedVariables false in
set_option maxRecDepth 100000 in
set_option maxHeartbeats 8000000 in
theorem rseal {w : World} {Q Q2 : Nat → Prop} {x : Value} {B : Option Addr} {d : Nat} {a : Alg} {K m : List B8} {z : Int} (hx : AlV w Q x a) (hlen : a.boxes.length < 1000) (hK : K.length = 32) (hz : i64q z) (hm : Bytes w Q2 (.slice B m.length d) m) (hml : m.length ≤ 100000) :
    Calls Tryd.prog 17 #[x, .agg (K.map byt).toArray, .int .i64 z, .slice B m.length d] w fun e w' => SeR w' (fun g => Q g ∨ w.heap.size ≤ g) (fun g => w.heap.size ≤ g) e (aSeal a K z m) ∧ Below w.heap.size w w' := by
  have hx0 := hx
  obtain ⟨Am, cm, Ab, cb, rfl, hM, hBx, hA⟩ := hx
  obtain ⟨nb, hnb⟩ : ∃ n, n = a.boxes.length := ⟨_, rfl⟩
  rw [← hnb] at hlen hx0 ⊢
  obtain ⟨p, hp⟩ : ∃ p, p = ((w.alloc (.cells (alc a.free a.seed a.fresh (.slice Am a.macs.length cm) (.slice Ab nb cb)) 32)).alloc (.cells (K.map byt).toArray 28)).alloc (.cells zar 32) := ⟨_, rfl⟩
  have hr : ALRow p w.heap.size a.free a.seed a.fresh (.slice Am a.macs.length cm) (.slice Ab nb cb) := by rw [hp]; exact ((Whole.here _ _ _).alloc _).alloc _
  have hk : TGRow p (w.heap.size + 1) K := by rw [hp]; exact (Whole.at_ _ _ _ _ (by simp)).alloc _
  have h8 : Whole p (w.heap.size + 1 + 1) 32 zar := by rw [hp]; exact Whole.at_ _ _ _ _ (by simp)
  have hb : Below w.heap.size w p := by rw [hp]; exact (((Below.refl _ _).alloc (Nat.le_refl _) _).alloc (by simp) _).alloc (by simp; omega) _
  have hps : (w.heap.size + 1 + 1) < p.heap.size := h8.lt
  have HX := Lib.hid hx0
  have HMC := Lib.hid hM
  have HBX := Lib.hid hBx
  have HA := Lib.hid hA
  have HM := Lib.hid hm
  have HR := Lib.hid hr
  have HK := Lib.hid hk
  have H8 := Lib.hid h8
  have HB := Lib.hid hb
  have HNB := Lib.hid hnb
  obtain ⟨hz0, hz1⟩ := hz
  clear hx0 hM hBx hA hm hr hk h8 hb hnb
  obtain ⟨R, hR⟩ : ∃ R, R = aSeal a K z m := ⟨_, rfl⟩
  have hRR := hR
  unfold aSeal at hRR
  rw [← hR]
  clear hR
  go_enter Tryd.func17, Tryd.ntmps17
  go_upto_region 1 with fail
  rw [zar_lit, ← hp]
  clear hp
  by_cases hneg : z < 0
  · skip
    rw [if_pos (Or.inl hneg)] at hRR
    have HRR := Lib.hid hRR
    clear hRR
    go_wp2_with (with_reducible refine wpList_store_alg rfl _ _ rfl (g := (w.heap.size + 1 + 1)) rfl rfl H8.out zar_size rfl (by with_unfolding_all rfl) ?_)
    rw [zar_lit]
    have e1 := Whole.setRow H8.out zar
    refine bodyPost_ret (results_algb Tryd.results17 _ rfl _ rfl _ rfl zar_size e1) rfl ?_
    show SeR _ _ _ _ R ∧ _
    rw [HRR.out]
    exact ⟨⟨_, _, rfl, alv_zero _ _, bytes_nil _ _⟩, below_setRow HB.out (by omega) _⟩
  by_cases hbig : 281474976710656 < z
  · skip
    rw [if_pos (Or.inr hbig)] at hRR
    have HRR := Lib.hid hRR
    clear hRR
    go_wp2_with (with_reducible refine wpList_store_alg rfl _ _ rfl (g := (w.heap.size + 1 + 1)) rfl rfl H8.out zar_size rfl (by with_unfolding_all rfl) ?_)
    rw [zar_lit]
    have e1 := Whole.setRow H8.out zar
    refine bodyPost_ret (results_algb Tryd.results17 _ rfl _ rfl _ rfl zar_size e1) rfl ?_
    show SeR _ _ _ _ R ∧ _
    rw [HRR.out]
    exact ⟨⟨_, _, rfl, alv_zero _ _, bytes_nil _ _⟩, below_setRow HB.out (by omega) _⟩
  rw [if_neg (by omega)] at hRR
  by_cases hlong : 256 < m.length
  · skip
    rw [if_pos hlong] at hRR
    have HRR := Lib.hid hRR
    have hl1 : (256 : Int) < (m.length : Int) := by omega
    clear hRR hlong
    go_wp2_with (with_reducible refine wpList_store_alg rfl _ _ rfl (g := (w.heap.size + 1 + 1)) rfl rfl H8.out zar_size rfl (by with_unfolding_all rfl) ?_)
    rw [zar_lit]
    have e1 := Whole.setRow H8.out zar
    refine bodyPost_ret (results_algb Tryd.results17 _ rfl _ rfl _ rfl zar_size e1) rfl ?_
    show SeR _ _ _ _ R ∧ _
    rw [HRR.out]
    exact ⟨⟨_, _, rfl, alv_zero _ _, bytes_nil _ _⟩, below_setRow HB.out (by omega) _⟩
  rw [if_neg hlong] at hRR
  have hl1 : ¬ (256 : Int) < (m.length : Int) := by omega
  obtain ⟨f, hf⟩ : ∃ f, f = fndb a.boxes K z m := ⟨_, rfl⟩
  rw [← hf] at hRR
  have HRR0 := Lib.hid hRR
  have HF0 := Lib.hid hf
  clear hRR hf
  go_wp2_with fail
  go_loopw [11] (fun v wr => ∃ j : Nat, v = .int .i64 j ∧ j ≤ nb ∧ fndb (a.boxes.drop j) K z m = f ∧ Below p.heap.size p wr) (fun v _ => nb - (intOf v).toNat)
  case atStart => exact ⟨0, rfl, by omega, by rw [List.drop_zero]; exact HF0.out.symm, Below.refl _ _⟩
  case round =>
    obtain ⟨j, rfl, hj, hf, hbw⟩ := hrel
    have HF := Lib.hid hf
    have HBW := Lib.hid hbw
    have hpw : p.heap.size ≤ wr.heap.size := hbw.size
    obtain ⟨c0, c33, c34, c35⟩ := ALRow.cells (Whole.below HR.out hbw (by omega))
    clear hf hbw c0 c33 c34
    by_cases hlt : j < nb
    case neg =>
      obtain rfl : j = nb := by omega
      have HXN : Hid (f = none) := Lib.hid (by have := HF.out; rw [HNB.out, fndb_end] at this; exact this.symm)
      obtain ⟨zn, rfl⟩ := Int.eq_ofNat_of_zero_le hneg
      obtain ⟨bx, hbx⟩ : ∃ b, b = boxb a K (zn : Int) m := ⟨_, rfl⟩
      have hbl : bx.length = m.length + 40 := by rw [hbx]; exact boxb_length _ _ _ _
      have hRR : R = ({ a with boxes := a.boxes ++ [⟨K, (zn : Int), m, bx⟩] }, bx, 0) := by
        have := HRR0.out
        rw [HXN.out] at this
        simp only [if_neg (show ¬ 65536 ≤ a.boxes.length by have := HNB.out; omega)] at this
        rw [hbx]; exact this
      have HRR := Lib.hid hRR
      have HBXE := Lib.hid hbx
      have HBL := Lib.hid hbl
      have hzn : zn ≤ 281474976710656 := by omega
      have hmn : m.length ≤ 256 := by omega
      have hc0 := (ALRow.cells (Whole.below HR.out HBW.out (by omega))).1
      have hln2 : ¬ (65536 : Int) ≤ (j : Int) := by omega
      have HRR1 := HRR
      have hst := fun g W => run_sliceAt_whole (P := Tryd.prog) (t := 28) (e := 5) (n := 32) Tryd.underlying28 (by kernel_rfl) g W
      have HZ := Lib.hid (And.intro hzn (And.intro hneg (And.intro hbig (And.intro hz0 hz1))))
      have HMN := Lib.hid hmn
      clear hRR hbx hbl HRR0 HF HF0 HRR1 hzn hneg hbig hz0 hz1 hmn hlong hl1
      clear hst
      obtain ⟨E, hE⟩ : ∃ E, E = a.free := ⟨_, rfl⟩
      rw [← hE] at hc0
      have HE := Lib.hid hE
      clear hE
      go_upto_if 66 with fail
      go_cut [13, 14, 15] (fun v s t wx => ∃ (D : Option Addr) (dc : Nat), v = .slice D bx.length dc ∧ Bytes wx (fun g => p.heap.size ≤ g) (.slice D bx.length dc) bx ∧ Below p.heap.size p wx)
      case first =>
        have hzn := HZ.out.1
        have hmn := HMN.out
        have hst := fun g W => run_sliceAt_whole (P := Tryd.prog) (t := 28) (e := 5) (n := 32) Tryd.underlying28 (by kernel_rfl) g W
        cases E with
        | true =>
          have hsy := rsymbol 98#8 ((j + 1 : Nat) : Int) wr
          rw [bv98, show ((j + 1 : Nat) : Int) = (j : Int) + 1 by omega] at hsy
          obtain ⟨S, hS⟩ : ∃ S, S = sym 98#8 ((j : Int) + 1) := ⟨_, rfl⟩
          have hSl : S.length = 32 := by rw [hS]; exact sym_length _ _
          rw [← hS] at hsy
          have HSS := Lib.hid hS
          clear hS
          go_wp2_with fail
          refine hsy.mono ?_
          rintro e w1 ⟨rfl, hb1⟩
          clear hsy c35 hc0
          have hp1 : p.heap.size ≤ w1.heap.size := Nat.le_trans hpw hb1.size
          go_upto_region 16 with (with_reducible refine wpList_store_tag rfl _ _ rfl (g := w1.heap.size) rfl rfl (Whole.here w1 _ _) rfl (tag_size hSl) (tag_one _) ?_)
          rw [ztr_lit]
          obtain ⟨u, hu⟩ : ∃ x, x = (w1.alloc (.cells ztr 28)).setRow w1.heap.size (S.map byt).toArray := ⟨_, rfl⟩
          have ht : TGRow u w1.heap.size S := by rw [hu]; exact Whole.setRow (Whole.here _ _ _) _
          have hbu : Below w1.heap.size w1 u := by rw [hu]; exact below_setRow ((Below.refl _ _).alloc (Nat.le_refl _) _) (Nat.le_refl _) _
          rw [← hu]
          clear hu
          have HBU : Hid (Below p.heap.size p u) := Lib.hid (HBW.out.trans ((hb1.mono hpw).trans (hbu.mono hp1)))
          clear hb1 hbu
          go_wp2_with (at_builtin; refine wpList_append_tag_zeros rfl _ _ rfl w1.heap.size S rfl ht hSl (m.length + 8) (by with_unfolding_all rfl) (by omega) (by omega) ?_; intro v2 w2 ho2 hb2)
          have hbxe : S ++ List.replicate (m.length + 8) 0 = bx := by
            rw [HBXE.out, HSS.out]
            unfold boxb
            rw [if_pos HE.out.symm, ← HNB.out]
            rfl
          rw [hbxe] at ho2
          obtain ⟨D, dc, rfl, -⟩ := id (Bytes.of_own ho2)
          go_meet
          exact ⟨D, dc, rfl, (Bytes.of_own ho2).mono (fun g _ h => by have h : u.heap.size ≤ g := h; have := HBU.out.size; omega), HBU.out.trans (hb2.mono HBU.out.size)⟩
        | false =>
          have hwz : IntKind.u64.wrap (zn : Int) = (zn : Int) := by rw [IntKind.wrap_u64]; omega
          have hlen8 : (be8 zn).length = 8 := be8_length zn
          have hKl : (K.map byt).length = 32 := by rw [List.length_map, hK]
          have hstl : (strm K zn m).length = m.length := strm_length K zn m
          clear hc0 c35
          go_upto_region 17 with fail
          have hk0 : TGRow wr.drew (w.heap.size + 1) K := Whole.drew (Whole.below HK.out HBW.out (by omega))
          have b0 : Below p.heap.size p wr.drew := HBW.out.drew
          have hm0 := Lib.hid ((HM.out.below HB.out (Nat.le_refl _)).below b0 (Nat.le_refl _))
          have hpw0 : p.heap.size ≤ wr.drew.heap.size := hpw
          refine wp_region_held_drew (S := fun W : World => W.rangeAt (w.heap.size + 1) 0 (K.map byt)) (by kernel_rfl) (TGRow.range hk0) (fun hHeld => ?_)
          generalize wr.drew = W0 at hk0 b0 hm0 hpw0 hHeld ⊢
          have HCC : Hid (∀ W, Below W0.heap.size W0 W → (fun W : World => W.rangeAt (w.heap.size + 1) 0 (K.map byt)) W) := Lib.hid fun W hb => TGRow.range (Whole.below hk0 hb hk0.lt)
          apply wpT (i := 0) rfl (by kernel_rfl)
          case hQ => exact fun _ _ _ h => h
          case hS => exact hHeld
          case hy => (refine Or.inl ⟨by rfl, ?_⟩; intro w hSw; (try go_split_ands); go_simp; (try with_reducible rfl))
          (try simp only [sq])
          apply wpT (i := 1) rfl (by kernel_rfl)
          case hQ => exact fun _ _ _ h => h
          case hS => exact hHeld
          case hy => (refine Or.inl ⟨by rfl, ?_⟩; intro w hSw; (try go_split_ands); go_simp; (try with_reducible rfl))
          (try simp only [sq])
          apply wpT (i := 3) rfl (by kernel_rfl)
          case hQ => exact fun _ _ _ h => h
          case hS => exact hHeld
          case hy => exact yieldsIf_load_mid (by rfl) 28 _ rfl (w.heap.size + 1) (0) rfl (K.map byt) _ (fun w hS => hS) Tryd.underlying28 rfl (by rw [tagSize, hKl])
          (try simp only [sq])
          apply wpT (i := 4) rfl (by kernel_rfl)
          case hQ => exact fun _ _ _ h => h
          case hS => exact hHeld
          case hy => (refine Or.inl ⟨by rfl, ?_⟩; intro w hSw; (try go_split_ands); go_simp; (try with_reducible rfl))
          (try simp only [sq])
          apply wpT (i := 5) rfl (by kernel_rfl)
          case hQ => exact fun _ _ _ h => h
          case hS => exact hHeld
          case hy => (refine Or.inl ⟨by rfl, ?_⟩; intro w hSw; (try go_split_ands); go_simp; (try with_reducible rfl))
          (try simp only [sq])
          apply wpT (i := 6) rfl (by kernel_rfl)
          case hQ => exact fun _ _ _ h => h
          case hS => exact hHeld
          case hy => (refine Or.inl ⟨by rfl, ?_⟩; intro w hSw; (try go_split_ands); go_simp; (try with_reducible rfl))
          (try simp only [sq])
          refine wpAnyH_ready (rs := [2]) (by kernel_rfl) (by simp) ?_
          refine AllReadyH.cons rfl (fun KK hKK => ?_) AllReadyH.nil
          (try simp only [sq])
          go_simp
          go_at_call 33
          refine (eight zn W0).mono ?_
          rintro e W1 ⟨v1, rfl, o1, s1⟩
          refine hKK.out _ _ (HCC.out _ s1) (fun hHeld => ?_)
          clear hKK KK
          (try simp only [sq])
          refine wpAnyH_ready (rs := [7]) (by kernel_rfl) (by simp) ?_
          refine AllReadyH.cons rfl (fun KK hKK => ?_) AllReadyH.nil
          (try simp only [sq])
          go_simp
          go_at_call 34
          refine (rstream (w := W1) (K := K) (b := m) zn (by omega) hK (hm0.out.below s1 (Nat.le_refl _)) (by omega)).mono ?_
          rintro e W2 ⟨v2, rfl, o2, s2⟩
          have o1b := own_below o1 s2 (Nat.le_refl _)
          have s12 : Below W0.heap.size W0 W2 := s1.trans (s2.mono s1.size)
          refine hKK.out _ _ (HCC.out _ s12) (fun hHeld => ?_)
          clear hKK KK
          (try simp only [sq])
          refine wpAnyH_ready (rs := [8]) (by kernel_rfl) (by simp) ?_
          refine AllReadyH.cons rfl (fun KK hKK => ?_) AllReadyH.nil
          refine step_append_bytes (by rfl) _ _ (by rfl) W0.heap.size _ (be8 zn) (by rfl) o1b _ _ (strm K zn m) (by rfl) (Bytes.of_own o2) (by omega) s12.size ?_
          intro v3 W3 o3 hs3
          have s3 : Below W0.heap.size W0 W3 := s12.trans hs3
          refine hKK.out _ _ (HCC.out _ s3) (fun hHeld => ?_)
          clear hKK KK
          (try simp only [sq])
          apply wpT (i := 9) rfl (by kernel_rfl)
          case hQ => exact fun _ _ _ h => h
          case hS => exact hHeld
          case hy => (refine Or.inl ⟨by rfl, ?_⟩; intro w hSw; (try go_split_ands); go_simp; (try with_reducible rfl))
          (try simp only [sq])
          refine wpAnyH_done (by kernel_rfl) ?_ _
          clear hHeld
          have b3 : Below p.heap.size p W3 := b0.trans (s3.mono hpw0)
          have hw3 : W0.heap.size ≤ W3.heap.size := s3.size
          obtain ⟨Hh, hHh⟩ : ∃ H, H = be8 zn ++ strm K zn m := ⟨_, rfl⟩
          rw [← hHh] at o3
          have hHl : Hh.length = 8 + m.length := by rw [hHh, List.length_append, hlen8, hstl]
          obtain ⟨T, hT⟩ : ∃ T, T = hmac K (boxw ++ Hh) := ⟨_, rfl⟩
          have hTl : T.length = 32 := by rw [hT]; exact hmac_length _ _
          have hbxe : Hh ++ T = bx := by
            rw [HBXE.out, hT]
            unfold boxb
            rw [if_neg (by rw [← HE.out]; exact Bool.false_ne_true)]
            unfold boxh
            rw [Int.toNat_natCast, hHh]
          have HT := Lib.hid hT
          clear hHh hT s3 hs3 o1 o1b o2 s1 s2 s12 HCC
          go_upto_region 18 with fail
          have oH0 : Own W3.drew W0.heap.size v3 Hh := own_below o3 (Below.refl _ _).drew (Nat.le_refl _)
          have c0 : Below p.heap.size p W3.drew := b3.drew
          refine wp_region_held_drew (S := fun _ : World => True) (by kernel_rfl) (trivial) (fun hHeld => ?_)
          have hw4 : W0.heap.size ≤ W3.drew.heap.size := hw3
          generalize W3.drew = X0 at oH0 c0 hw4 ⊢
          apply wpT (i := 0) rfl (by kernel_rfl)
          case hQ => exact fun _ _ _ h => h
          case hS => exact hHeld
          case hy => (refine Or.inl ⟨by rfl, ?_⟩; intro w hSw; (try go_split_ands); go_simp; (try with_reducible rfl))
          (try simp only [sq])
          apply wpT (i := 1) rfl (by kernel_rfl)
          case hQ => exact fun _ _ _ h => h
          case hS => exact hHeld
          case hy => (refine Or.inl ⟨by rfl, ?_⟩; intro w hSw; (try go_split_ands); go_simp; (try with_reducible rfl))
          (try simp only [sq])
          refine wpAnyH_ready (rs := [2, 4]) (by kernel_rfl) (by simp) ?_
          refine AllReadyH.cons rfl (fun KK hKK => ?_) (AllReadyH.cons rfl (fun KK hKK => ?_) AllReadyH.nil)
          · (try simp only [sq])
            go_simp
            go_at_call 36
            refine (rword { data := #[98, 111, 120] } (by decide) v3 Hh _ X0 (Bytes.of_own oH0) (by omega) (by omega)).mono ?_
            rintro e X1 ⟨vM, rfl, oM0, hs1⟩
            have b1 : Below p.heap.size p X1 := c0.trans (hs1.mono c0.size)
            have oH1 := own_below oH0 hs1 (Nat.le_refl _)
            have hsx1 : X0.heap.size ≤ X1.heap.size := hs1.size
            rw [sbytes_boxw] at oM0
            have oM1 := oM0
            refine hKK.out _ _ (trivial) (fun hHeld => ?_)
            clear hKK KK
            (try simp only [sq])
            refine wpAnyH_ready (rs := [3, 4]) (by kernel_rfl) (by simp) ?_
            refine AllReadyH.cons rfl (fun KK hKK => ?_) (AllReadyH.cons rfl (fun KK hKK => ?_) AllReadyH.nil)
            · (try simp only [sq])
              have hby := Whole.bytes (Whole.below HK.out b1 (by omega)) (by omega)
              rw [hK] at hby
              go_simp
              go_at_call 35
              refine (ref_hmac _ _ K (boxw ++ Hh) _ _ X1 hby oM1.bytes (by omega) (by rw [List.length_append]; have : boxw.length = 3 := rfl; omega)).mono ?_
              rintro e X2 ⟨rfl, hs2⟩
              rw [← HT.out]
              have b2 : Below p.heap.size p X2 := b1.trans (hs2.mono b1.size)
              have oH2 := own_below oH1 hs2 (Nat.le_refl _)
              have hsx2 : X0.heap.size ≤ X2.heap.size := Nat.le_trans hsx1 hs2.size
              refine hKK.out _ _ (trivial) (fun hHeld => ?_)
              clear hKK KK
              (try simp only [sq])
              refine wpAnyH_ready (rs := [4]) (by kernel_rfl) (by simp) ?_
              refine AllReadyH.cons rfl (fun KK hKK => ?_) AllReadyH.nil
              (try simp only [sq])
              obtain ⟨G, hG⟩ : ∃ g, g = X2.heap.size := ⟨_, rfl⟩
              obtain ⟨X3, hX3⟩ : ∃ x, x = X2.alloc (.cells ztr 28) := ⟨_, rfl⟩
              have hs3 : Below X2.heap.size X2 X3 := by rw [hX3]; exact (Below.refl _ _).alloc (Nat.le_refl _) _
              have zz3 : Whole X3 G 28 ztr := by rw [hX3, hG]; exact Whole.here _ _ _
              have b3 : Below p.heap.size p X3 := b2.trans (hs3.mono b2.size)
              have hgl : p.heap.size ≤ G := by rw [hG]; exact b2.size
              have oH3 := own_below oH2 hs3 (Nat.le_refl _)
              have hsx3 : X0.heap.size ≤ X3.heap.size := Nat.le_trans hsx2 hs3.size
              have z3 := zz3
              go_simp
              rw [ztr_lit, ← hG, ← hX3]
              clear hX3 hG
              refine hKK.out _ _ (trivial) (fun hHeld => ?_)
              clear hKK KK
              (try simp only [sq])
              refine wpAnyH_ready (rs := [5]) (by kernel_rfl) (by simp) ?_
              refine AllReadyH.cons rfl (fun KK hKK => ?_) AllReadyH.nil
              (try simp only [sq])
              obtain ⟨X4, hX4⟩ : ∃ x, x = X3.setRow G (T.map byt).toArray := ⟨_, rfl⟩
              have t4 : TGRow X4 G T := by rw [hX4]; exact Whole.setRow z3 _
              have b4 : Below p.heap.size p X4 := by rw [hX4]; exact below_setRow b3 hgl _
              have hsx4 : X0.heap.size ≤ X4.heap.size := by rw [hX4]; exact Nat.le_trans hsx3 (below_setRow (B := 0) (Below.refl 0 _) (Nat.zero_le _) _).size
              have oH4 : Own X4 W0.heap.size v3 Hh := by rw [hX4]; exact own_setRow oH3 z3 _
              rw [if_pos (by kernel_rfl)]
              refine wp_store_row 28 _ _ rfl G _ rfl rfl 28 _ z3 (by rw [tagSize, tag_size hTl]) (by rw [ztr_size, tag_size hTl]) (tag_one _) ?_
              rw [← hX4]
              clear hX4
              refine hKK.out _ _ (trivial) (fun hHeld => ?_)
              clear hKK KK
              (try simp only [sq])
              refine wpAnyH_done (by kernel_rfl) ?_ _
              have hbyT := Whole.bytes t4 (by omega)
              rw [hTl] at hbyT
              have hwx : W0.heap.size ≤ X4.heap.size := Nat.le_trans hw4 hsx4
              have hTl2 : Hh.length + T.length ≤ 100000 := by omega
              clear hHeld
              go_wp2_with (at_builtin; refine wpList_append_bytes rfl _ _ rfl W0.heap.size v3 Hh rfl oH4 _ _ T rfl hbyT (by omega) hwx ?_; intro v9 X9 o9 hb9)
              rw [hbxe] at o9
              obtain ⟨D, dc, rfl, -⟩ := id (Bytes.of_own o9)
              go_meet
              exact ⟨D, dc, rfl, (Bytes.of_own o9).mono (fun g _ h => by have h : W0.heap.size ≤ g := h; omega), b4.trans (hb9.mono hpw0)⟩
            · (try simp only [sq])
              obtain ⟨G, hG⟩ : ∃ g, g = X1.heap.size := ⟨_, rfl⟩
              obtain ⟨X2, hX2⟩ : ∃ x, x = X1.alloc (.cells ztr 28) := ⟨_, rfl⟩
              have hs2 : Below X1.heap.size X1 X2 := by rw [hX2]; exact (Below.refl _ _).alloc (Nat.le_refl _) _
              have zz2 : Whole X2 G 28 ztr := by rw [hX2, hG]; exact Whole.here _ _ _
              have b2 : Below p.heap.size p X2 := b1.trans (hs2.mono b1.size)
              have hgl : p.heap.size ≤ G := by rw [hG]; exact b1.size
              have oH2 := own_below oH1 hs2 (Nat.le_refl _)
              have oM2 := OwnM.below oM1 hs2 (Nat.le_refl _)
              have hsx2 : X0.heap.size ≤ X2.heap.size := Nat.le_trans hsx1 hs2.size
              have z2 := zz2
              go_simp
              rw [ztr_lit, ← hG, ← hX2]
              clear hX2 hG
              refine hKK.out _ _ (trivial) (fun hHeld => ?_)
              clear hKK KK
              (try simp only [sq])
              refine wpAnyH_ready (rs := [3]) (by kernel_rfl) (by simp) ?_
              refine AllReadyH.cons rfl (fun KK hKK => ?_) AllReadyH.nil
              (try simp only [sq])
              have hby := Whole.bytes (Whole.below HK.out b2 (by omega)) (by omega)
              rw [hK] at hby
              go_simp
              go_at_call 35
              refine (ref_hmac _ _ K (boxw ++ Hh) _ _ X2 hby oM2.bytes (by omega) (by rw [List.length_append]; have : boxw.length = 3 := rfl; omega)).mono ?_
              rintro e X3 ⟨rfl, hs3⟩
              rw [← HT.out]
              have b3 : Below p.heap.size p X3 := b2.trans (hs3.mono b2.size)
              have z3 : Whole X3 G 28 ztr := Whole.below z2 hs3 z2.lt
              have oH3 := own_below oH2 hs3 (Nat.le_refl _)
              have hsx3 : X0.heap.size ≤ X3.heap.size := Nat.le_trans hsx2 hs3.size
              refine hKK.out _ _ (trivial) (fun hHeld => ?_)
              clear hKK KK
              (try simp only [sq])
              refine wpAnyH_ready (rs := [5]) (by kernel_rfl) (by simp) ?_
              refine AllReadyH.cons rfl (fun KK hKK => ?_) AllReadyH.nil
              (try simp only [sq])
              obtain ⟨X4, hX4⟩ : ∃ x, x = X3.setRow G (T.map byt).toArray := ⟨_, rfl⟩
              have t4 : TGRow X4 G T := by rw [hX4]; exact Whole.setRow z3 _
              have b4 : Below p.heap.size p X4 := by rw [hX4]; exact below_setRow b3 hgl _
              have hsx4 : X0.heap.size ≤ X4.heap.size := by rw [hX4]; exact Nat.le_trans hsx3 (below_setRow (B := 0) (Below.refl 0 _) (Nat.zero_le _) _).size
              have oH4 : Own X4 W0.heap.size v3 Hh := by rw [hX4]; exact own_setRow oH3 z3 _
              rw [if_pos (by kernel_rfl)]
              refine wp_store_row 28 _ _ rfl G _ rfl rfl 28 _ z3 (by rw [tagSize, tag_size hTl]) (by rw [ztr_size, tag_size hTl]) (tag_one _) ?_
              rw [← hX4]
              clear hX4
              refine hKK.out _ _ (trivial) (fun hHeld => ?_)
              clear hKK KK
              (try simp only [sq])
              refine wpAnyH_done (by kernel_rfl) ?_ _
              have hbyT := Whole.bytes t4 (by omega)
              rw [hTl] at hbyT
              have hwx : W0.heap.size ≤ X4.heap.size := Nat.le_trans hw4 hsx4
              have hTl2 : Hh.length + T.length ≤ 100000 := by omega
              clear hHeld
              go_wp2_with (at_builtin; refine wpList_append_bytes rfl _ _ rfl W0.heap.size v3 Hh rfl oH4 _ _ T rfl hbyT (by omega) hwx ?_; intro v9 X9 o9 hb9)
              rw [hbxe] at o9
              obtain ⟨D, dc, rfl, -⟩ := id (Bytes.of_own o9)
              go_meet
              exact ⟨D, dc, rfl, (Bytes.of_own o9).mono (fun g _ h => by have h : W0.heap.size ≤ g := h; omega), b4.trans (hb9.mono hpw0)⟩
          · (try simp only [sq])
            obtain ⟨G, hG⟩ : ∃ g, g = X0.heap.size := ⟨_, rfl⟩
            obtain ⟨X1, hX1⟩ : ∃ x, x = X0.alloc (.cells ztr 28) := ⟨_, rfl⟩
            have hs1 : Below X0.heap.size X0 X1 := by rw [hX1]; exact (Below.refl _ _).alloc (Nat.le_refl _) _
            have zz1 : Whole X1 G 28 ztr := by rw [hX1, hG]; exact Whole.here _ _ _
            have b1 : Below p.heap.size p X1 := c0.trans (hs1.mono c0.size)
            have hgl : p.heap.size ≤ G := by rw [hG]; exact c0.size
            have oH1 := own_below oH0 hs1 (Nat.le_refl _)
            have hsx1 : X0.heap.size ≤ X1.heap.size := hs1.size
            have z1 := zz1
            go_simp
            rw [ztr_lit, ← hG, ← hX1]
            clear hX1 hG
            refine hKK.out _ _ (trivial) (fun hHeld => ?_)
            clear hKK KK
            (try simp only [sq])
            refine wpAnyH_ready (rs := [2]) (by kernel_rfl) (by simp) ?_
            refine AllReadyH.cons rfl (fun KK hKK => ?_) AllReadyH.nil
            (try simp only [sq])
            go_simp
            go_at_call 36
            refine (rword { data := #[98, 111, 120] } (by decide) v3 Hh _ X1 (Bytes.of_own oH1) (by omega) (by omega)).mono ?_
            rintro e X2 ⟨vM, rfl, oM0, hs2⟩
            have b2 : Below p.heap.size p X2 := b1.trans (hs2.mono b1.size)
            have z2 : Whole X2 G 28 ztr := Whole.below z1 hs2 z1.lt
            have oH2 := own_below oH1 hs2 (Nat.le_refl _)
            have hsx2 : X0.heap.size ≤ X2.heap.size := Nat.le_trans hsx1 hs2.size
            rw [sbytes_boxw] at oM0
            have oM2 := oM0
            refine hKK.out _ _ (trivial) (fun hHeld => ?_)
            clear hKK KK
            (try simp only [sq])
            refine wpAnyH_ready (rs := [3]) (by kernel_rfl) (by simp) ?_
            refine AllReadyH.cons rfl (fun KK hKK => ?_) AllReadyH.nil
            (try simp only [sq])
            have hby := Whole.bytes (Whole.below HK.out b2 (by omega)) (by omega)
            rw [hK] at hby
            go_simp
            go_at_call 35
            refine (ref_hmac _ _ K (boxw ++ Hh) _ _ X2 hby oM2.bytes (by omega) (by rw [List.length_append]; have : boxw.length = 3 := rfl; omega)).mono ?_
            rintro e X3 ⟨rfl, hs3⟩
            rw [← HT.out]
            have b3 : Below p.heap.size p X3 := b2.trans (hs3.mono b2.size)
            have z3 : Whole X3 G 28 ztr := Whole.below z2 hs3 z2.lt
            have oH3 := own_below oH2 hs3 (Nat.le_refl _)
            have hsx3 : X0.heap.size ≤ X3.heap.size := Nat.le_trans hsx2 hs3.size
            refine hKK.out _ _ (trivial) (fun hHeld => ?_)
            clear hKK KK
            (try simp only [sq])
            refine wpAnyH_ready (rs := [5]) (by kernel_rfl) (by simp) ?_
            refine AllReadyH.cons rfl (fun KK hKK => ?_) AllReadyH.nil
            (try simp only [sq])
            obtain ⟨X4, hX4⟩ : ∃ x, x = X3.setRow G (T.map byt).toArray := ⟨_, rfl⟩
            have t4 : TGRow X4 G T := by rw [hX4]; exact Whole.setRow z3 _
            have b4 : Below p.heap.size p X4 := by rw [hX4]; exact below_setRow b3 hgl _
            have hsx4 : X0.heap.size ≤ X4.heap.size := by rw [hX4]; exact Nat.le_trans hsx3 (below_setRow (B := 0) (Below.refl 0 _) (Nat.zero_le _) _).size
            have oH4 : Own X4 W0.heap.size v3 Hh := by rw [hX4]; exact own_setRow oH3 z3 _
            rw [if_pos (by kernel_rfl)]
            refine wp_store_row 28 _ _ rfl G _ rfl rfl 28 _ z3 (by rw [tagSize, tag_size hTl]) (by rw [ztr_size, tag_size hTl]) (tag_one _) ?_
            rw [← hX4]
            clear hX4
            refine hKK.out _ _ (trivial) (fun hHeld => ?_)
            clear hKK KK
            (try simp only [sq])
            refine wpAnyH_done (by kernel_rfl) ?_ _
            have hbyT := Whole.bytes t4 (by omega)
            rw [hTl] at hbyT
            have hwx : W0.heap.size ≤ X4.heap.size := Nat.le_trans hw4 hsx4
            have hTl2 : Hh.length + T.length ≤ 100000 := by omega
            clear hHeld
            go_wp2_with (at_builtin; refine wpList_append_bytes rfl _ _ rfl W0.heap.size v3 Hh rfl oH4 _ _ T rfl hbyT (by omega) hwx ?_; intro v9 X9 o9 hb9)
            rw [hbxe] at o9
            obtain ⟨D, dc, rfl, -⟩ := id (Bytes.of_own o9)
            go_meet
            exact ⟨D, dc, rfl, (Bytes.of_own o9).mono (fun g _ h => by have h : W0.heap.size ≤ g := h; omega), b4.trans (hb9.mono hpw0)⟩
      case rest =>
        obtain ⟨D, dc, rfl, hbx, hbc⟩ := hcut
        have hp3 : p.heap.size ≤ wc.heap.size := hbc.size
        have hbl : bx.length ≤ 5000 := by have := HBL.out; have := HMN.out; omega
        have hmn := HMN.out
        have HB3 := Lib.hid hbc
        have HU3 : Hid (Below w.heap.size w wc) := Lib.hid (HB.out.trans (hbc.mono (by omega)))
        have HRU := Lib.hid (Whole.below HR.out hbc (by omega))
        have HBXB := Lib.hid hbx
        obtain ⟨L1, hL1, hS1, hB1⟩ := HBX.out
        have hL1l : L1.length = j := by rw [HNB.out, ← hL1, List.length_map]
        have HL1 := Lib.hid hL1
        have HS1 := Lib.hid hS1
        have HB1 := Lib.hid hB1
        have HL1L := Lib.hid hL1l
        have HLN : Hid (a.boxes.length < 1000) := Lib.hid (by have := HNB.out; omega)
        have hKl : (K.map byt).length = 32 := by rw [List.length_map, hK]
        have hzq : i64q (zn : Int) := by have := HZ.out.1; exact ⟨by omega, by omega⟩
        have HZQ := Lib.hid hzq
        clear hL1 hS1 hB1 hL1l hbx hbc hzq
        have HCC : Hid (∀ W, Below wc.heap.size wc W → W.cell? ⟨w.heap.size, 35, none⟩ = some (.slice Ab j cb) ∧ W.rangeAt (w.heap.size + 1) 0 (K.map byt)) := Lib.hid fun W hb => ⟨(ALRow.cells (Whole.below HRU.out hb (by omega))).2.2.2, TGRow.range (Whole.below (Whole.below HK.out HB3.out (by omega)) hb (by omega))⟩
        clear c35 hc0
        go_upto_region 20 with fail
        go_cut [] (fun wx => ∃ (A5 : Option Addr) (c5 : Nat) (DM : Option Addr) (dcm : Nat), ALRow wx w.heap.size a.free a.seed a.fresh (.slice Am a.macs.length cm) (.slice A5 (L1.length + 1) c5) ∧ Seq bcl bok wx (fun g => p.heap.size ≤ g) A5 c5 (L1 ++ [⟨⟨K, (zn : Int), m, bx⟩, DM, dcm, D, dc⟩]) ∧ Bytes wx (fun b => p.heap.size ≤ b) (.slice DM m.length dcm) m ∧ Bytes wx (fun b => p.heap.size ≤ b) (.slice D bx.length dc) bx ∧ Whole wx (w.heap.size + 1 + 1) 32 zar ∧ p.heap.size ≤ wx.heap.size ∧ Below w.heap.size w wx)
        case first =>
          have b0 : Below wc.heap.size wc wc.drew := (Below.refl _ _).drew
          refine wp_region_G (fun W : World => W.cell? ⟨w.heap.size, 35, none⟩ = some (.slice Ab j cb) ∧ W.rangeAt (w.heap.size + 1) 0 (K.map byt)) (fun _ => True) [14] (by kernel_rfl) ?_
          generalize wc.drew = W0 at b0 ⊢
          have hHeld : (fun W : World => W.cell? ⟨w.heap.size, 35, none⟩ = some (.slice Ab j cb) ∧ W.rangeAt (w.heap.size + 1) 0 (K.map byt)) W0 := HCC.out _ b0
          apply AnyG_pure (i := 1) rfl (by kernel_rfl) (by kernel_rfl) (by kernel_rfl) (by kernel_rfl)
          case hQ => exact fun _ _ _ h => h
          case hB => exact trivial
          case hC => exact .inr hHeld
          case hy => (refine Or.inl ⟨by rfl, ?_⟩; intro w hSw; (try go_split_ands); go_simp; (try with_reducible rfl))
          (try simp only [sq])
          apply AnyG_take (i := 2) rfl (by kernel_rfl) (by kernel_rfl) (by kernel_rfl) (by kernel_rfl)
          case hQ => exact fun _ _ _ h => h
          case hB => exact trivial
          case hC => exact hHeld
          case hy => (refine Or.inl ⟨by rfl, ?_⟩; intro w hSw; (try go_split_ands); go_simp; (try with_reducible rfl))
          (try simp only [sq])
          apply AnyG_take (i := 4) rfl (by kernel_rfl) (by kernel_rfl) (by kernel_rfl) (by kernel_rfl)
          case hQ => exact fun _ _ _ h => h
          case hB => exact trivial
          case hC => exact hHeld
          case hy => exact yieldsIf_load_mid (by rfl) 28 _ rfl (w.heap.size + 1) (0) rfl (K.map byt) _ (fun w hS => hS.2) Tryd.underlying28 rfl (by rw [tagSize, hKl])
          (try simp only [sq])
          apply AnyG_pure (i := 5) rfl (by kernel_rfl) (by kernel_rfl) (by kernel_rfl) (by kernel_rfl)
          case hQ => exact fun _ _ _ h => h
          case hB => exact trivial
          case hC => exact .inr hHeld
          case hy => (refine Or.inl ⟨by rfl, ?_⟩; intro w hSw; (try go_split_ands); go_simp; (try with_reducible rfl))
          (try simp only [sq])
          apply AnyG_pure (i := 7) rfl (by kernel_rfl) (by kernel_rfl) (by kernel_rfl) (by kernel_rfl)
          case hQ => exact fun _ _ _ h => h
          case hB => exact trivial
          case hC => exact .inr hHeld
          case hy => (refine Or.inl ⟨by rfl, ?_⟩; intro w hSw; (try go_split_ands); go_simp; (try with_reducible rfl))
          (try simp only [sq])
          apply AnyG_pure (i := 9) rfl (by kernel_rfl) (by kernel_rfl) (by kernel_rfl) (by kernel_rfl)
          case hQ => exact fun _ _ _ h => h
          case hB => exact trivial
          case hC => exact .inr hHeld
          case hy => (refine Or.inl ⟨by rfl, ?_⟩; intro w hSw; (try go_split_ands); go_simp; (try with_reducible rfl))
          (try simp only [sq])
          refine AnyG_two (i := 0) (j := 6) (by kernel_rfl) rfl rfl (fun KK hKK => ?_) (fun KK hKK => ?_)
          · skip
            (try simp only [sq])
            obtain ⟨g0, hg⟩ : ∃ g, g = W0.heap.size := ⟨_, rfl⟩
            obtain ⟨W1, hW⟩ : ∃ x, x = W0.alloc (.cells #[] 72) := ⟨_, rfl⟩
            have b1 : Below wc.heap.size wc W1 := by rw [hW]; exact b0.alloc b0.size _
            have oM1 : OwnBc W1 wc.heap.size (.slice (some ⟨g0, 0, none⟩) 0 0) [] := owns_empty (by rw [hW, hg]; exact heap_alloc_new _ _) (by rw [hg]; exact b0.size)
            go_simp
            rw [← hg, ← hW]
            clear hg hW
            clear hHeld
            have hHeld : (fun W : World => W.cell? ⟨w.heap.size, 35, none⟩ = some (.slice Ab j cb) ∧ W.rangeAt (w.heap.size + 1) 0 (K.map byt)) W1 := HCC.out _ b1
            refine hKK.out _ _ (.inr hHeld) trivial ?_
            clear hKK KK
            (try simp only [sq])
            refine AnyG_two (i := 3) (j := 6) (by kernel_rfl) rfl rfl (fun KK hKK => ?_) (fun KK hKK => ?_)
            · skip
              refine step_append_seq (by rfl) _ _ 30 72 zbox 88 (by rfl) Tryd.underlying30 boxInfo zbox_size (by omega) (by omega) bcl_len bcl_one wc.heap.size _ [] (by rfl) oM1 Q Ab j cb L1 HL1L.out (by rfl) (HS1.out.below (HU3.out.trans (b1.mono HU3.out.size)) (Nat.le_refl _)) (by have := HL1L.out; simp only [List.length_nil]; omega) b1.size ?_
              intro vM W2 oM0 hbn hgn
              have oM2 : OwnBc W2 wc.heap.size vM L1 := by rw [List.nil_append] at oM0; exact oM0
              have b2 := b1.trans hbn
              clear hbn hgn
              clear hHeld
              have hHeld : (fun W : World => W.cell? ⟨w.heap.size, 35, none⟩ = some (.slice Ab j cb) ∧ W.rangeAt (w.heap.size + 1) 0 (K.map byt)) W2 := HCC.out _ b2
              refine hKK.out _ _ (.inr hHeld) trivial ?_
              clear hKK KK
              (try simp only [sq])
              refine AnyG_one (i := 6) (by kernel_rfl) rfl (fun KK hKK => ?_)
              (try simp only [sq])
              obtain ⟨g6, hg⟩ : ∃ g, g = W2.heap.size := ⟨_, rfl⟩
              obtain ⟨W3, hW⟩ : ∃ x, x = W2.alloc (.cells #[] 5) := ⟨_, rfl⟩
              have b3 : Below wc.heap.size wc W3 := by rw [hW]; exact b2.alloc b2.size _
              have oB3 : OwnBf W3 wc.heap.size (.slice (some ⟨g6, 0, none⟩) 0 0) [] := owns_empty (by rw [hW, hg]; exact heap_alloc_new _ _) (by rw [hg]; exact b2.size)
              have oM3 := oM2.alloc (.cells #[] 5)
              rw [← hW] at oM3
              go_simp
              rw [← hg, ← hW]
              clear hg hW
              clear hHeld
              have hHeld : (fun W : World => W.cell? ⟨w.heap.size, 35, none⟩ = some (.slice Ab j cb) ∧ W.rangeAt (w.heap.size + 1) 0 (K.map byt)) W3 := HCC.out _ b3
              refine hKK.out _ _ (.inr hHeld) trivial ?_
              clear hKK KK
              (try simp only [sq])
              refine AnyG_one (i := 8) (by kernel_rfl) rfl (fun KK hKK => ?_)
              refine step_append_seq (by rfl) _ _ 39 5 (.int .u8 0) 1 (by rfl) Tryd.underlying39 byteInfo byte_size (by omega) (by omega) bf_len bf_one wc.heap.size _ [] (by rfl) oB3 Q2 B m.length d m rfl (by rfl) (seq_bytes (HM.out.below (HU3.out.trans (b3.mono HU3.out.size)) (Nat.le_refl _))) (by simp only [List.length_nil]; omega) b3.size ?_
              intro vB W4 oB0 hbn hgn
              have oB4 : OwnBf W4 wc.heap.size vB m := by rw [List.nil_append] at oB0; exact oB0
              have oM4 := oM3.kept hgn (own_ne oM3 oB3 box_ne_u8)
              obtain ⟨DM, dcm, rfl, hsB⟩ := OwnS.seq (ok := fun _ => True) oB4 (fun _ _ => trivial)
              have b4 := b3.trans hbn
              clear hbn hgn hsB
              clear hHeld
              have hHeld : (fun W : World => W.cell? ⟨w.heap.size, 35, none⟩ = some (.slice Ab j cb) ∧ W.rangeAt (w.heap.size + 1) 0 (K.map byt)) W4 := HCC.out _ b4
              refine hKK.out _ _ (.inr hHeld) trivial ?_
              clear hKK KK
              (try simp only [sq])
              apply AnyG_pure (i := 10) rfl (by kernel_rfl) (by kernel_rfl) (by kernel_rfl) (by kernel_rfl)
              case hQ => exact fun _ _ _ h => h
              case hB => exact trivial
              case hC => exact .inr hHeld
              case hy => exact yieldsIf_build_box (by rfl) _ _ _ _ rfl (e := ⟨K, (zn : Int), m, bx⟩) hK rfl rfl rfl rfl
              (try simp only [sq])
              refine AnyG_one (i := 11) (by kernel_rfl) rfl (fun KK hKK => ?_)
              have hXok : bok (⟨⟨K, (zn : Int), m, bx⟩, DM, dcm, D, dc⟩ : BxM) := ⟨hK, HZQ.out, by show m.length ≤ 5000; omega, by show bx.length ≤ 5000; omega⟩
              obtain ⟨g11, hg⟩ : ∃ g, g = W4.heap.size := ⟨_, rfl⟩
              obtain ⟨W5, hW⟩ : ∃ x, x = W4.alloc (.cells (bcl (⟨⟨K, (zn : Int), m, bx⟩, DM, dcm, D, dc⟩ : BxM)).toArray 72) := ⟨_, rfl⟩
              have b5 : Below wc.heap.size wc W5 := by rw [hW]; exact b4.alloc b4.size _
              have hx1 : Whole W5 g11 72 (bcl (⟨⟨K, (zn : Int), m, bx⟩, DM, dcm, D, dc⟩ : BxM)).toArray := by rw [hW, hg]; exact Whole.here _ _ _
              have oM5 := oM4.alloc (.cells (bcl (⟨⟨K, (zn : Int), m, bx⟩, DM, dcm, D, dc⟩ : BxM)).toArray 72)
              rw [← hW] at oM5
              have oB5 := oB4.alloc (.cells (bcl (⟨⟨K, (zn : Int), m, bx⟩, DM, dcm, D, dc⟩ : BxM)).toArray 72)
              rw [← hW] at oB5
              refine step_buildSlice_box (by rfl) _ (by rfl) (X := (⟨⟨K, (zn : Int), m, bx⟩, DM, dcm, D, dc⟩ : BxM)) (by rfl) ?_
              rw [← hg, ← hW]
              clear hg hW
              clear hHeld
              have hHeld : (fun W : World => W.cell? ⟨w.heap.size, 35, none⟩ = some (.slice Ab j cb) ∧ W.rangeAt (w.heap.size + 1) 0 (K.map byt)) W5 := HCC.out _ b5
              refine hKK.out _ _ (.inr hHeld) trivial ?_
              clear hKK KK
              (try simp only [sq])
              refine AnyG_one (i := 12) (by kernel_rfl) rfl (fun KK hKK => ?_)
              refine step_append_seq (by rfl) _ _ 30 72 zbox 88 (by rfl) Tryd.underlying30 boxInfo zbox_size (by omega) (by omega) bcl_len bcl_one wc.heap.size _ L1 (by rfl) oM5 _ (some ⟨g11, 0, none⟩) 1 1 [(⟨⟨K, (zn : Int), m, bx⟩, DM, dcm, D, dc⟩ : BxM)] rfl (by rfl) (seq_one hx1 rfl hXok) (by have := HL1L.out; have := HLN.out; simp only [List.length_singleton]; omega) b5.size ?_
              intro vN W6 oM6 hbn hgn
              have oB6 := oB5.kept hgn (own_ne oB5 oM5 u8_ne_box)
              have b6 := b5.trans hbn
              obtain ⟨A5, c5, rfl, hS5⟩ := OwnS.seq (ok := bok) oM6 (fun x hx => by
                rcases List.mem_append.1 hx with h | h
                · exact HS1.out.2.2.2.1 x h
                · rw [List.mem_singleton.1 h]; exact hXok)
              obtain ⟨D2, dc2, he2, hsB⟩ := OwnS.seq (ok := fun _ => True) oB6 (fun _ _ => trivial)
              injection he2 with q1 q2 q3
              subst q1 q3
              have hV := bytes_seq hsB
              have hn5 : (L1 ++ [(⟨⟨K, (zn : Int), m, bx⟩, DM, dcm, D, dc⟩ : BxM)]).length = L1.length + 1 := by simp
              rw [hn5]
              clear hbn hgn q2 hsB hn5
              clear hHeld
              have hHeld : (fun W : World => W.cell? ⟨w.heap.size, 35, none⟩ = some (.slice Ab j cb) ∧ W.rangeAt (w.heap.size + 1) 0 (K.map byt)) W6 := HCC.out _ b6
              refine hKK.out _ _ (.inr hHeld) trivial ?_
              clear hKK KK
              (try simp only [sq])
              apply AnyG_pure (i := 13) rfl (by kernel_rfl) (by kernel_rfl) (by kernel_rfl) (by kernel_rfl)
              case hQ => exact fun _ _ _ h => h
              case hB => exact trivial
              case hC => exact .inr hHeld
              case hy => (refine Or.inl ⟨by rfl, ?_⟩; intro w hSw; (try go_split_ands); go_simp; (try with_reducible rfl))
              (try simp only [sq])
              refine AnyG_one (i := 14) (by kernel_rfl) rfl (fun KK hKK => ?_)
              (try simp only [sq])
              have hrW := Whole.below HRU.out b6 (by omega)
              have hf35 := ALRow.frees hrW 35
              have hc35 := hHeld.1
              obtain ⟨W7, hW⟩ : ∃ x, x = W6.setCell ⟨w.heap.size, 35, none⟩ (.slice A5 (L1.length + 1) c5) := ⟨_, rfl⟩
              have r1 := ALRow.set35 hrW (.slice A5 (L1.length + 1) c5)
              have r2 := (hS5.mono (Q' := fun g => p.heap.size ≤ g) fun g _ h => Nat.le_trans hp3 h).keep (w' := W7) (by rw [hW]; exact ((Below.refl 0 _).setCell (p := ⟨w.heap.size, 35, none⟩) (Nat.zero_le _) _).size) (fun g _ h => by rw [hW]; exact heap_setCell_other _ ⟨w.heap.size, 35, none⟩ g _ (by show g ≠ w.heap.size; omega))
              have r3 := (hV.mono (Q' := fun g => p.heap.size ≤ g) fun g _ h => Nat.le_trans hp3 h).keep (w' := W7) (fun g _ h => by rw [hW]; exact heap_setCell_other _ ⟨w.heap.size, 35, none⟩ g _ (by show g ≠ w.heap.size; omega))
              have r4 := (HBXB.out.below b6 (Nat.le_refl _)).keep (w' := W7) (fun g _ h => by rw [hW]; exact heap_setCell_other _ ⟨w.heap.size, 35, none⟩ g _ (by show g ≠ w.heap.size; have h : p.heap.size ≤ g := h; omega))
              have r5 := Whole.far (Whole.below (Whole.below H8.out HB3.out (by omega)) b6 (by omega)) (a := ⟨w.heap.size, 35, none⟩) (by show _ ≠ w.heap.size; omega) (.slice A5 (L1.length + 1) c5)
              have r7 := (HU3.out.trans (b6.mono HU3.out.size)).setCell (p := ⟨w.heap.size, 35, none⟩) (Nat.le_refl _) (.slice A5 (L1.length + 1) c5)
              have r6 : p.heap.size ≤ W7.heap.size := by rw [hW]; exact Nat.le_trans hp3 (Nat.le_trans b6.size ((Below.refl 0 _).setCell (p := ⟨w.heap.size, 35, none⟩) (Nat.zero_le _) _).size)
              rw [← hW] at r1 r5 r7
              go_simp
              rw [← hW]
              clear hW
              refine hKK.out _ _ (.inl (by kernel_rfl)) trivial ?_
              clear hKK KK
              (try simp only [sq])
              refine AnyG_done (by kernel_rfl) ?_ _
              go_wp2_with fail
              go_meet
              exact ⟨A5, c5, DM, dcm, r1, r2, r3, r4, r5, r6, r7⟩
            · skip
              (try simp only [sq])
              obtain ⟨g6, hg⟩ : ∃ g, g = W1.heap.size := ⟨_, rfl⟩
              obtain ⟨W2, hW⟩ : ∃ x, x = W1.alloc (.cells #[] 5) := ⟨_, rfl⟩
              have b2 : Below wc.heap.size wc W2 := by rw [hW]; exact b1.alloc b1.size _
              have oB2 : OwnBf W2 wc.heap.size (.slice (some ⟨g6, 0, none⟩) 0 0) [] := owns_empty (by rw [hW, hg]; exact heap_alloc_new _ _) (by rw [hg]; exact b1.size)
              have oM2 := oM1.alloc (.cells #[] 5)
              rw [← hW] at oM2
              go_simp
              rw [← hg, ← hW]
              clear hg hW
              clear hHeld
              have hHeld : (fun W : World => W.cell? ⟨w.heap.size, 35, none⟩ = some (.slice Ab j cb) ∧ W.rangeAt (w.heap.size + 1) 0 (K.map byt)) W2 := HCC.out _ b2
              refine hKK.out _ _ (.inr hHeld) trivial ?_
              clear hKK KK
              (try simp only [sq])
              refine AnyG_one (i := 3) (by kernel_rfl) rfl (fun KK hKK => ?_)
              refine step_append_seq (by rfl) _ _ 30 72 zbox 88 (by rfl) Tryd.underlying30 boxInfo zbox_size (by omega) (by omega) bcl_len bcl_one wc.heap.size _ [] (by rfl) oM2 Q Ab j cb L1 HL1L.out (by rfl) (HS1.out.below (HU3.out.trans (b2.mono HU3.out.size)) (Nat.le_refl _)) (by have := HL1L.out; simp only [List.length_nil]; omega) b2.size ?_
              intro vM W3 oM0 hbn hgn
              have oM3 : OwnBc W3 wc.heap.size vM L1 := by rw [List.nil_append] at oM0; exact oM0
              have oB3 := oB2.kept hgn (own_ne oB2 oM2 u8_ne_box)
              have b3 := b2.trans hbn
              clear hbn hgn
              clear hHeld
              have hHeld : (fun W : World => W.cell? ⟨w.heap.size, 35, none⟩ = some (.slice Ab j cb) ∧ W.rangeAt (w.heap.size + 1) 0 (K.map byt)) W3 := HCC.out _ b3
              refine hKK.out _ _ (.inr hHeld) trivial ?_
              clear hKK KK
              (try simp only [sq])
              refine AnyG_one (i := 8) (by kernel_rfl) rfl (fun KK hKK => ?_)
              refine step_append_seq (by rfl) _ _ 39 5 (.int .u8 0) 1 (by rfl) Tryd.underlying39 byteInfo byte_size (by omega) (by omega) bf_len bf_one wc.heap.size _ [] (by rfl) oB3 Q2 B m.length d m rfl (by rfl) (seq_bytes (HM.out.below (HU3.out.trans (b3.mono HU3.out.size)) (Nat.le_refl _))) (by simp only [List.length_nil]; omega) b3.size ?_
              intro vB W4 oB0 hbn hgn
              have oB4 : OwnBf W4 wc.heap.size vB m := by rw [List.nil_append] at oB0; exact oB0
              have oM4 := oM3.kept hgn (own_ne oM3 oB3 box_ne_u8)
              obtain ⟨DM, dcm, rfl, hsB⟩ := OwnS.seq (ok := fun _ => True) oB4 (fun _ _ => trivial)
              have b4 := b3.trans hbn
              clear hbn hgn hsB
              clear hHeld
              have hHeld : (fun W : World => W.cell? ⟨w.heap.size, 35, none⟩ = some (.slice Ab j cb) ∧ W.rangeAt (w.heap.size + 1) 0 (K.map byt)) W4 := HCC.out _ b4
              refine hKK.out _ _ (.inr hHeld) trivial ?_
              clear hKK KK
              (try simp only [sq])
              apply AnyG_pure (i := 10) rfl (by kernel_rfl) (by kernel_rfl) (by kernel_rfl) (by kernel_rfl)
              case hQ => exact fun _ _ _ h => h
              case hB => exact trivial
              case hC => exact .inr hHeld
              case hy => exact yieldsIf_build_box (by rfl) _ _ _ _ rfl (e := ⟨K, (zn : Int), m, bx⟩) hK rfl rfl rfl rfl
              (try simp only [sq])
              refine AnyG_one (i := 11) (by kernel_rfl) rfl (fun KK hKK => ?_)
              have hXok : bok (⟨⟨K, (zn : Int), m, bx⟩, DM, dcm, D, dc⟩ : BxM) := ⟨hK, HZQ.out, by show m.length ≤ 5000; omega, by show bx.length ≤ 5000; omega⟩
              obtain ⟨g11, hg⟩ : ∃ g, g = W4.heap.size := ⟨_, rfl⟩
              obtain ⟨W5, hW⟩ : ∃ x, x = W4.alloc (.cells (bcl (⟨⟨K, (zn : Int), m, bx⟩, DM, dcm, D, dc⟩ : BxM)).toArray 72) := ⟨_, rfl⟩
              have b5 : Below wc.heap.size wc W5 := by rw [hW]; exact b4.alloc b4.size _
              have hx1 : Whole W5 g11 72 (bcl (⟨⟨K, (zn : Int), m, bx⟩, DM, dcm, D, dc⟩ : BxM)).toArray := by rw [hW, hg]; exact Whole.here _ _ _
              have oM5 := oM4.alloc (.cells (bcl (⟨⟨K, (zn : Int), m, bx⟩, DM, dcm, D, dc⟩ : BxM)).toArray 72)
              rw [← hW] at oM5
              have oB5 := oB4.alloc (.cells (bcl (⟨⟨K, (zn : Int), m, bx⟩, DM, dcm, D, dc⟩ : BxM)).toArray 72)
              rw [← hW] at oB5
              refine step_buildSlice_box (by rfl) _ (by rfl) (X := (⟨⟨K, (zn : Int), m, bx⟩, DM, dcm, D, dc⟩ : BxM)) (by rfl) ?_
              rw [← hg, ← hW]
              clear hg hW
              clear hHeld
              have hHeld : (fun W : World => W.cell? ⟨w.heap.size, 35, none⟩ = some (.slice Ab j cb) ∧ W.rangeAt (w.heap.size + 1) 0 (K.map byt)) W5 := HCC.out _ b5
              refine hKK.out _ _ (.inr hHeld) trivial ?_
              clear hKK KK
              (try simp only [sq])
              refine AnyG_one (i := 12) (by kernel_rfl) rfl (fun KK hKK => ?_)
              refine step_append_seq (by rfl) _ _ 30 72 zbox 88 (by rfl) Tryd.underlying30 boxInfo zbox_size (by omega) (by omega) bcl_len bcl_one wc.heap.size _ L1 (by rfl) oM5 _ (some ⟨g11, 0, none⟩) 1 1 [(⟨⟨K, (zn : Int), m, bx⟩, DM, dcm, D, dc⟩ : BxM)] rfl (by rfl) (seq_one hx1 rfl hXok) (by have := HL1L.out; have := HLN.out; simp only [List.length_singleton]; omega) b5.size ?_
              intro vN W6 oM6 hbn hgn
              have oB6 := oB5.kept hgn (own_ne oB5 oM5 u8_ne_box)
              have b6 := b5.trans hbn
              obtain ⟨A5, c5, rfl, hS5⟩ := OwnS.seq (ok := bok) oM6 (fun x hx => by
                rcases List.mem_append.1 hx with h | h
                · exact HS1.out.2.2.2.1 x h
                · rw [List.mem_singleton.1 h]; exact hXok)
              obtain ⟨D2, dc2, he2, hsB⟩ := OwnS.seq (ok := fun _ => True) oB6 (fun _ _ => trivial)
              injection he2 with q1 q2 q3
              subst q1 q3
              have hV := bytes_seq hsB
              have hn5 : (L1 ++ [(⟨⟨K, (zn : Int), m, bx⟩, DM, dcm, D, dc⟩ : BxM)]).length = L1.length + 1 := by simp
              rw [hn5]
              clear hbn hgn q2 hsB hn5
              clear hHeld
              have hHeld : (fun W : World => W.cell? ⟨w.heap.size, 35, none⟩ = some (.slice Ab j cb) ∧ W.rangeAt (w.heap.size + 1) 0 (K.map byt)) W6 := HCC.out _ b6
              refine hKK.out _ _ (.inr hHeld) trivial ?_
              clear hKK KK
              (try simp only [sq])
              apply AnyG_pure (i := 13) rfl (by kernel_rfl) (by kernel_rfl) (by kernel_rfl) (by kernel_rfl)
              case hQ => exact fun _ _ _ h => h
              case hB => exact trivial
              case hC => exact .inr hHeld
              case hy => (refine Or.inl ⟨by rfl, ?_⟩; intro w hSw; (try go_split_ands); go_simp; (try with_reducible rfl))
              (try simp only [sq])
              refine AnyG_one (i := 14) (by kernel_rfl) rfl (fun KK hKK => ?_)
              (try simp only [sq])
              have hrW := Whole.below HRU.out b6 (by omega)
              have hf35 := ALRow.frees hrW 35
              have hc35 := hHeld.1
              obtain ⟨W7, hW⟩ : ∃ x, x = W6.setCell ⟨w.heap.size, 35, none⟩ (.slice A5 (L1.length + 1) c5) := ⟨_, rfl⟩
              have r1 := ALRow.set35 hrW (.slice A5 (L1.length + 1) c5)
              have r2 := (hS5.mono (Q' := fun g => p.heap.size ≤ g) fun g _ h => Nat.le_trans hp3 h).keep (w' := W7) (by rw [hW]; exact ((Below.refl 0 _).setCell (p := ⟨w.heap.size, 35, none⟩) (Nat.zero_le _) _).size) (fun g _ h => by rw [hW]; exact heap_setCell_other _ ⟨w.heap.size, 35, none⟩ g _ (by show g ≠ w.heap.size; omega))
              have r3 := (hV.mono (Q' := fun g => p.heap.size ≤ g) fun g _ h => Nat.le_trans hp3 h).keep (w' := W7) (fun g _ h => by rw [hW]; exact heap_setCell_other _ ⟨w.heap.size, 35, none⟩ g _ (by show g ≠ w.heap.size; omega))
              have r4 := (HBXB.out.below b6 (Nat.le_refl _)).keep (w' := W7) (fun g _ h => by rw [hW]; exact heap_setCell_other _ ⟨w.heap.size, 35, none⟩ g _ (by show g ≠ w.heap.size; have h : p.heap.size ≤ g := h; omega))
              have r5 := Whole.far (Whole.below (Whole.below H8.out HB3.out (by omega)) b6 (by omega)) (a := ⟨w.heap.size, 35, none⟩) (by show _ ≠ w.heap.size; omega) (.slice A5 (L1.length + 1) c5)
              have r7 := (HU3.out.trans (b6.mono HU3.out.size)).setCell (p := ⟨w.heap.size, 35, none⟩) (Nat.le_refl _) (.slice A5 (L1.length + 1) c5)
              have r6 : p.heap.size ≤ W7.heap.size := by rw [hW]; exact Nat.le_trans hp3 (Nat.le_trans b6.size ((Below.refl 0 _).setCell (p := ⟨w.heap.size, 35, none⟩) (Nat.zero_le _) _).size)
              rw [← hW] at r1 r5 r7
              go_simp
              rw [← hW]
              clear hW
              refine hKK.out _ _ (.inl (by kernel_rfl)) trivial ?_
              clear hKK KK
              (try simp only [sq])
              refine AnyG_done (by kernel_rfl) ?_ _
              go_wp2_with fail
              go_meet
              exact ⟨A5, c5, DM, dcm, r1, r2, r3, r4, r5, r6, r7⟩
          · skip
            (try simp only [sq])
            obtain ⟨g6, hg⟩ : ∃ g, g = W0.heap.size := ⟨_, rfl⟩
            obtain ⟨W1, hW⟩ : ∃ x, x = W0.alloc (.cells #[] 5) := ⟨_, rfl⟩
            have b1 : Below wc.heap.size wc W1 := by rw [hW]; exact b0.alloc b0.size _
            have oB1 : OwnBf W1 wc.heap.size (.slice (some ⟨g6, 0, none⟩) 0 0) [] := owns_empty (by rw [hW, hg]; exact heap_alloc_new _ _) (by rw [hg]; exact b0.size)
            go_simp
            rw [← hg, ← hW]
            clear hg hW
            clear hHeld
            have hHeld : (fun W : World => W.cell? ⟨w.heap.size, 35, none⟩ = some (.slice Ab j cb) ∧ W.rangeAt (w.heap.size + 1) 0 (K.map byt)) W1 := HCC.out _ b1
            refine hKK.out _ _ (.inr hHeld) trivial ?_
            clear hKK KK
            (try simp only [sq])
            refine AnyG_one (i := 0) (by kernel_rfl) rfl (fun KK hKK => ?_)
            (try simp only [sq])
            obtain ⟨g0, hg⟩ : ∃ g, g = W1.heap.size := ⟨_, rfl⟩
            obtain ⟨W2, hW⟩ : ∃ x, x = W1.alloc (.cells #[] 72) := ⟨_, rfl⟩
            have b2 : Below wc.heap.size wc W2 := by rw [hW]; exact b1.alloc b1.size _
            have oM2 : OwnBc W2 wc.heap.size (.slice (some ⟨g0, 0, none⟩) 0 0) [] := owns_empty (by rw [hW, hg]; exact heap_alloc_new _ _) (by rw [hg]; exact b1.size)
            have oB2 := oB1.alloc (.cells #[] 72)
            rw [← hW] at oB2
            go_simp
            rw [← hg, ← hW]
            clear hg hW
            clear hHeld
            have hHeld : (fun W : World => W.cell? ⟨w.heap.size, 35, none⟩ = some (.slice Ab j cb) ∧ W.rangeAt (w.heap.size + 1) 0 (K.map byt)) W2 := HCC.out _ b2
            refine hKK.out _ _ (.inr hHeld) trivial ?_
            clear hKK KK
            (try simp only [sq])
            refine AnyG_one (i := 3) (by kernel_rfl) rfl (fun KK hKK => ?_)
            refine step_append_seq (by rfl) _ _ 30 72 zbox 88 (by rfl) Tryd.underlying30 boxInfo zbox_size (by omega) (by omega) bcl_len bcl_one wc.heap.size _ [] (by rfl) oM2 Q Ab j cb L1 HL1L.out (by rfl) (HS1.out.below (HU3.out.trans (b2.mono HU3.out.size)) (Nat.le_refl _)) (by have := HL1L.out; simp only [List.length_nil]; omega) b2.size ?_
            intro vM W3 oM0 hbn hgn
            have oM3 : OwnBc W3 wc.heap.size vM L1 := by rw [List.nil_append] at oM0; exact oM0
            have oB3 := oB2.kept hgn (own_ne oB2 oM2 u8_ne_box)
            have b3 := b2.trans hbn
            clear hbn hgn
            clear hHeld
            have hHeld : (fun W : World => W.cell? ⟨w.heap.size, 35, none⟩ = some (.slice Ab j cb) ∧ W.rangeAt (w.heap.size + 1) 0 (K.map byt)) W3 := HCC.out _ b3
            refine hKK.out _ _ (.inr hHeld) trivial ?_
            clear hKK KK
            (try simp only [sq])
            refine AnyG_one (i := 8) (by kernel_rfl) rfl (fun KK hKK => ?_)
            refine step_append_seq (by rfl) _ _ 39 5 (.int .u8 0) 1 (by rfl) Tryd.underlying39 byteInfo byte_size (by omega) (by omega) bf_len bf_one wc.heap.size _ [] (by rfl) oB3 Q2 B m.length d m rfl (by rfl) (seq_bytes (HM.out.below (HU3.out.trans (b3.mono HU3.out.size)) (Nat.le_refl _))) (by simp only [List.length_nil]; omega) b3.size ?_
            intro vB W4 oB0 hbn hgn
            have oB4 : OwnBf W4 wc.heap.size vB m := by rw [List.nil_append] at oB0; exact oB0
            have oM4 := oM3.kept hgn (own_ne oM3 oB3 box_ne_u8)
            obtain ⟨DM, dcm, rfl, hsB⟩ := OwnS.seq (ok := fun _ => True) oB4 (fun _ _ => trivial)
            have b4 := b3.trans hbn
            clear hbn hgn hsB
            clear hHeld
            have hHeld : (fun W : World => W.cell? ⟨w.heap.size, 35, none⟩ = some (.slice Ab j cb) ∧ W.rangeAt (w.heap.size + 1) 0 (K.map byt)) W4 := HCC.out _ b4
            refine hKK.out _ _ (.inr hHeld) trivial ?_
            clear hKK KK
            (try simp only [sq])
            apply AnyG_pure (i := 10) rfl (by kernel_rfl) (by kernel_rfl) (by kernel_rfl) (by kernel_rfl)
            case hQ => exact fun _ _ _ h => h
            case hB => exact trivial
            case hC => exact .inr hHeld
            case hy => exact yieldsIf_build_box (by rfl) _ _ _ _ rfl (e := ⟨K, (zn : Int), m, bx⟩) hK rfl rfl rfl rfl
            (try simp only [sq])
            refine AnyG_one (i := 11) (by kernel_rfl) rfl (fun KK hKK => ?_)
            have hXok : bok (⟨⟨K, (zn : Int), m, bx⟩, DM, dcm, D, dc⟩ : BxM) := ⟨hK, HZQ.out, by show m.length ≤ 5000; omega, by show bx.length ≤ 5000; omega⟩
            obtain ⟨g11, hg⟩ : ∃ g, g = W4.heap.size := ⟨_, rfl⟩
            obtain ⟨W5, hW⟩ : ∃ x, x = W4.alloc (.cells (bcl (⟨⟨K, (zn : Int), m, bx⟩, DM, dcm, D, dc⟩ : BxM)).toArray 72) := ⟨_, rfl⟩
            have b5 : Below wc.heap.size wc W5 := by rw [hW]; exact b4.alloc b4.size _
            have hx1 : Whole W5 g11 72 (bcl (⟨⟨K, (zn : Int), m, bx⟩, DM, dcm, D, dc⟩ : BxM)).toArray := by rw [hW, hg]; exact Whole.here _ _ _
            have oM5 := oM4.alloc (.cells (bcl (⟨⟨K, (zn : Int), m, bx⟩, DM, dcm, D, dc⟩ : BxM)).toArray 72)
            rw [← hW] at oM5
            have oB5 := oB4.alloc (.cells (bcl (⟨⟨K, (zn : Int), m, bx⟩, DM, dcm, D, dc⟩ : BxM)).toArray 72)
            rw [← hW] at oB5
            refine step_buildSlice_box (by rfl) _ (by rfl) (X := (⟨⟨K, (zn : Int), m, bx⟩, DM, dcm, D, dc⟩ : BxM)) (by rfl) ?_
            rw [← hg, ← hW]
            clear hg hW
            clear hHeld
            have hHeld : (fun W : World => W.cell? ⟨w.heap.size, 35, none⟩ = some (.slice Ab j cb) ∧ W.rangeAt (w.heap.size + 1) 0 (K.map byt)) W5 := HCC.out _ b5
            refine hKK.out _ _ (.inr hHeld) trivial ?_
            clear hKK KK
            (try simp only [sq])
            refine AnyG_one (i := 12) (by kernel_rfl) rfl (fun KK hKK => ?_)
            refine step_append_seq (by rfl) _ _ 30 72 zbox 88 (by rfl) Tryd.underlying30 boxInfo zbox_size (by omega) (by omega) bcl_len bcl_one wc.heap.size _ L1 (by rfl) oM5 _ (some ⟨g11, 0, none⟩) 1 1 [(⟨⟨K, (zn : Int), m, bx⟩, DM, dcm, D, dc⟩ : BxM)] rfl (by rfl) (seq_one hx1 rfl hXok) (by have := HL1L.out; have := HLN.out; simp only [List.length_singleton]; omega) b5.size ?_
            intro vN W6 oM6 hbn hgn
            have oB6 := oB5.kept hgn (own_ne oB5 oM5 u8_ne_box)
            have b6 := b5.trans hbn
            obtain ⟨A5, c5, rfl, hS5⟩ := OwnS.seq (ok := bok) oM6 (fun x hx => by
              rcases List.mem_append.1 hx with h | h
              · exact HS1.out.2.2.2.1 x h
              · rw [List.mem_singleton.1 h]; exact hXok)
            obtain ⟨D2, dc2, he2, hsB⟩ := OwnS.seq (ok := fun _ => True) oB6 (fun _ _ => trivial)
            injection he2 with q1 q2 q3
            subst q1 q3
            have hV := bytes_seq hsB
            have hn5 : (L1 ++ [(⟨⟨K, (zn : Int), m, bx⟩, DM, dcm, D, dc⟩ : BxM)]).length = L1.length + 1 := by simp
            rw [hn5]
            clear hbn hgn q2 hsB hn5
            clear hHeld
            have hHeld : (fun W : World => W.cell? ⟨w.heap.size, 35, none⟩ = some (.slice Ab j cb) ∧ W.rangeAt (w.heap.size + 1) 0 (K.map byt)) W6 := HCC.out _ b6
            refine hKK.out _ _ (.inr hHeld) trivial ?_
            clear hKK KK
            (try simp only [sq])
            apply AnyG_pure (i := 13) rfl (by kernel_rfl) (by kernel_rfl) (by kernel_rfl) (by kernel_rfl)
            case hQ => exact fun _ _ _ h => h
            case hB => exact trivial
            case hC => exact .inr hHeld
            case hy => (refine Or.inl ⟨by rfl, ?_⟩; intro w hSw; (try go_split_ands); go_simp; (try with_reducible rfl))
            (try simp only [sq])
            refine AnyG_one (i := 14) (by kernel_rfl) rfl (fun KK hKK => ?_)
            (try simp only [sq])
            have hrW := Whole.below HRU.out b6 (by omega)
            have hf35 := ALRow.frees hrW 35
            have hc35 := hHeld.1
            obtain ⟨W7, hW⟩ : ∃ x, x = W6.setCell ⟨w.heap.size, 35, none⟩ (.slice A5 (L1.length + 1) c5) := ⟨_, rfl⟩
            have r1 := ALRow.set35 hrW (.slice A5 (L1.length + 1) c5)
            have r2 := (hS5.mono (Q' := fun g => p.heap.size ≤ g) fun g _ h => Nat.le_trans hp3 h).keep (w' := W7) (by rw [hW]; exact ((Below.refl 0 _).setCell (p := ⟨w.heap.size, 35, none⟩) (Nat.zero_le _) _).size) (fun g _ h => by rw [hW]; exact heap_setCell_other _ ⟨w.heap.size, 35, none⟩ g _ (by show g ≠ w.heap.size; omega))
            have r3 := (hV.mono (Q' := fun g => p.heap.size ≤ g) fun g _ h => Nat.le_trans hp3 h).keep (w' := W7) (fun g _ h => by rw [hW]; exact heap_setCell_other _ ⟨w.heap.size, 35, none⟩ g _ (by show g ≠ w.heap.size; omega))
            have r4 := (HBXB.out.below b6 (Nat.le_refl _)).keep (w' := W7) (fun g _ h => by rw [hW]; exact heap_setCell_other _ ⟨w.heap.size, 35, none⟩ g _ (by show g ≠ w.heap.size; have h : p.heap.size ≤ g := h; omega))
            have r5 := Whole.far (Whole.below (Whole.below H8.out HB3.out (by omega)) b6 (by omega)) (a := ⟨w.heap.size, 35, none⟩) (by show _ ≠ w.heap.size; omega) (.slice A5 (L1.length + 1) c5)
            have r7 := (HU3.out.trans (b6.mono HU3.out.size)).setCell (p := ⟨w.heap.size, 35, none⟩) (Nat.le_refl _) (.slice A5 (L1.length + 1) c5)
            have r6 : p.heap.size ≤ W7.heap.size := by rw [hW]; exact Nat.le_trans hp3 (Nat.le_trans b6.size ((Below.refl 0 _).setCell (p := ⟨w.heap.size, 35, none⟩) (Nat.zero_le _) _).size)
            rw [← hW] at r1 r5 r7
            go_simp
            rw [← hW]
            clear hW
            refine hKK.out _ _ (.inl (by kernel_rfl)) trivial ?_
            clear hKK KK
            (try simp only [sq])
            refine AnyG_done (by kernel_rfl) ?_ _
            go_wp2_with fail
            go_meet
            exact ⟨A5, c5, DM, dcm, r1, r2, r3, r4, r5, r6, r7⟩
        case rest =>
          obtain ⟨A5, c5, DM, dcm, hr, hS5, hV, hV2, h8, hp9, hbw⟩ := hcut
          rename World => w9
          have HS5 := Lib.hid (hS5.keep (w' := w9.drew) (Nat.le_refl _) fun _ _ _ => rfl)
          have HV := Lib.hid hV.drew
          have HV2 := Lib.hid hV2.drew
          have hr0 : ALRow w9.drew w.heap.size a.free a.seed a.fresh (.slice Am a.macs.length cm) (.slice A5 (L1.length + 1) c5) := Whole.drew hr
          have h80 : Whole w9.drew (w.heap.size + 1 + 1) 32 zar := Whole.drew h8
          have HBF : Hid (Below w.heap.size w w9.drew) := Lib.hid hbw.drew
          have hp1w0 : p.heap.size ≤ w9.drew.heap.size := hp9
          clear hr hS5 hV hV2 h8 hbw hp9
          go_upto_region 21 with fail
          refine wp_region_held_drew (S := fun W : World => W.rangeAt w.heap.size 0 (alcl a.free a.seed a.fresh (.slice Am a.macs.length cm) (.slice A5 (L1.length + 1) c5))) (by kernel_rfl) (Whole.range hr0) (fun hHeld => ?_)
          generalize w9.drew = W0 at hr0 h80 HBF HS5 HV HV2 hp1w0 hHeld ⊢
          have HCC : Hid (∀ W, Below W0.heap.size W0 W → (fun W : World => W.rangeAt w.heap.size 0 (alcl a.free a.seed a.fresh (.slice Am a.macs.length cm) (.slice A5 (L1.length + 1) c5))) W) := Lib.hid fun W hb => Whole.range (Whole.below hr0 hb hr0.lt)
          apply wpT (i := 0) rfl (by kernel_rfl)
          case hQ => exact fun _ _ _ h => h
          case hS => exact hHeld
          case hy => exact yieldsIf_load_mid (by rfl) 32 _ rfl w.heap.size (0) rfl (alcl a.free a.seed a.fresh (.slice Am a.macs.length cm) (.slice A5 (L1.length + 1) c5)) _ (fun w hS => hS) Tryd.underlying32 rfl (by rw [algSize, alcl_length])
          (try simp only [sq])
          apply wpT (i := 2) rfl (by kernel_rfl)
          case hQ => exact fun _ _ _ h => h
          case hS => exact hHeld
          case hy => (refine Or.inl ⟨by rfl, ?_⟩; intro w hSw; (try go_split_ands); go_simp; (try with_reducible rfl))
          (try simp only [sq])
          refine wpAnyH_ready (rs := [1]) (by kernel_rfl) (by simp) ?_
          refine AllReadyH.cons rfl (fun KK hKK => ?_) AllReadyH.nil
          (try simp only [sq])
          obtain ⟨g5, hg5⟩ : ∃ g, g = W0.heap.size := ⟨_, rfl⟩
          obtain ⟨W1, hW1⟩ : ∃ x, x = W0.alloc (.cells #[] 5) := ⟨_, rfl⟩
          have own0 : OwnBf W1 W0.heap.size (.slice (some ⟨g5, 0, none⟩) 0 0) [] := owns_empty (by rw [hW1, hg5]; exact heap_alloc_new _ _) (by rw [hg5]; exact Nat.le_refl _)
          have s1 : Below W0.heap.size W0 W1 := by rw [hW1]; exact (Below.refl _ _).alloc (Nat.le_refl _) _
          go_simp
          rw [← hg5, ← hW1]
          clear hg5 hW1
          refine hKK.out _ _ (HCC.out _ s1) (fun hHeld => ?_)
          clear hKK KK
          (try simp only [sq])
          refine wpAnyH_ready (rs := [3]) (by kernel_rfl) (by simp) ?_
          refine AllReadyH.cons rfl (fun KK hKK => ?_) AllReadyH.nil
          refine step_append_bytes (by rfl) _ _ (by rfl) W0.heap.size _ [] (by rfl) (bf_own own0) _ _ bx (by rfl) (HV2.out.below s1 (Nat.le_refl _)) (by simp only [List.length_nil]; omega) s1.size ?_
          intro vN W2 oN hs2
          rw [List.nil_append] at oN
          have s2 : Below W0.heap.size W0 W2 := s1.trans hs2
          refine hKK.out _ _ (HCC.out _ s2) (fun hHeld => ?_)
          clear hKK KK
          (try simp only [sq])
          refine wpAnyH_ready (rs := [4]) (by kernel_rfl) (by simp) ?_
          refine AllReadyH.cons rfl (fun KK hKK => ?_) AllReadyH.nil
          (try simp only [sq])
          obtain ⟨W3, hW3⟩ : ∃ x, x = W2.setRow (w.heap.size + 1 + 1) (alcl a.free a.seed a.fresh (.slice Am a.macs.length cm) (.slice A5 (L1.length + 1) c5)).toArray := ⟨_, rfl⟩
          have h8w := Whole.below h80 s2 h80.lt
          have e1 : Whole W3 (w.heap.size + 1 + 1) 32 (alc a.free a.seed a.fresh (.slice Am a.macs.length cm) (.slice A5 (L1.length + 1) c5)) := by rw [hW3]; exact Whole.setRow h8w _
          have hbf : Below w.heap.size w W3 := by rw [hW3]; exact below_setRow (HBF.out.trans (s2.mono HBF.out.size)) (by omega) _
          have hV : Bytes W3 (fun g => w.heap.size ≤ g) vN bx := ((Bytes.of_own oN).keep (fun b _ hb => by rw [hW3]; exact setRow_other _ _ b _ (by have : W0.heap.size ≤ b := hb; omega))).mono fun b _ hb => by have : W0.heap.size ≤ b := hb; omega
          have kp : ∀ b, b < W0.heap.size → p.heap.size ≤ b → W3.heap[b]? = W0.heap[b]? := fun b hb hq => by rw [hW3]; exact (setRow_other _ _ b _ (by omega)).trans (s2.block b hb)
          have szk : W0.heap.size ≤ W3.heap.size := by rw [hW3]; exact Nat.le_trans s2.size (below_setRow (B := 0) (Below.refl 0 _) (Nat.zero_le _) _).size
          rw [if_pos (by kernel_rfl)]
          refine wp_store_row 32 _ _ rfl (w.heap.size + 1 + 1) _ rfl rfl 32 _ h8w (by rw [algSize, List.size_toArray, alcl_length]) (by rw [zar_size, List.size_toArray, alcl_length]) (alc_one _ _ _ _ _ _ _ _ _) ?_
          rw [← hW3]
          have hS3 : (fun W : World => W.rangeAt w.heap.size 0 (alcl a.free a.seed a.fresh (.slice Am a.macs.length cm) (.slice A5 (L1.length + 1) c5))) W3 := by rw [hW3]; exact Whole.range (Whole.setRow_far (Whole.below hr0 s2 hr0.lt) (by omega) _)
          clear hW3
          refine hKK.out _ _ (hS3) (fun hHeld => ?_)
          clear hKK KK
          (try simp only [sq])
          apply wpT (i := 5) rfl (by kernel_rfl)
          case hQ => exact fun _ _ _ h => h
          case hS => exact hHeld
          case hy => (refine Or.inl ⟨by rfl, ?_⟩; intro w hSw; (try go_split_ands); go_simp; (try with_reducible rfl))
          (try simp only [sq])
          apply wpT (i := 6) rfl (by kernel_rfl)
          case hQ => exact fun _ _ _ h => h
          case hS => exact hHeld
          case hy => (refine Or.inl ⟨by rfl, ?_⟩; intro w hSw; (try go_split_ands); go_simp; (try with_reducible rfl))
          (try simp only [sq])
          refine wpAnyH_done (by kernel_rfl) ?_ _
          clear hHeld
          go_wp2_with fail
          refine bodyPost_ret (results_algb Tryd.results17 _ rfl _ rfl _ rfl (alc_size _ _ _ _ _) e1) rfl ?_
          show SeR _ _ _ _ R ∧ _
          rw [HRR.out]
          exact ⟨⟨_, _, rfl, (by
              have h := alv_moreb (w := w) (Q := Q) (a := a) (X := (⟨⟨K, (zn : Int), m, bx⟩, DM, dcm, D, dc⟩ : BxM)) HL1.out (fun x hx => ⟨((HB1.out x hx).1.below hbf (Nat.le_refl _)).mono fun _ _ h => .inl h, ((HB1.out x hx).2.below hbf (Nat.le_refl _)).mono fun _ _ h => .inl h⟩) ((HS5.out.keep szk kp).mono fun g _ h => (by have h : p.heap.size ≤ g := h; omega : w.heap.size ≤ g)) ((HV.out.keep kp).mono fun g _ h => (by have h : p.heap.size ≤ g := h; omega : w.heap.size ≤ g)) ((HV2.out.keep kp).mono fun g _ h => (by have h : p.heap.size ≤ g := h; omega : w.heap.size ≤ g)) (HMC.out.below hbf (Nat.le_refl _)) HA.out HLN.out
              rw [show (L1 ++ [(⟨⟨K, (zn : Int), m, bx⟩, DM, dcm, D, dc⟩ : BxM)]).length = L1.length + 1 by simp] at h
              exact h), hV⟩, hbf⟩
    obtain ⟨e, he⟩ : ∃ e, a.boxes[j]? = some e := ⟨_, List.getElem?_eq_getElem (by have := HNB.out; omega)⟩
    obtain ⟨g, o, D, dc, D1, dc1, rfl, hq, hg, hrow, -, hby, hbx, hk32, hnc, hp5, hb5⟩ := Bxs.get ((HBX.out.below HB.out (Nat.le_refl _)).below HBW.out (Nat.le_refl _)) j e he
    have HS := Lib.hid (fndb_drop he K z m)
    have HBY := Lib.hid hby
    have HBO := Lib.hid hbx
    have HT := Lib.hid (And.intro hp5 hb5)
    have HNC := Lib.hid hnc
    obtain ⟨X, hX⟩ : ∃ X : BxM, X = ⟨e, D, dc, D1, dc1⟩ := ⟨_, rfl⟩
    rw [← hX] at hrow
    have HXE := Lib.hid hX
    have hXl := bcl_len X
    have hXs : (bcl X).toArray.size = 35 := by rw [List.size_toArray, hXl]
    have j0 : (0 : Int) ≤ (j : Int) := by omega
    have jn : (j : Int) < (nb : Int) := by omega
    clear he hby hbx hq hnc hp5 hb5 hX
    go_upto_region 9 with (first
      | (with_reducible refine wpList_load_mid rfl 72 _ rfl g (o + j * 35) rfl _ _ hrow Tryd.underlying72 rfl (by rw [boxSize, hXl]) ?_)
      | (with_reducible refine wpList_store_row rfl 72 _ _ rfl wr.heap.size _ rfl rfl 72 _ (heap_alloc_new wr _) (by rw [boxSize, hXs]) (by rw [hXs]; with_unfolding_all rfl) (all_oneCell_toArray (bcl_one X)) ?_))
    rw [zbr_lit]
    obtain ⟨u, hu⟩ : ∃ x, x = (wr.alloc (.cells zbr 72)).setRow wr.heap.size (bcl X).toArray := ⟨_, rfl⟩
    have hxr : Whole u wr.heap.size 72 (bcl X).toArray := by rw [hu]; exact Whole.setRow (Whole.here _ _ _) _
    have hbu : Below wr.heap.size wr u := by rw [hu]; exact below_setRow ((Below.refl _ _).alloc (Nat.le_refl _) _) (Nat.le_refl _) _
    rw [← hu]
    clear hu hrow
    have hwu : wr.heap.size < u.heap.size := hxr.lt
    have HBU : Hid (Below p.heap.size p u) := Lib.hid (HBW.out.trans (hbu.mono hpw))
    have HWU := Lib.hid hbu
    have k1 : u.rangeAt wr.heap.size 0 (e.key.map byt) := by
      have := BXRow.key hxr (by rw [HXE.out]; exact hk32); rw [HXE.out] at this; exact this
    have k2 : u.rangeAt (w.heap.size + 1) 0 (K.map byt) := TGRow.range (Whole.below HK.out HBU.out (by omega))
    obtain ⟨n1, p1, b1⟩ : u.cell? ⟨wr.heap.size, 32, none⟩ = some (.int .i64 e.nonce) ∧ u.cell? ⟨wr.heap.size, 33, none⟩ = some (.slice D e.plain.length dc) ∧ u.cell? ⟨wr.heap.size, 34, none⟩ = some (.slice D1 e.box.length dc1) := by
      have := BXRow.cells hxr; rw [HXE.out] at this; exact this
    have HXR := Lib.hid hxr
    have hqq := fun W => run_eql_tag hk32 hK W
    have hkl : (e.key.map byt).length = 32 := by rw [List.length_map, hk32]
    have hKl : (K.map byt).length = 32 := by rw [List.length_map, hK]
    clear hxr hbu c35 b1
    by_cases hke : e.key = K
    case neg =>
      rw [decide_eq_false hke] at hqq
      have HXN : Hid (fndb (a.boxes.drop (j + 1)) K z m = f) := Lib.hid (by have := HS.out; rw [HF.out, if_neg (fun q => hke q.1)] at this; exact this.symm)
      go_wp2_with (first
        | (with_reducible refine wpList_load_mid rfl 28 _ rfl wr.heap.size 0 rfl _ _ k1 Tryd.underlying28 rfl (by rw [tagSize, hkl]) ?_)
        | (with_reducible refine wpList_load_mid rfl 28 _ rfl (w.heap.size + 1) 0 rfl _ _ k2 Tryd.underlying28 rfl (by rw [tagSize, hKl]) ?_))
      go_roundw
      case rel => exact ⟨j + 1, by go_num, by omega, HXN.out, HBU.out⟩
      case measure => simp [intOf]; omega
    rw [decide_eq_true hke] at hqq
    have HKe := Lib.hid hke
    clear hke
    by_cases hne : e.nonce = z
    case neg =>
      have hne2 : ¬ z = e.nonce := fun q => hne q.symm
      have HXN : Hid (fndb (a.boxes.drop (j + 1)) K z m = f) := Lib.hid (by have := HS.out; rw [HF.out, if_neg (fun q => hne q.2.1)] at this; exact this.symm)
      go_wp2_with (first
        | (with_reducible refine wpList_load_mid rfl 28 _ rfl wr.heap.size 0 rfl _ _ k1 Tryd.underlying28 rfl (by rw [tagSize, hkl]) ?_)
        | (with_reducible refine wpList_load_mid rfl 28 _ rfl (w.heap.size + 1) 0 rfl _ _ k2 Tryd.underlying28 rfl (by rw [tagSize, hKl]) ?_))
      go_roundw
      case rel => exact ⟨j + 1, by go_num, by omega, HXN.out, HBU.out⟩
      case measure => simp [intOf]; omega
    rw [hne] at n1
    have HKE := Lib.hid (And.intro HKe.out hne)
    clear hne
    go_wp2_with (first
      | (with_reducible refine wpList_load_mid rfl 28 _ rfl wr.heap.size 0 rfl _ _ k1 Tryd.underlying28 rfl (by rw [tagSize, hkl]) ?_)
      | (with_reducible refine wpList_load_mid rfl 28 _ rfl (w.heap.size + 1) 0 rfl _ _ k2 Tryd.underlying28 rfl (by rw [tagSize, hKl]) ?_))
    refine (same_ _ _ e.plain m _ _ u (HBY.out.below HWU.out (Nat.le_refl _)) ((HM.out.below HB.out (Nat.le_refl _)).below HBU.out (Nat.le_refl _)) (by have := HT.out.1; omega) (by omega)).mono ?_
    rintro e1 w1 ⟨rfl, hw1⟩
    have HB1 : Hid (Below p.heap.size p w1) := Lib.hid (HBU.out.trans (hw1.mono HBU.out.size))
    have hp1w : p.heap.size ≤ w1.heap.size := HB1.out.size
    have HU1 := Lib.hid hw1
    clear hw1 k1 k2 n1 p1 hqq
    by_cases hem : e.plain = m
    case neg =>
      rw [decide_eq_false hem]
      have HXN : Hid (fndb (a.boxes.drop (j + 1)) K z m = f) := Lib.hid (by have := HS.out; rw [HF.out, if_neg (fun q => hem q.2.2)] at this; exact this.symm)
      go_wp2_with fail
      go_roundw
      case rel => exact ⟨j + 1, by go_num, by omega, HXN.out, HB1.out⟩
      case measure => simp [intOf]; omega
    rw [decide_eq_true hem]
    have hfe : f = some e.box := by have := HS.out; rw [HF.out, if_pos ⟨HKE.out.1, HKE.out.2, hem⟩] at this; exact this
    have HRR : Hid (R = (a, e.box, 0)) := Lib.hid (by rw [HRR0.out, hfe])
    have HOB := Lib.hid ((HBO.out.below HWU.out (Nat.le_refl _)).below HU1.out (Nat.le_refl _))
    have hbl5 := HT.out.2
    clear hfe hem HRR0 HF HF0 HS
    go_upto_region 10 with fail
    have hr0 : ALRow w1.drew w.heap.size a.free a.seed a.fresh (.slice Am a.macs.length cm) (.slice (some ⟨g, o, none⟩) nb cb) := Whole.drew (Whole.below HR.out HB1.out (by omega))
    have h80 : Whole w1.drew (w.heap.size + 1 + 1) 32 zar := Whole.drew (Whole.below H8.out HB1.out (by omega))
    have hx0 : Whole w1.drew wr.heap.size 72 (bcl X).toArray := Whole.drew (Whole.below HXR.out HU1.out (by omega))
    have b34 : w1.drew.cell? ⟨wr.heap.size, 34, none⟩ = some (.slice D1 e.box.length dc1) := by
      have := (BXRow.cells hx0).2.2; rw [HXE.out] at this; exact this
    have b0 : Below w1.heap.size w1 w1.drew := (Below.refl _ _).drew
    have HOB0 := Lib.hid (HOB.out.below b0 (Nat.le_refl _))
    have hsz0 : w1.drew.heap.size = w1.heap.size := rfl
    have HBF : Hid (Below w.heap.size w w1.drew) := Lib.hid ((HB.out.trans (HB1.out.mono (by omega))).drew)
    have hwl : wr.heap.size < w1.drew.heap.size := hx0.lt
    have hp1w0 : p.heap.size ≤ w1.drew.heap.size := hp1w
    have HB34 : Hid (∀ W, Whole W wr.heap.size 72 (bcl X).toArray → W.cell? ⟨wr.heap.size, 34, none⟩ = some (.slice D1 e.box.length dc1)) := Lib.hid fun W h => by
      have := (BXRow.cells h).2.2; rw [HXE.out] at this; exact this
    refine wp_region_held_drew (S := fun W : World => W.rangeAt w.heap.size 0 (alcl a.free a.seed a.fresh (.slice Am a.macs.length cm) (.slice (some ⟨g, o, none⟩) nb cb)) ∧ W.cell? ⟨wr.heap.size, 34, none⟩ = some (.slice D1 e.box.length dc1)) (by kernel_rfl) (⟨Whole.range hr0, HB34.out _ hx0⟩) (fun hHeld => ?_)
    generalize w1.drew = W0 at hr0 h80 hx0 b34 HOB0 HBF hwl hp1w0 hHeld ⊢
    have HCC : Hid (∀ W, Below W0.heap.size W0 W → (fun W : World => W.rangeAt w.heap.size 0 (alcl a.free a.seed a.fresh (.slice Am a.macs.length cm) (.slice (some ⟨g, o, none⟩) nb cb)) ∧ W.cell? ⟨wr.heap.size, 34, none⟩ = some (.slice D1 e.box.length dc1)) W) := Lib.hid fun W hb => ⟨Whole.range (Whole.below hr0 hb hr0.lt), (hb.cell (p := ⟨wr.heap.size, 34, none⟩) hwl).trans b34⟩
    apply wpT (i := 0) rfl (by kernel_rfl)
    case hQ => exact fun _ _ _ h => h
    case hS => exact hHeld
    case hy => exact yieldsIf_load_mid (by rfl) 32 _ rfl w.heap.size (0) rfl (alcl a.free a.seed a.fresh (.slice Am a.macs.length cm) (.slice (some ⟨g, o, none⟩) nb cb)) _ (fun w hS => hS.1) Tryd.underlying32 rfl (by rw [algSize, alcl_length])
    (try simp only [sq])
    apply wpT (i := 2) rfl (by kernel_rfl)
    case hQ => exact fun _ _ _ h => h
    case hS => exact hHeld
    case hy => (refine Or.inl ⟨by rfl, ?_⟩; intro w hSw; (try go_split_ands); go_simp; (try with_reducible rfl))
    (try simp only [sq])
    apply wpT (i := 3) rfl (by kernel_rfl)
    case hQ => exact fun _ _ _ h => h
    case hS => exact hHeld
    case hy => (refine Or.inl ⟨by rfl, ?_⟩; intro w hSw; (try go_split_ands); go_simp; (try with_reducible rfl))
    (try simp only [sq])
    refine wpAnyH_ready (rs := [1]) (by kernel_rfl) (by simp) ?_
    refine AllReadyH.cons rfl (fun KK hKK => ?_) AllReadyH.nil
    (try simp only [sq])
    obtain ⟨g5, hg5⟩ : ∃ g, g = W0.heap.size := ⟨_, rfl⟩
    obtain ⟨W1, hW1⟩ : ∃ x, x = W0.alloc (.cells #[] 5) := ⟨_, rfl⟩
    have own0 : OwnBf W1 W0.heap.size (.slice (some ⟨g5, 0, none⟩) 0 0) [] := owns_empty (by rw [hW1, hg5]; exact heap_alloc_new _ _) (by rw [hg5]; exact Nat.le_refl _)
    have s1 : Below W0.heap.size W0 W1 := by rw [hW1]; exact (Below.refl _ _).alloc (Nat.le_refl _) _
    go_simp
    rw [← hg5, ← hW1]
    clear hg5 hW1
    refine hKK.out _ _ (HCC.out _ s1) (fun hHeld => ?_)
    clear hKK KK
    (try simp only [sq])
    refine wpAnyH_ready (rs := [4]) (by kernel_rfl) (by simp) ?_
    refine AllReadyH.cons rfl (fun KK hKK => ?_) AllReadyH.nil
    refine step_append_bytes (by rfl) _ _ (by rfl) W0.heap.size _ [] (by rfl) (bf_own own0) _ _ e.box (by rfl) (HOB0.out.below s1 (Nat.le_refl _)) (by simp only [List.length_nil]; omega) s1.size ?_
    intro vN W2 oN hs2
    rw [List.nil_append] at oN
    have s2 : Below W0.heap.size W0 W2 := s1.trans hs2
    refine hKK.out _ _ (HCC.out _ s2) (fun hHeld => ?_)
    clear hKK KK
    (try simp only [sq])
    refine wpAnyH_ready (rs := [5]) (by kernel_rfl) (by simp) ?_
    refine AllReadyH.cons rfl (fun KK hKK => ?_) AllReadyH.nil
    (try simp only [sq])
    obtain ⟨W3, hW3⟩ : ∃ x, x = W2.setRow (w.heap.size + 1 + 1) (alcl a.free a.seed a.fresh (.slice Am a.macs.length cm) (.slice (some ⟨g, o, none⟩) nb cb)).toArray := ⟨_, rfl⟩
    have h8w := Whole.below h80 s2 h80.lt
    have e1 : Whole W3 (w.heap.size + 1 + 1) 32 (alc a.free a.seed a.fresh (.slice Am a.macs.length cm) (.slice (some ⟨g, o, none⟩) nb cb)) := by rw [hW3]; exact Whole.setRow h8w _
    have hbf : Below w.heap.size w W3 := by rw [hW3]; exact below_setRow (HBF.out.trans (s2.mono HBF.out.size)) (by omega) _
    have hV : Bytes W3 (fun g => w.heap.size ≤ g) vN e.box := ((Bytes.of_own oN).keep (fun b _ hb => by rw [hW3]; exact setRow_other _ _ b _ (by have : W0.heap.size ≤ b := hb; omega))).mono fun b _ hb => by have : W0.heap.size ≤ b := hb; omega
    have kp : ∀ b, b < W0.heap.size → p.heap.size ≤ b → W3.heap[b]? = W0.heap[b]? := fun b hb hq => by rw [hW3]; exact (setRow_other _ _ b _ (by omega)).trans (s2.block b hb)
    have szk : W0.heap.size ≤ W3.heap.size := by rw [hW3]; exact Nat.le_trans s2.size (below_setRow (B := 0) (Below.refl 0 _) (Nat.zero_le _) _).size
    rw [if_pos (by kernel_rfl)]
    refine wp_store_row 32 _ _ rfl (w.heap.size + 1 + 1) _ rfl rfl 32 _ h8w (by rw [algSize, List.size_toArray, alcl_length]) (by rw [zar_size, List.size_toArray, alcl_length]) (alc_one _ _ _ _ _ _ _ _ _) ?_
    rw [← hW3]
    have hS3 : (fun W : World => W.rangeAt w.heap.size 0 (alcl a.free a.seed a.fresh (.slice Am a.macs.length cm) (.slice (some ⟨g, o, none⟩) nb cb)) ∧ W.cell? ⟨wr.heap.size, 34, none⟩ = some (.slice D1 e.box.length dc1)) W3 := by rw [hW3]; exact ⟨Whole.range (Whole.setRow_far (Whole.below hr0 s2 hr0.lt) (by omega) _), HB34.out _ (Whole.setRow_far (Whole.below hx0 s2 hx0.lt) (by omega) _)⟩
    clear hW3
    refine hKK.out _ _ (hS3) (fun hHeld => ?_)
    clear hKK KK
    (try simp only [sq])
    apply wpT (i := 6) rfl (by kernel_rfl)
    case hQ => exact fun _ _ _ h => h
    case hS => exact hHeld
    case hy => (refine Or.inl ⟨by rfl, ?_⟩; intro w hSw; (try go_split_ands); go_simp; (try with_reducible rfl))
    (try simp only [sq])
    apply wpT (i := 7) rfl (by kernel_rfl)
    case hQ => exact fun _ _ _ h => h
    case hS => exact hHeld
    case hy => (refine Or.inl ⟨by rfl, ?_⟩; intro w hSw; (try go_split_ands); go_simp; (try with_reducible rfl))
    (try simp only [sq])
    refine wpAnyH_done (by kernel_rfl) ?_ _
    clear hHeld
    go_wp2_with fail
    refine bodyPost_ret (results_algb Tryd.results17 _ rfl _ rfl _ rfl (alc_size _ _ _ _ _) e1) rfl ?_
    show SeR _ _ _ _ R ∧ _
    rw [HRR.out]
    exact ⟨⟨_, _, rfl, (HX.out.below hbf (Nat.le_refl _)).mono fun _ _ h => .inl h, hV⟩, hbf⟩
end Go.Proofs.YteekdhcffiaaaaaDoor
namespace Go.Proofs.YteekdhcffiaaaaaDoor
open Go Go.RowKit Sh Leaf
namespace Sh

theorem fnd_snoc (l : List Me) (x : Me) (k m : List B8) : fnd (l ++ [x]) k m = match fnd l k m with | some t => some t | none => if x.key = k ∧ x.msg = m then some x.tag else none := by
  unfold fnd
  rw [List.find?_append]
  cases h : List.find? (fun e => decide (e.key = k ∧ e.msg = m)) l with
  | some e => rfl
  | none =>
    simp only [Option.none_or, Option.map_none]
    by_cases hx : x.key = k ∧ x.msg = m
    · rw [if_pos hx, List.find?_cons, decide_eq_true hx]; rfl
    · rw [if_neg hx, List.find?_cons, decide_eq_false hx]; rfl
theorem fndb_snoc (l : List Bx) (x : Bx) (k : List B8) (z : Int) (m : List B8) : fndb (l ++ [x]) k z m = match fndb l k z m with | some t => some t | none => if x.key = k ∧ x.nonce = z ∧ x.plain = m then some x.box else none := by
  unfold fndb
  rw [List.find?_append]
  cases h : List.find? (fun e => decide (e.key = k ∧ e.nonce = z ∧ e.plain = m)) l with
  | some e => rfl
  | none =>
    simp only [Option.none_or, Option.map_none]
    by_cases hx : x.key = k ∧ x.nonce = z ∧ x.plain = m
    · rw [if_pos hx, List.find?_cons, decide_eq_true hx]; rfl
    · rw [if_neg hx, List.find?_cons, decide_eq_false hx]; rfl
theorem fndb_mem {l : List Bx} {k : List B8} {z : Int} {m t : List B8} (h : fndb l k z m = some t) : ∃ e ∈ l, e.key = k ∧ e.nonce = z ∧ e.plain = m ∧ e.box = t := by
  unfold fndb at h
  obtain ⟨e, he, rfl⟩ := Option.map_eq_some_iff.1 h
  have h1 := List.find?_some he
  have h2 : e.key = k ∧ e.nonce = z ∧ e.plain = m := by simpa using h1
  exact ⟨e, List.mem_of_find?_eq_some he, h2.1, h2.2.1, h2.2.2, rfl⟩
structure GoodA (a : Alg) : Prop where
  fm : ∀ e ∈ a.macs, fnd a.macs e.key e.msg = some e.tag
  cm : a.free = false → ∀ e ∈ a.macs, e.tag = hmac e.key e.msg
  lm : ∀ e ∈ a.macs, e.msg.length ≤ 4096
  fb : ∀ b ∈ a.boxes, fndb a.boxes b.key b.nonce b.plain = some b.box
  cb : a.free = false → ∀ b ∈ a.boxes, b.box = boxh b.key b.nonce b.plain ++ hmac b.key (boxw ++ boxh b.key b.nonce b.plain)
  lb : ∀ b ∈ a.boxes, b.plain.length ≤ 256
  nb : ∀ b ∈ a.boxes, 0 ≤ b.nonce ∧ b.nonce ≤ 281474976710656
  tb : a.free = true → ∀ (i : Nat) b, a.boxes[i]? = some b → b.box = sym 98#8 ((i + 1 : Nat) : Int) ++ List.replicate (b.plain.length + 8) 0
  tm : a.free = true → ∀ (i : Nat) e, a.macs[i]? = some e → e.tag = sym 109#8 ((i + 1 : Nat) : Int)
theorem snoc_get {α : Type} {l : List α} {x y : α} {i : Nat} (h : (l ++ [x])[i]? = some y) : l[i]? = some y ∨ (i = l.length ∧ y = x) := by
  rw [List.getElem?_append] at h
  split at h
  · exact .inl h
  · right
    obtain ⟨hi, h⟩ := List.getElem?_eq_some_iff.1 h
    have : i - l.length = 0 := by simp at hi; omega
    refine ⟨by omega, ?_⟩
    simp [this] at h
    exact h.symm
theorem good_new (f : Bool) (K : List B8) : GoodA ⟨f, K, 0, [], []⟩ := ⟨by simp, by simp, by simp, by simp, by simp, by simp, by simp, by simp, by simp⟩
theorem good_key {a : Alg} (h : GoodA a) : GoodA (aKey a).1 := by
  unfold aKey
  split
  · exact good_new _ _
  · exact ⟨h.fm, h.cm, h.lm, h.fb, h.cb, h.lb, h.nb, h.tb, h.tm⟩
theorem good_mac {a : Alg} {K m : List B8} (h : GoodA a) : GoodA (aMac a K m).1 := by
  unfold aMac
  split
  · exact good_new _ _
  rename_i hm
  split
  · exact h
  rename_i hf
  split
  · exact good_new _ _
  refine ⟨?_, ?_, ?_, h.fb, h.cb, h.lb, h.nb, h.tb, ?_⟩
  · intro e he
    show fnd (a.macs ++ [_]) _ _ = _
    rw [fnd_snoc]
    rcases List.mem_append.1 he with he | he
    · rw [h.fm e he]
    · rw [List.mem_singleton.1 he]
      simp only [hf]
      simp
  · intro hfr e he
    rcases List.mem_append.1 he with he | he
    · exact h.cm hfr e he
    · rw [List.mem_singleton.1 he]
      show ntag a K m = _
      unfold ntag
      rw [if_neg (by rw [show a.free = false from hfr]; simp)]
  · intro e he
    rcases List.mem_append.1 he with he | he
    · exact h.lm e he
    · rw [List.mem_singleton.1 he]
      show m.length ≤ 4096
      omega
  · intro hfr i e he
    rcases snoc_get he with he | ⟨rfl, rfl⟩
    · exact h.tm hfr i e he
    · show ntag a K m = _
      unfold ntag
      rw [if_pos hfr]
theorem good_seal {a : Alg} {K m : List B8} {z : Int} (h : GoodA a) : GoodA (aSeal a K z m).1 := by
  unfold aSeal
  split
  · exact good_new _ _
  rename_i hz
  split
  · exact good_new _ _
  rename_i hm
  split
  · exact h
  rename_i hf
  split
  · exact good_new _ _
  refine ⟨h.fm, h.cm, h.lm, ?_, ?_, ?_, ?_, ?_, h.tm⟩
  · intro e he
    show fndb (a.boxes ++ [_]) _ _ _ = _
    rw [fndb_snoc]
    rcases List.mem_append.1 he with he | he
    · rw [h.fb e he]
    · rw [List.mem_singleton.1 he]
      simp only [hf]
      simp
  · intro hfr e he
    rcases List.mem_append.1 he with he | he
    · exact h.cb hfr e he
    · rw [List.mem_singleton.1 he]
      show boxb a K z m = _
      unfold boxb
      rw [if_neg (by rw [show a.free = false from hfr]; simp)]
  · intro e he
    rcases List.mem_append.1 he with he | he
    · exact h.lb e he
    · rw [List.mem_singleton.1 he]
      show m.length ≤ 256
      omega
  · intro e he
    rcases List.mem_append.1 he with he | he
    · exact h.nb e he
    · rw [List.mem_singleton.1 he]
      show 0 ≤ z ∧ z ≤ 281474976710656
      omega
  · intro hfr i e he
    rcases snoc_get he with he | ⟨rfl, rfl⟩
    · exact h.tb hfr i e he
    · show boxb a K z m = _
      unfold boxb
      rw [if_pos hfr]
end Sh
end Go.Proofs.YteekdhcffiaaaaaDoor
namespace Go.Proofs.YteekdhcffiaaaaaDoor
open Go Go.RowKit Sh Leaf

namespace Sh
theorem seal_le (a : Alg) (K : List B8) (z : Int) (m : List B8) : (aSeal a K z m).1.boxes.length ≤ a.boxes.length + 1 := by
  unfold aSeal
  split
  · exact Nat.zero_le _
  split
  · exact Nat.zero_le _
  split
  · exact Nat.le_succ _
  split
  · exact Nat.zero_le _
  · show (a.boxes ++ [_]).length ≤ _
    rw [List.length_append]; simp
end Sh
end Go.Proofs.YteekdhcffiaaaaaDoor
namespace Go.Proofs.YteekdhcffiaaaaaDoor
open Go Go.RowKit Sh Leaf
namespace Sh
theorem strm_strm (K : List B8) (n : Nat) (m : List B8) : strm K n (strm K n m) = m := by
  unfold strm
  refine List.ext_getElem? fun i => ?_
  rw [List.getElem?_mapIdx, List.getElem?_mapIdx]
  cases m[i]? with
  | none => rfl
  | some x =>
    simp only [Option.map_some]
    generalize kstr K n i = y
    congr 1
    rw [BitVec.xor_assoc, BitVec.xor_self, BitVec.xor_zero]
theorem fndo_isSome {l : List Bx} {e : Bx} (h : e ∈ l) : ∃ e' ∈ l, e'.key = e.key ∧ e'.box = e.box ∧ fndo l e.key e.box = some e'.plain := by
  unfold fndo
  cases hf : l.find? (fun x => decide (x.key = e.key ∧ x.box = e.box)) with
  | none => exact absurd (List.find?_eq_none.1 hf e h) (by simp)
  | some x =>
    have := List.find?_some hf
    simp at this
    exact ⟨x, List.mem_of_find?_eq_some hf, this.1, this.2, rfl⟩
theorem cOpen_box (K m : List B8) (z : Nat) (hz : z ≤ 281474976710656) (hm : m.length ≤ 256) : cOpen K (boxh K (z : Int) m ++ hmac K (boxw ++ boxh K (z : Int) m)) = (m, 0) := by
  obtain ⟨H, hH⟩ : ∃ H, H = boxh K (z : Int) m := ⟨_, rfl⟩
  rw [← hH]
  obtain ⟨T, hT⟩ : ∃ T, T = hmac K (boxw ++ H) := ⟨_, rfl⟩
  rw [← hT]
  have hHl : H.length = 8 + m.length := by rw [hH]; unfold boxh; rw [List.length_append, be8_length, strm_length]
  have hTl : T.length = 32 := by rw [hT]; exact hmac_length _ _
  have hl : (H ++ T).length = 40 + m.length := by rw [List.length_append]; omega
  have e1 : (H ++ T).take ((H ++ T).length - 32) = H := by rw [hl, show 40 + m.length - 32 = H.length by omega]; exact List.take_left' rfl
  have e2 : (H ++ T).drop ((H ++ T).length - 32) = T := by rw [hl, show 40 + m.length - 32 = H.length by omega]; exact List.drop_left' rfl
  unfold cOpen
  rw [if_neg (by omega), e1, e2, ← hT, if_pos rfl]
  have e3 : (H ++ T).take 8 = be8 z := by
    rw [hH]; unfold boxh
    rw [List.append_assoc, Int.toNat_natCast]
    exact List.take_left' (be8_length z)
  have e4 : H.drop 8 = strm K z m := by
    rw [hH]; unfold boxh
    rw [Int.toNat_natCast]
    exact List.drop_left' (be8_length z)
  rw [e3, e4, beval_be8 (by omega), strm_strm]
theorem box_back {a b : Alg} {K m X U : List B8} {z : Nat} {e f : Int} (hG : GoodA a) (hz : z ≤ 281474976710656) (hm : m.length ≤ 256) (hl : a.boxes.length ≤ 4) (h1 : (b, X, e) = aSeal a K (z : Int) m) (h2 : (U, f) = aOpen b K X) : e = 0 ∧ f = 0 ∧ U = m ∧ X.length = m.length + 40 := by
  have hgb : GoodA (aSeal a K (z : Int) m).1 := good_seal hG
  rw [← h1] at hgb
  have key : e = 0 ∧ ∃ x ∈ b.boxes, x.key = K ∧ x.plain = m ∧ x.box = X := by
    unfold aSeal at h1
    rw [if_neg (by omega), if_neg (by omega)] at h1
    cases hf : fndb a.boxes K (z : Int) m with
    | some t =>
      rw [hf] at h1
      injection h1 with h1 h3
      injection h3 with h3 h4
      obtain ⟨x, hx, k1, -, k3, k4⟩ := fndb_mem hf
      exact ⟨h4, x, by rw [h1]; exact hx, k1, k3, by rw [k4, h3]⟩
    | none =>
      rw [hf] at h1
      simp only [if_neg (show ¬ 65536 ≤ a.boxes.length by omega)] at h1
      injection h1 with h1 h3
      injection h3 with h3 h4
      exact ⟨h4, ⟨K, (z : Int), m, boxb a K (z : Int) m⟩, by rw [h1]; simp, rfl, rfl, h3.symm⟩
  obtain ⟨rfl, x, hx, rfl, rfl, rfl⟩ := key
  by_cases hfr : b.free = true
  · obtain ⟨y, hy, k1, k2, k3⟩ := fndo_isSome hx
    obtain ⟨i, hi, hie⟩ := List.getElem_of_mem hx
    obtain ⟨j, hj, hje⟩ := List.getElem_of_mem hy
    have t1 := hgb.tb hfr i x (by rw [List.getElem?_eq_getElem hi, hie])
    have t2 := hgb.tb hfr j y (by rw [List.getElem?_eq_getElem hj, hje])
    have hbl : b.boxes.length ≤ 5 := by
      have := seal_le a x.key (z : Int) x.plain
      rw [← h1] at this
      simp only at this
      omega
    have hij : i = j := by
      by_cases q : i = j
      · exact q
      · have e1 := congrArg (List.take 32) k2
        rw [t1, t2, List.take_left' (sym_length _ _), List.take_left' (sym_length _ _)] at e1
        exact absurd e1.symm (sym_ne2 (by omega) (by omega) (by omega) (by omega) (by omega))
    subst hij
    have hxy : x = y := hie.symm.trans hje
    rw [aOpen_free hfr, k3, ← hxy] at h2
    simp at h2
    refine ⟨rfl, h2.2, h2.1, ?_⟩
    rw [t1, List.length_append, sym_length, List.length_replicate]
    omega
  · have hfr : b.free = false := by simpa using hfr
    have hb := hgb.cb hfr x hx
    obtain ⟨n, hn⟩ := Int.eq_ofNat_of_zero_le (hgb.nb x hx).1
    have hn2 := (hgb.nb x hx).2
    rw [hn] at hb hn2
    rw [aOpen_comp hfr, hb, cOpen_box _ _ _ (by omega) hm] at h2
    injection h2 with h2 h3
    refine ⟨rfl, h3, h2, ?_⟩
    rw [hb, List.length_append, hmac_length]
    unfold boxh
    rw [List.length_append, be8_length, strm_length]
    omega
end Sh
end Go.Proofs.YteekdhcffiaaaaaDoor
namespace Go.Proofs.YteekdhcffiaaaaaDoor
open Go Go.RowKit Sh Leaf

theorem conv_drew (C : Array Value) (n c : Nat) (W : World) : (convert 39 39 (.slice (some ⟨W.heap.size, 0, none⟩) n c)).run Tryd.prog (W.alloc (.cells C 5)).drew = .ok (.slice (some ⟨W.heap.size, 0, none⟩) n c) (W.alloc (.cells C 5 (C.size, C.size + 1))).drew :=
  conv_const C n c W.drew
theorem boxw_cells : (#[.int .u8 98, .int .u8 111, .int .u8 120] : Array Value) = (boxw.map byt).toArray := by
  simp only [boxw, List.map_cons, List.map_nil, byt]
  rw [bv_lit 98 (by omega), bv_lit 111 (by omega), bv_lit 120 (by omega)]
  rfl
set_option linter.unusedSimpArgs false in
set_option linter.unusedVariables false in
set_option maxRecDepth 100000 in
set_option maxHeartbeats 4000000 in
theorem checkof_ {w : World} {Q : Nat → Prop} {B : Option Addr} {d : Nat} {K m : List B8} (hK : K.length = 32) (hm : Bytes w Q (.slice B m.length d) m) (hml : m.length ≤ 100008) (hT : Tables w) :
    Calls Tryd.prog 68 #[.agg (K.map byt).toArray, .slice B m.length d] w fun e w' => e = .returned (tagv (hmac K (boxw ++ m))) ∧ Below w.heap.size w w' := by
  obtain ⟨E, hE⟩ : ∃ E, E = hmac K (boxw ++ m) := ⟨_, rfl⟩
  have hEl : E.length = 32 := by rw [hE]; exact hmac_length _ _
  obtain ⟨p, hp⟩ : ∃ p, p = (w.alloc (.cells (K.map byt).toArray 28)).alloc (.cells ztr 28) := ⟨_, rfl⟩
  have hb : Below w.heap.size w p := by rw [hp]; exact ((Below.refl _ _).alloc (Nat.le_refl _) _).alloc (by simp) _
  have hk : TGRow p w.heap.size K := by rw [hp]; exact (Whole.here _ _ _).alloc _
  have hz : Whole p (w.heap.size + 1) 28 ztr := by rw [hp]; exact Whole.at_ _ _ _ _ (by simp)
  have hsp : w.heap.size + 2 ≤ p.heap.size := by have := hz.lt; omega
  have hmp := hm.below hb (Nat.le_refl _)
  have hTp := hT.below (Nat.le_refl _) hb
  have hst := fun g W => run_sliceAt_whole (P := Tryd.prog) (t := 28) (e := 5) (n := 32) Tryd.underlying28 (by kernel_rfl) g W
  have hkb := Whole.bytes hk (by omega)
  rw [hK] at hkb
  rw [← hE]
  have HE := Lib.hid hE
  have HB := Lib.hid hb
  have HZ := Lib.hid hz
  have HKB := Lib.hid hkb
  have HM := Lib.hid hmp
  have HT := Lib.hid hTp
  have hcv := conv_drew #[.int .u8 98, .int .u8 111, .int .u8 120] 3 3 p
  clear hE hb hk hz hmp hTp hkb hm hT
  go_enter Tryd.func68, Tryd.ntmps68
  go_upto_region 1 with fail
  rw [ztr_lit, ← hp]
  clear hp
  refine wp_region_held_drew (S := fun _ => True) (by kernel_rfl) (trivial) (fun hHeld => ?_)
  apply wpAnyH_take (i := 0) rfl (by kernel_rfl) (by kernel_rfl) (by kernel_rfl)
  case hQ => exact fun _ _ _ h => h
  case hS => exact hHeld
  case hy => (refine Or.inl ⟨by rfl, ?_⟩; intro w hSw; (try go_split_ands); go_simp; (try with_reducible rfl))
  (try simp only [List.getElem_toArray, List.getElem_cons_zero, Act.put, List.setIfInBounds_toArray, List.set_cons_zero, List.set_cons_succ])
  apply wpAnyH_take (i := 3) rfl (by kernel_rfl) (by kernel_rfl) (by kernel_rfl)
  case hQ => exact fun _ _ _ h => h
  case hS => exact hHeld
  case hy => (refine Or.inl ⟨by rfl, ?_⟩; intro w hSw; (try go_split_ands); go_simp; (try with_reducible rfl))
  (try simp only [List.getElem_toArray, List.getElem_cons_succ, List.getElem_cons_zero, Act.put, List.setIfInBounds_toArray, List.set_cons_zero, List.set_cons_succ])
  refine wpAnyH_ready (rs := [1]) (by kernel_rfl) (by simp) ?_
  refine AllReadyH.cons rfl (fun KK hKK => ?_) AllReadyH.nil
  (try simp only [List.getElem_toArray, List.getElem_cons_succ, List.getElem_cons_zero])
  go_simp
  refine hKK.out _ _ (trivial) (fun hHeld => ?_)
  clear hKK KK
  (try simp only [List.getElem_toArray, List.getElem_cons_succ, List.getElem_cons_zero, Act.put, List.setIfInBounds_toArray, List.set_cons_zero, List.set_cons_succ])
  refine wpAnyH_ready (rs := [2]) (by kernel_rfl) (by simp) ?_
  refine AllReadyH.cons rfl (fun KK hKK => ?_) AllReadyH.nil
  (try simp only [List.getElem_toArray, List.getElem_cons_succ, List.getElem_cons_zero])
  go_simp
  obtain ⟨V1, hV1⟩ : ∃ x, x = (p.alloc (.cells #[.int .u8 98, .int .u8 111, .int .u8 120] 5 (3, 4))).drew := ⟨_, rfl⟩
  have hb1 : Below p.heap.size p V1 := by rw [hV1]; exact (below_mark p _ _ _).drew
  have hbx : Bytes V1 (fun b => p.heap.size ≤ b) (.slice (some ⟨p.heap.size, 0, none⟩) 3 3) boxw := by rw [hV1]; exact (own_const p p.heap.size (Nat.le_refl _) boxw #[.int .u8 98, .int .u8 111, .int .u8 120] 3 boxw_cells rfl (by omega)).bytes
  (try simp only [show (#[.int .u8 98, .int .u8 111, .int .u8 120] : Array Value).size = 3 by rfl])
  rw [← hV1]
  clear hV1 hcv
  refine hKK.out _ _ (trivial) (fun hHeld => ?_)
  clear hKK KK
  (try simp only [List.getElem_toArray, List.getElem_cons_succ, List.getElem_cons_zero, Act.put, List.setIfInBounds_toArray, List.set_cons_zero, List.set_cons_succ])
  refine wpAnyH_ready (rs := [4]) (by kernel_rfl) (by simp) ?_
  refine AllReadyH.cons rfl (fun KK hKK => ?_) AllReadyH.nil
  (try simp only [List.getElem_toArray, List.getElem_cons_succ, List.getElem_cons_zero])
  go_simp
  obtain ⟨V2, hV2⟩ : ∃ x, x = V1.alloc (.cells #[.slice (some ⟨p.heap.size, 0, none⟩) 3 3, .slice B m.length d] 39) := ⟨_, rfl⟩
  have hb2 : Below V1.heap.size V1 V2 := by rw [hV2]; exact (Below.refl _ _).alloc (Nat.le_refl _) _
  have hrow : Whole V2 V1.heap.size 39 #[.slice (some ⟨p.heap.size, 0, none⟩) 3 3, .slice B m.length d] := by rw [hV2]; exact Whole.here _ _ _
  have hb12 := Below.trans hb1 (Below.mono hb2 (Below.size hb1))
  rw [← hV2]
  clear hV2
  refine hKK.out _ _ (trivial) (fun hHeld => ?_)
  clear hKK KK
  (try simp only [List.getElem_toArray, List.getElem_cons_succ, List.getElem_cons_zero, Act.put, List.setIfInBounds_toArray, List.set_cons_zero, List.set_cons_succ])
  refine wpAnyH_ready (rs := [5]) (by kernel_rfl) (by simp) ?_
  refine AllReadyH.cons rfl (fun KK hKK => ?_) AllReadyH.nil
  (try simp only [List.getElem_toArray, List.getElem_cons_succ, List.getElem_cons_zero])
  go_simp
  go_at_call 65
  refine (concat V1.heap.size _ _ boxw m _ _ V2 (hrow.cell 0) (hrow.cell 1) (hbx.below hb2 (Nat.le_refl _)) (HM.out.below hb12 (Nat.le_refl _)) (by decide) (by simp [boxw]; omega)).mono ?_
  rintro e V3 ⟨v3, rfl, hv3, hb3⟩
  have hb13 := Below.trans hb12 (Below.mono hb3 (Below.size hb12))
  refine hKK.out _ _ (trivial) (fun hHeld => ?_)
  clear hKK KK
  (try simp only [List.getElem_toArray, List.getElem_cons_succ, List.getElem_cons_zero, Act.put, List.setIfInBounds_toArray, List.set_cons_zero, List.set_cons_succ])
  refine wpAnyH_ready (rs := [6]) (by kernel_rfl) (by simp) ?_
  refine AllReadyH.cons rfl (fun KK hKK => ?_) AllReadyH.nil
  (try simp only [List.getElem_toArray, List.getElem_cons_succ, List.getElem_cons_zero])
  go_simp
  go_at_call 62
  refine (hof _ _ K (boxw ++ m) _ _ V3 (HKB.out.below hb13 (Nat.le_refl _)) hv3 (HT.out.below (Nat.le_refl _) hb13) (by omega) (by simp [boxw]; omega)).mono ?_
  rintro e V4 ⟨rfl, hb4⟩
  rw [← HE.out]
  have hb14 := Below.trans hb13 (Below.mono hb4 (Below.size hb13))
  have hz4 := Whole.below HZ.out hb14 (by omega)
  refine hKK.out _ _ (trivial) (fun hHeld => ?_)
  clear hKK KK
  (try simp only [List.getElem_toArray, List.getElem_cons_succ, List.getElem_cons_zero, Act.put, List.setIfInBounds_toArray, List.set_cons_zero, List.set_cons_succ])
  refine wpAnyH_ready (rs := [7]) (by kernel_rfl) (by simp) ?_
  refine AllReadyH.cons rfl (fun KK hKK => ?_) AllReadyH.nil
  obtain ⟨V5, hV5⟩ : ∃ x, x = V4.setRow (w.heap.size + 1) (E.map byt).toArray := ⟨_, rfl⟩
  have e1 : TGRow V5 (w.heap.size + 1) E := by rw [hV5]; exact Whole.setRow hz4 _
  have hbf : Below w.heap.size w V5 := by rw [hV5]; exact below_setRow (Below.trans HB.out (Below.mono hb14 (Below.size HB.out))) (by omega) _
  rw [if_pos (by kernel_rfl)]
  refine wp_store_row 28 _ _ rfl (w.heap.size + 1) _ rfl rfl 28 _ hz4 (by rw [tagSize, tag_size hEl]) (by rw [ztr_size, tag_size hEl]) (tag_one _) ?_
  rw [← hV5]
  clear hV5
  refine hKK.out _ _ (trivial) (fun hHeld => ?_)
  clear hKK KK
  (try simp only [List.getElem_toArray, List.getElem_cons_succ, List.getElem_cons_zero, Act.put, List.setIfInBounds_toArray, List.set_cons_zero, List.set_cons_succ])
  refine wpAnyH_done (by kernel_rfl) ?_ _
  have HG := Lib.hid hbf
  have HR := Lib.hid e1
  clear hb1 hb2 hb12 hb3 hb13 hb4 hb14 hbx hrow hv3 hz4 hst hbf e1
  go_wp2_with fail
  refine bodyPost_ret (results_cell_row Tryd.results68 _ _ (w.heap.size + 1) _ _ _ _ rfl HR.out Tryd.underlying28 rfl (by rw [tagSize, tag_size hEl])) rfl ⟨rfl, HG.out⟩
end Go.Proofs.YteekdhcffiaaaaaDoor
namespace Go.Proofs.YteekdhcffiaaaaaDoor
open Go Go.RowKit Sh Leaf

def CombOk : Prop := ∀ (w : World) (Q Q2 : Nat → Prop) (K N m : List B8) (A B : Option Addr) (c d : Nat), K.length = 32 → N.length = 8 → Bytes w Q (.slice A N.length c) N → Bytes w Q2 (.slice B m.length d) m → m.length ≤ 100000 → Tables w →
  Calls Tryd.prog 67 #[.agg (K.map byt).toArray, .slice A N.length c, .slice B m.length d] w fun e w' => (∃ v, e = .returned v ∧ Bytes w' (fun g => w.heap.size ≤ g) v (strm K (beval N) m)) ∧ Below w.heap.size w w'
end Go.Proofs.YteekdhcffiaaaaaDoor
namespace Go.Proofs.YteekdhcffiaaaaaDoor
open Go Go.RowKit Sh Leaf

theorem bv109' : bv 109#8 = 109 := bv_lit 109 (by omega)

theorem alv_more {w W : World} {Q : Nat → Prop} {a : Alg} {Ab A5 : Option Addr} {cb c5 : Nat} {L1 : List MeM} {X : MeM} (hL : L1.map (·.e) = a.macs) (hB1 : ∀ x ∈ L1, Bytes W (fun g => Q g ∨ w.heap.size ≤ g) (.slice x.A x.e.msg.length x.c) x.e.msg)
    (hS : Seq mcl mok W (fun g => w.heap.size ≤ g) A5 c5 (L1 ++ [X])) (hX : Bytes W (fun g => w.heap.size ≤ g) (.slice X.A X.e.msg.length X.c) X.e.msg) (hBx : Bxs W Q Ab cb a.boxes) (hA : Aok a) (hlen : a.macs.length < 1000) :
    AlV W (fun g => Q g ∨ w.heap.size ≤ g) (.agg (alc a.free a.seed a.fresh (.slice A5 (L1 ++ [X]).length c5) (.slice Ab a.boxes.length cb))) { a with macs := a.macs ++ [X.e] } := by
  have hl : (a.macs ++ [X.e]).length = (L1 ++ [X]).length := by rw [← hL]; simp
  refine ⟨A5, c5, Ab, cb, by rw [← hl], ⟨L1 ++ [X], by rw [← hL]; simp, hS.mono fun _ _ h => .inr h, fun x hx => ?_⟩, hBx.mono fun _ _ h => .inl h, ⟨hA.seed, hA.lo, hA.hi, by show (a.macs ++ [X.e]).length ≤ 1000; rw [List.length_append]; simp; omega, hA.boxes⟩⟩
  rcases List.mem_append.1 hx with h | h
  · exact hB1 x h
  · rw [List.mem_singleton.1 h]
    exact hX.mono fun _ _ h => .inr h
theorem tag_len {l : List B8} (h : l.length = 32) : (l.map byt).length = 32 := by rw [List.length_map, h]
end Go.Proofs.YteekdhcffiaaaaaDoor
