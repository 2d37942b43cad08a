/-
  RefCSm
-/
import Derived.Deep.CutBlock
import Derived.Deep.DeepCutAuto
import Derived.Deep.RegionHeld3
import Derived.Test.YtiikhjifjdpgdaaDoorKSq
import Derived.Test.YtiikhjifjdpgdaaDoorPk31
import Derived.Test.YtiikhjifjdpgdaaDoorPk11
namespace Go.Proofs.YtiikhjifjdpgdaaDoor
open Go Go.RowKit Sh Leaf

set_option maxRecDepth 100000 in
theorem neq_prds (p q : Prd) (w : World) : (binOp .neq 57 (pv p) (pv q)).run Tryd.prog w = .ok (.bool (!decide (p = q))) w := by
  have h := run_eql_prd p.kind (p.mask : Int) p.lo p.hi p.num q.kind (q.mask : Int) q.lo q.hi q.num p.name q.name w
  rw [run_eql_struct] at h
  rw [pv_row, pv_row]
  rw [run_neq_struct]
  have e : (p.kind = q.kind ∧ (p.mask : Int) = (q.mask : Int) ∧ p.lo = q.lo ∧ p.hi = q.hi ∧ p.name = q.name ∧ p.num = q.num) ↔ p = q := by
    obtain ⟨a, b, c, d, n, f⟩ := p
    obtain ⟨a', b', c', d', n', f'⟩ := q
    simp only [Prd.mk.injEq]
    constructor
    · rintro ⟨h1, h2, h3, h4, h5, h6⟩
      exact ⟨h1, by omega, h3, h4, h5, h6⟩
    · rintro ⟨h1, h2, h3, h4, h5, h6⟩
      exact ⟨h1, by omega, h3, h4, h5, h6⟩
  simp only [e] at h
  obtain ⟨r, hr⟩ : ∃ r, r = (Op.equalIn 10000 57 (.agg (prow p.kind (p.mask : Int) p.lo p.hi p.name p.num)) (.agg (prow q.kind (q.mask : Int) q.lo q.hi q.name q.num))).run Tryd.prog w := ⟨_, rfl⟩
  rw [← hr] at h ⊢
  clear hr
  cases r with
  | ok b w2 =>
    unfold Result.andThen at h ⊢
    dsimp only at h ⊢
    injection h with h1 h2
    injection h1 with h1
    rw [h1, h2]
  | halt x w2 =>
    unfold Result.andThen at h
    cases h
theorem wpList_load_guarded {ops : Array Oper} {rest : List Oper} {o : Oper} {a : Act} {w : World} {Q : Exit → Act → World → Prop} {g : Nat} {th : Bool} {p : Prd} {pa : Int} {vt vb : Value} (hgd : Region.wanted o (yielded ops a.tmps) = true) (x : Operand) (ho : o.op = .load 57 x)
    (hx : a.eval x = .pointer (some ⟨g, 1, none⟩)) (hg : CvRow w g th p pa vt vb) (h : wpList Tryd.prog ops Q rest (a.put o.dst (pv p)) w) : wpList Tryd.prog ops Q (o :: rest) a w := by
  show if Region.wanted o (yielded ops a.tmps) then _ else _
  rw [if_pos hgd]
  left
  refine wp_load_mid 57 x ho g 1 hx _ _ (CvRow.prd hg) Tryd.underlying57 rfl (by rw [prdSize]; rfl) ?_
  rw [pv_list] at h
  exact h
def Cvs (w : World) (A : Option Addr) (l : List Cav) : Prop := ∀ (i : Nat) (c : Cav), l[i]? = some c → ∃ g o A1 c1 A2 c2, A = some ⟨g, o, none⟩ ∧ g < w.heap.size ∧ w.rangeAt g (o + i * 10) [.bool c.third, .int .i64 c.first.kind, .int .u64 (c.first.mask : Int), .int .i64 c.first.lo, .int .i64 c.first.hi, .string (sof c.first.name), .int .i64 c.first.num, .int .i64 c.party, .slice A1 c.ticket.length c1, .slice A2 c.box.length c2] ∧ Bytes w (fun _ => True) (.slice A1 c.ticket.length c1) c.ticket ∧ Bytes w (fun _ => True) (.slice A2 c.box.length c2) c.box ∧ Cwf c
theorem Cvs.below {w w' : World} {A : Option Addr} {l : List Cav} (h : Cvs w A l) (hb : Below w.heap.size w w') : Cvs w' A l := fun i c hc => by
  obtain ⟨g, o, A1, c1, A2, c2, h1, h2, h3, h4, h5, h6⟩ := h i c hc
  exact ⟨g, o, A1, c1, A2, c2, h1, Nat.lt_of_lt_of_le h2 hb.size, fun j v hv => (hb.cell (p := ⟨g, o + i * 10 + j, none⟩) h2).trans (h3 j v hv), h4.below hb (Nat.le_refl _), h5.below hb (Nat.le_refl _), h6⟩
theorem take_ne {a b : List Cav} {j : Nat} {x y : Cav} (ha : a[j]? = some x) (hb : b[j]? = some y) (h : x ≠ y) : a ≠ b := fun e => by
  subst e
  rw [ha] at hb
  injection hb with hb
  exact h hb
def TwP (P : World) (x y : Cav) (A1 A2 B1 B2 : Option Addr) (c1 c2 d1 d2 : Nat) (s6 s7 : Value) (wx : World) : Prop := ∃ G H, s6 = .pointer (some ⟨G, 0, none⟩) ∧ s7 = .pointer (some ⟨H, 0, none⟩) ∧ CvRow wx G x.third x.first x.party (.slice A1 x.ticket.length c1) (.slice A2 x.box.length c2) ∧ CvRow wx H y.third y.first y.party (.slice B1 y.ticket.length d1) (.slice B2 y.box.length d2) ∧ Below P.heap.size P wx
set_option linter.unusedSimpArgs false in
set_option linter.unusedVariables false in
set_option maxRecDepth 100000 in
set_option maxHeartbeats 4000000 in
theorem rcsame {w : World} {A B : Option Addr} {ca cb : Nat} {la lb : List Cav} (hA : Cvs w A la) (hB : Cvs w B lb) (hla : la.length ≤ 100000) (hlb : lb.length ≤ 100000) :
    Calls Tryd.prog 21 #[.slice A la.length ca, .slice B lb.length cb] w fun e w' => e = .returned (.bool (decide (la = lb))) ∧ Below w.heap.size w w' := by
  obtain ⟨R, hR⟩ : ∃ R, R = decide (la = lb) := ⟨_, rfl⟩
  rw [← hR]
  have HR := Lib.hid hR
  have HA := Lib.hid hA
  have HB := Lib.hid hB
  obtain ⟨n, hn⟩ : ∃ n, n = la.length := ⟨_, rfl⟩
  obtain ⟨m, hm⟩ : ∃ m, m = lb.length := ⟨_, rfl⟩
  rw [← hn] at hla ⊢
  rw [← hm] at hlb ⊢
  have HN := Lib.hid (And.intro hn hm)
  clear hR hA hB hn hm
  by_cases hlen : n = m
  case neg =>
    have hRR : R = false := by rw [HR.out]; exact decide_eq_false fun e => hlen (by rw [HN.out.1, HN.out.2, e])
    have hlen2 : ¬ (n : Int) = (m : Int) := by omega
    subst hRR
    clear HR HA HB HN
    go_enter Tryd.func21, Tryd.ntmps21
    go_wp2_with fail
    go_ret
    exact ⟨rfl, Below.refl _ _⟩
  subst hlen
  go_enter Tryd.func21, Tryd.ntmps21
  go_wp2_with fail
  go_loopw [5] (fun v wr => ∃ j : Nat, v = .int .i64 j ∧ j ≤ n ∧ la.take j = lb.take j ∧ Below w.heap.size w wr) (fun v _ => n - (intOf v).toNat)
  case atStart => exact ⟨0, rfl, by omega, rfl, Below.refl _ _⟩
  case round =>
    obtain ⟨j, rfl, hj, htk, hbw⟩ := hrel
    have hswr : w.heap.size ≤ wr.heap.size := hbw.size
    have HTK := Lib.hid htk
    have HBW := Lib.hid hbw
    clear htk hbw
    by_cases hlt : j < n
    case neg =>
      obtain rfl : j = n := by omega
      have hRR : R = true := by
        rw [HR.out]
        refine decide_eq_true ?_
        have := HTK.out
        rwa [List.take_of_length_le (by rw [← HN.out.1]; omega), List.take_of_length_le (by rw [← HN.out.2]; omega)] at this
      subst hRR
      clear hlt hj
      go_wp2_with fail
      go_ret
      exact ⟨rfl, HBW.out⟩
    obtain ⟨x, hx⟩ : ∃ x, la[j]? = some x := ⟨_, List.getElem?_eq_getElem (by have := HN.out.1; omega)⟩
    obtain ⟨y, hy⟩ : ∃ y, lb[j]? = some y := ⟨_, List.getElem?_eq_getElem (by have := HN.out.2; omega)⟩
    have hA2 := HA.out.below HBW.out
    have hB2 := HB.out.below HBW.out
    obtain ⟨g, o, A1, c1, A2, c2, hAe, hgl, hra, hat, hab, hwfa⟩ := hA2 j x hx
    obtain ⟨h, q, B1, d1, B2, d2, hBe, hhl, hrb, hbt, hbb, hwfb⟩ := hB2 j y hy
    have HXY := Lib.hid (And.intro hx hy)
    have HAT := Lib.hid hat
    have HAB := Lib.hid hab
    have HBT := Lib.hid hbt
    have HBB := Lib.hid hbb
    have HWF := Lib.hid (And.intro hwfa hwfb)
    have hcc : ∀ W, Below wr.heap.size wr W → W.rangeAt g (o + j * 10) [.bool x.third, .int .i64 x.first.kind, .int .u64 (x.first.mask : Int), .int .i64 x.first.lo, .int .i64 x.first.hi, .string (sof x.first.name), .int .i64 x.first.num, .int .i64 x.party, .slice A1 x.ticket.length c1, .slice A2 x.box.length c2] ∧ W.rangeAt h (q + j * 10) [.bool y.third, .int .i64 y.first.kind, .int .u64 (y.first.mask : Int), .int .i64 y.first.lo, .int .i64 y.first.hi, .string (sof y.first.name), .int .i64 y.first.num, .int .i64 y.party, .slice B1 y.ticket.length d1, .slice B2 y.box.length d2] := fun W hW => ⟨fun i v hv => (hW.cell (p := ⟨g, o + j * 10 + i, none⟩) hgl).trans (hra i v hv), fun i v hv => (hW.cell (p := ⟨h, q + j * 10 + i, none⟩) hhl).trans (hrb i v hv)⟩
    have HCC := Lib.hid hcc
    have HAE := Lib.hid (And.intro hAe hBe)
    have j0 : (0 : Int) ≤ (j : Int) := by omega
    have jn : (j : Int) < (n : Int) := by omega
    subst hAe hBe
    clear hx hy hA2 hB2 hra hrb hat hab hbt hbb hwfa hwfb hcc
    go_upto_region 6 with fail
    (try simp only [Act.put])
    go_cut [6, 7] (fun s6 s7 wx => TwP wr x y A1 A2 B1 B2 c1 c2 d1 d2 s6 s7 wx)
    case first =>
      have hb0 : Below wr.heap.size wr wr.drew := (Below.refl _ _).drew
      refine wp_region_held_drew (S := fun W : World => W.rangeAt g (o + j * 10) [.bool x.third, .int .i64 x.first.kind, .int .u64 (x.first.mask : Int), .int .i64 x.first.lo, .int .i64 x.first.hi, .string (sof x.first.name), .int .i64 x.first.num, .int .i64 x.party, .slice A1 x.ticket.length c1, .slice A2 x.box.length c2] ∧ W.rangeAt h (q + j * 10) [.bool y.third, .int .i64 y.first.kind, .int .u64 (y.first.mask : Int), .int .i64 y.first.lo, .int .i64 y.first.hi, .string (sof y.first.name), .int .i64 y.first.num, .int .i64 y.party, .slice B1 y.ticket.length d1, .slice B2 y.box.length d2]) (by kernel_rfl) (HCC.out _ hb0) (fun hHeld => ?_)
      generalize wr.drew = W0 at hb0 hHeld ⊢
      apply wpT (i := 0) rfl (by kernel_rfl)
      case hQ => exact fun _ _ _ h => h
      case hS => exact hHeld
      case hy => (refine Or.inl ⟨by rfl, ?_⟩; intro w hSw; (try go_split_ands); go_simp; (try with_reducible rfl))
      (try simp only [sq])
      apply wpT (i := 1) rfl (by kernel_rfl)
      case hQ => exact fun _ _ _ h => h
      case hS => exact hHeld
      case hy => (refine Or.inl ⟨by rfl, ?_⟩; intro w hSw; (try go_split_ands); go_simp; (try with_reducible rfl))
      (try simp only [sq])
      apply wpT (i := 2) rfl (by kernel_rfl)
      case hQ => exact fun _ _ _ h => h
      case hS => exact hHeld
      case hy => (refine Or.inl ⟨by rfl, ?_⟩; intro w hSw; (try go_split_ands); go_simp; (try with_reducible rfl))
      (try simp only [sq])
      apply wpT (i := 3) rfl (by kernel_rfl)
      case hQ => exact fun _ _ _ h => h
      case hS => exact hHeld
      case hy => exact yieldsIf_load_mid (by rfl) 59 _ rfl g ((o + j * 10)) rfl ([.bool x.third, .int .i64 x.first.kind, .int .u64 (x.first.mask : Int), .int .i64 x.first.lo, .int .i64 x.first.hi, .string (sof x.first.name), .int .i64 x.first.num, .int .i64 x.party, .slice A1 x.ticket.length c1, .slice A2 x.box.length c2]) _ (fun w hS => hS.1) Tryd.underlying59 rfl (by rw [cavSize]; rfl)
      (try simp only [sq])
      apply wpT (i := 4) rfl (by kernel_rfl)
      case hQ => exact fun _ _ _ h => h
      case hS => exact hHeld
      case hy => (refine Or.inl ⟨by rfl, ?_⟩; intro w hSw; (try go_split_ands); go_simp; (try with_reducible rfl))
      (try simp only [sq])
      apply wpT (i := 5) rfl (by kernel_rfl)
      case hQ => exact fun _ _ _ h => h
      case hS => exact hHeld
      case hy => (refine Or.inl ⟨by rfl, ?_⟩; intro w hSw; (try go_split_ands); go_simp; (try with_reducible rfl))
      (try simp only [sq])
      apply wpT (i := 6) rfl (by kernel_rfl)
      case hQ => exact fun _ _ _ h => h
      case hS => exact hHeld
      case hy => (refine Or.inl ⟨by rfl, ?_⟩; intro w hSw; (try go_split_ands); go_simp; (try with_reducible rfl))
      (try simp only [sq])
      apply wpT (i := 7) rfl (by kernel_rfl)
      case hQ => exact fun _ _ _ h => h
      case hS => exact hHeld
      case hy => exact yieldsIf_load_mid (by rfl) 59 _ rfl h ((q + j * 10)) rfl ([.bool y.third, .int .i64 y.first.kind, .int .u64 (y.first.mask : Int), .int .i64 y.first.lo, .int .i64 y.first.hi, .string (sof y.first.name), .int .i64 y.first.num, .int .i64 y.party, .slice B1 y.ticket.length d1, .slice B2 y.box.length d2]) _ (fun w hS => hS.2) Tryd.underlying59 rfl (by rw [cavSize]; rfl)
      (try simp only [sq])
      refine wpAnyH_ready (rs := [8, 9]) (by kernel_rfl) (by simp) ?_
      refine AllReadyH.cons rfl (fun KK hKK => ?_) (AllReadyH.cons rfl (fun KK hKK => ?_) AllReadyH.nil)
      · (try simp only [sq])
        go_simp
        obtain ⟨GX, hGX⟩ : ∃ g, g = W0.heap.size := ⟨_, rfl⟩
        obtain ⟨V1, hV1⟩ : ∃ x, x = W0.alloc (.cells #[.bool false, .int .i64 0, .int .u64 0, .int .i64 0, .int .i64 0, .string { data := #[] }, .int .i64 0, .int .i64 0, .slice none 0 0, .slice none 0 0] 59) := ⟨_, rfl⟩
        have hb1 : Below wr.heap.size wr V1 := by rw [hV1]; exact hb0.alloc hb0.size _
        have zGX1 : Whole V1 GX 59 #[.bool false, .int .i64 0, .int .u64 0, .int .i64 0, .int .i64 0, .string { data := #[] }, .int .i64 0, .int .i64 0, .slice none 0 0, .slice none 0 0] := by rw [hV1, hGX]; exact Whole.here _ _ _
        have pGX : wr.heap.size ≤ GX := by rw [hGX]; exact hb0.size
        rw [← hGX, ← hV1]
        clear hV1 hGX
        refine hKK.out _ _ (HCC.out _ hb1) (fun hHeld => ?_)
        clear hKK KK
        (try simp only [sq])
        refine wpAnyH_ready (rs := [9]) (by kernel_rfl) (by simp) ?_
        refine AllReadyH.cons rfl (fun KK hKK => ?_) AllReadyH.nil
        (try simp only [sq])
        go_simp
        obtain ⟨GY, hGY⟩ : ∃ g, g = V1.heap.size := ⟨_, rfl⟩
        obtain ⟨V2, hV2⟩ : ∃ x, x = V1.alloc (.cells #[.bool false, .int .i64 0, .int .u64 0, .int .i64 0, .int .i64 0, .string { data := #[] }, .int .i64 0, .int .i64 0, .slice none 0 0, .slice none 0 0] 59) := ⟨_, rfl⟩
        have hb2 : Below wr.heap.size wr V2 := by rw [hV2]; exact hb1.alloc hb1.size _
        have zGY2 : Whole V2 GY 59 #[.bool false, .int .i64 0, .int .u64 0, .int .i64 0, .int .i64 0, .string { data := #[] }, .int .i64 0, .int .i64 0, .slice none 0 0, .slice none 0 0] := by rw [hV2, hGY]; exact Whole.here _ _ _
        have pGY : wr.heap.size ≤ GY := by rw [hGY]; exact hb1.size
        have zGX2 : Whole V2 GX 59 #[.bool false, .int .i64 0, .int .u64 0, .int .i64 0, .int .i64 0, .string { data := #[] }, .int .i64 0, .int .i64 0, .slice none 0 0, .slice none 0 0] := by rw [hV2]; exact zGX1.alloc _
        have hne : GX ≠ GY := by have := Whole.lt zGX1; omega
        rw [← hGY, ← hV2]
        clear hV2 hGY
        refine hKK.out _ _ (HCC.out _ hb2) (fun hHeld => ?_)
        clear hKK KK
        (try simp only [sq])
        refine wpAnyH_ready (rs := [10]) (by kernel_rfl) (by simp) ?_
        refine AllReadyH.cons rfl (fun KK hKK => ?_) AllReadyH.nil
        obtain ⟨V3, hV3⟩ : ∃ qq, qq = V2.setRow GX (cvrow x.third x.first x.party (.slice A1 x.ticket.length c1) (.slice A2 x.box.length c2)) := ⟨_, rfl⟩
        have nGX3 : CvRow V3 GX x.third x.first x.party (.slice A1 x.ticket.length c1) (.slice A2 x.box.length c2) := by rw [hV3]; exact Whole.setRow zGX2 _
        have hb3 : Below wr.heap.size wr V3 := by rw [hV3]; exact below_setRow hb2 pGX _
        have zGY3 := Whole.setRow_far zGY2 (by omega : GY ≠ GX) (cvrow x.third x.first x.party (.slice A1 x.ticket.length c1) (.slice A2 x.box.length c2))
        rw [← hV3] at zGY3
        rw [if_pos (by kernel_rfl)]
        refine wp_store_row 59 _ _ rfl (GX) (cvrow x.third x.first x.party (.slice A1 x.ticket.length c1) (.slice A2 x.box.length c2)) rfl rfl 59 _ zGX2 (by rw [cavSize]; rfl) (by rfl) (by simp [Value.oneCell']) ?_
        rw [← hV3]
        clear hV3
        refine hKK.out _ _ (HCC.out _ hb3) (fun hHeld => ?_)
        clear hKK KK
        (try simp only [sq])
        refine wpAnyH_ready (rs := [11]) (by kernel_rfl) (by simp) ?_
        refine AllReadyH.cons rfl (fun KK hKK => ?_) AllReadyH.nil
        obtain ⟨V4, hV4⟩ : ∃ qq, qq = V3.setRow GY (cvrow y.third y.first y.party (.slice B1 y.ticket.length d1) (.slice B2 y.box.length d2)) := ⟨_, rfl⟩
        have nGY4 : CvRow V4 GY y.third y.first y.party (.slice B1 y.ticket.length d1) (.slice B2 y.box.length d2) := by rw [hV4]; exact Whole.setRow zGY3 _
        have hb4 : Below wr.heap.size wr V4 := by rw [hV4]; exact below_setRow hb3 pGY _
        have nGX4 := Whole.setRow_far nGX3 (by omega : GX ≠ GY) (cvrow y.third y.first y.party (.slice B1 y.ticket.length d1) (.slice B2 y.box.length d2))
        rw [← hV4] at nGX4
        rw [if_pos (by kernel_rfl)]
        refine wp_store_row 59 _ _ rfl (GY) (cvrow y.third y.first y.party (.slice B1 y.ticket.length d1) (.slice B2 y.box.length d2)) rfl rfl 59 _ zGY3 (by rw [cavSize]; rfl) (by rfl) (by simp [Value.oneCell']) ?_
        rw [← hV4]
        clear hV4
        refine hKK.out _ _ (HCC.out _ hb4) (fun hHeld => ?_)
        clear hKK KK
        (try simp only [sq])
        refine wpAnyH_done (by kernel_rfl) ?_ _
        go_wp2_with fail
        go_meet
        exact ⟨GX, GY, rfl, rfl, nGX4, nGY4, hb4⟩
      · (try simp only [sq])
        go_simp
        obtain ⟨GY, hGY⟩ : ∃ g, g = W0.heap.size := ⟨_, rfl⟩
        obtain ⟨V5, hV5⟩ : ∃ x, x = W0.alloc (.cells #[.bool false, .int .i64 0, .int .u64 0, .int .i64 0, .int .i64 0, .string { data := #[] }, .int .i64 0, .int .i64 0, .slice none 0 0, .slice none 0 0] 59) := ⟨_, rfl⟩
        have hb5 : Below wr.heap.size wr V5 := by rw [hV5]; exact hb0.alloc hb0.size _
        have zGY5 : Whole V5 GY 59 #[.bool false, .int .i64 0, .int .u64 0, .int .i64 0, .int .i64 0, .string { data := #[] }, .int .i64 0, .int .i64 0, .slice none 0 0, .slice none 0 0] := by rw [hV5, hGY]; exact Whole.here _ _ _
        have pGY : wr.heap.size ≤ GY := by rw [hGY]; exact hb0.size
        rw [← hGY, ← hV5]
        clear hV5 hGY
        refine hKK.out _ _ (HCC.out _ hb5) (fun hHeld => ?_)
        clear hKK KK
        (try simp only [sq])
        refine wpAnyH_ready (rs := [8]) (by kernel_rfl) (by simp) ?_
        refine AllReadyH.cons rfl (fun KK hKK => ?_) AllReadyH.nil
        (try simp only [sq])
        go_simp
        obtain ⟨GX, hGX⟩ : ∃ g, g = V5.heap.size := ⟨_, rfl⟩
        obtain ⟨V6, hV6⟩ : ∃ x, x = V5.alloc (.cells #[.bool false, .int .i64 0, .int .u64 0, .int .i64 0, .int .i64 0, .string { data := #[] }, .int .i64 0, .int .i64 0, .slice none 0 0, .slice none 0 0] 59) := ⟨_, rfl⟩
        have hb6 : Below wr.heap.size wr V6 := by rw [hV6]; exact hb5.alloc hb5.size _
        have zGX6 : Whole V6 GX 59 #[.bool false, .int .i64 0, .int .u64 0, .int .i64 0, .int .i64 0, .string { data := #[] }, .int .i64 0, .int .i64 0, .slice none 0 0, .slice none 0 0] := by rw [hV6, hGX]; exact Whole.here _ _ _
        have pGX : wr.heap.size ≤ GX := by rw [hGX]; exact hb5.size
        have zGY6 : Whole V6 GY 59 #[.bool false, .int .i64 0, .int .u64 0, .int .i64 0, .int .i64 0, .string { data := #[] }, .int .i64 0, .int .i64 0, .slice none 0 0, .slice none 0 0] := by rw [hV6]; exact zGY5.alloc _
        have hne : GX ≠ GY := by have := Whole.lt zGY5; omega
        rw [← hGX, ← hV6]
        clear hV6 hGX
        refine hKK.out _ _ (HCC.out _ hb6) (fun hHeld => ?_)
        clear hKK KK
        (try simp only [sq])
        refine wpAnyH_ready (rs := [10]) (by kernel_rfl) (by simp) ?_
        refine AllReadyH.cons rfl (fun KK hKK => ?_) AllReadyH.nil
        obtain ⟨V7, hV7⟩ : ∃ qq, qq = V6.setRow GX (cvrow x.third x.first x.party (.slice A1 x.ticket.length c1) (.slice A2 x.box.length c2)) := ⟨_, rfl⟩
        have nGX7 : CvRow V7 GX x.third x.first x.party (.slice A1 x.ticket.length c1) (.slice A2 x.box.length c2) := by rw [hV7]; exact Whole.setRow zGX6 _
        have hb7 : Below wr.heap.size wr V7 := by rw [hV7]; exact below_setRow hb6 pGX _
        have zGY7 := Whole.setRow_far zGY6 (by omega : GY ≠ GX) (cvrow x.third x.first x.party (.slice A1 x.ticket.length c1) (.slice A2 x.box.length c2))
        rw [← hV7] at zGY7
        rw [if_pos (by kernel_rfl)]
        refine wp_store_row 59 _ _ rfl (GX) (cvrow x.third x.first x.party (.slice A1 x.ticket.length c1) (.slice A2 x.box.length c2)) rfl rfl 59 _ zGX6 (by rw [cavSize]; rfl) (by rfl) (by simp [Value.oneCell']) ?_
        rw [← hV7]
        clear hV7
        refine hKK.out _ _ (HCC.out _ hb7) (fun hHeld => ?_)
        clear hKK KK
        (try simp only [sq])
        refine wpAnyH_ready (rs := [11]) (by kernel_rfl) (by simp) ?_
        refine AllReadyH.cons rfl (fun KK hKK => ?_) AllReadyH.nil
        obtain ⟨V8, hV8⟩ : ∃ qq, qq = V7.setRow GY (cvrow y.third y.first y.party (.slice B1 y.ticket.length d1) (.slice B2 y.box.length d2)) := ⟨_, rfl⟩
        have nGY8 : CvRow V8 GY y.third y.first y.party (.slice B1 y.ticket.length d1) (.slice B2 y.box.length d2) := by rw [hV8]; exact Whole.setRow zGY7 _
        have hb8 : Below wr.heap.size wr V8 := by rw [hV8]; exact below_setRow hb7 pGY _
        have nGX8 := Whole.setRow_far nGX7 (by omega : GX ≠ GY) (cvrow y.third y.first y.party (.slice B1 y.ticket.length d1) (.slice B2 y.box.length d2))
        rw [← hV8] at nGX8
        rw [if_pos (by kernel_rfl)]
        refine wp_store_row 59 _ _ rfl (GY) (cvrow y.third y.first y.party (.slice B1 y.ticket.length d1) (.slice B2 y.box.length d2)) rfl rfl 59 _ zGY7 (by rw [cavSize]; rfl) (by rfl) (by simp [Value.oneCell']) ?_
        rw [← hV8]
        clear hV8
        refine hKK.out _ _ (HCC.out _ hb8) (fun hHeld => ?_)
        clear hKK KK
        (try simp only [sq])
        refine wpAnyH_done (by kernel_rfl) ?_ _
        go_wp2_with fail
        go_meet
        exact ⟨GX, GY, rfl, rfl, nGX8, nGY8, hb8⟩
    case rest =>
      obtain ⟨GX, GY, rfl, rfl, hx, hy, hbc⟩ := hcut
      have hswc : wr.heap.size ≤ wc.heap.size := hbc.size
      obtain ⟨x0, x7, x8, x9⟩ := CvRow.cells hx
      obtain ⟨y0, y7, y8, y9⟩ := CvRow.cells hy
      have HX := Lib.hid hx
      have HY := Lib.hid hy
      have HG := Lib.hid (HBW.out.trans (hbc.mono hswr))
      have hat := HAT.out.below hbc (Nat.le_refl _)
      have hab := HAB.out.below hbc (Nat.le_refl _)
      have hbt := HBT.out.below hbc (Nat.le_refl _)
      have hbb := HBB.out.below hbc (Nat.le_refl _)
      have hGX := hx.lt
      have hGY := hy.lt
      have hl := HWF.out
      obtain ⟨⟨-, -, hl1, hl2⟩, ⟨-, -, hl3, hl4⟩⟩ := hl
      have kg := fun u v W => guard_prdn u v x.first y.first W
      have kq := fun W => neq_prds x.first y.first W
      have HAT2 := Lib.hid hat
      have HAB2 := Lib.hid hab
      have HBT2 := Lib.hid hbt
      have HBB2 := Lib.hid hbb
      clear hx hy hbc hat hab hbt hbb
      obtain ⟨xth, hxth⟩ : ∃ b, b = x.third := ⟨_, rfl⟩
      obtain ⟨yth, hyth⟩ : ∃ b, b = y.third := ⟨_, rfl⟩
      rw [← hxth] at x0
      rw [← hyth] at y0
      have HTH := Lib.hid (And.intro hxth hyth)
      clear hxth hyth
      by_cases hth : xth = yth
      case neg =>
        have hRR : R = false := by
          rw [HR.out]
          exact decide_eq_false (take_ne HXY.out.1 HXY.out.2 fun e => hth (by rw [HTH.out.1, HTH.out.2, e]))
        subst hRR
        have kth : (xth != yth) = true := by simpa using hth
        clear hth kq kg
        cases xth <;> cases yth <;> first | (exact absurd kth (by decide)) | skip
        all_goals
          clear kth
          go_wp2_with fail
          go_ret
          exact ⟨rfl, HG.out⟩
      subst hth
      by_cases hfi : x.first = y.first
      case neg =>
        have hRR : R = false := by
          rw [HR.out]
          exact decide_eq_false (take_ne HXY.out.1 HXY.out.2 fun e => hfi (by rw [e]))
        subst hRR
        rw [decide_eq_false hfi] at kq
        clear hfi
        cases xth
        all_goals
          go_wp2_with (first
            | (with_reducible refine wpList_load_guarded (by with_unfolding_all rfl) _ rfl rfl HX.out ?_)
            | (with_reducible refine wpList_load_guarded (by with_unfolding_all rfl) _ rfl rfl HY.out ?_))
          go_ret
          exact ⟨rfl, HG.out⟩
      rw [decide_eq_true hfi] at kq
      have HFI := Lib.hid hfi
      clear hfi
      by_cases hpa : x.party = y.party
      case neg =>
        have hRR : R = false := by
          rw [HR.out]
          exact decide_eq_false (take_ne HXY.out.1 HXY.out.2 fun e => hpa (by rw [e]))
        subst hRR
        cases xth
        all_goals
          go_wp2_with (first
            | (with_reducible refine wpList_load_guarded (by with_unfolding_all rfl) _ rfl rfl HX.out ?_)
            | (with_reducible refine wpList_load_guarded (by with_unfolding_all rfl) _ rfl rfl HY.out ?_))
          go_ret
          exact ⟨rfl, HG.out⟩
      have HPA := Lib.hid hpa
      rw [hpa] at x7
      clear hpa
      by_cases hti : x.ticket = y.ticket
      case neg =>
        have hRR : R = false := by
          rw [HR.out]
          exact decide_eq_false (take_ne HXY.out.1 HXY.out.2 fun e => hti (by rw [e]))
        subst hRR
        have hcl := same_ (.slice A1 x.ticket.length c1) (.slice B1 y.ticket.length d1) x.ticket y.ticket _ _ wc HAT2.out HBT2.out (by omega) (by omega)
        rw [decide_eq_false hti] at hcl
        clear hti
        cases xth
        all_goals
          go_wp2_with (first
            | (with_reducible refine wpList_load_guarded (by with_unfolding_all rfl) _ rfl rfl HX.out ?_)
            | (with_reducible refine wpList_load_guarded (by with_unfolding_all rfl) _ rfl rfl HY.out ?_))
          refine hcl.mono ?_
          rintro e w1 ⟨rfl, hb1⟩
          have HG1 := Lib.hid (HG.out.trans (hb1.mono HG.out.size))
          clear hb1 hcl
          go_wp2_with fail
          go_ret
          exact ⟨rfl, HG1.out⟩
      have hcl := same_ (.slice A1 x.ticket.length c1) (.slice B1 y.ticket.length d1) x.ticket y.ticket _ _ wc HAT2.out HBT2.out (by omega) (by omega)
      rw [decide_eq_true hti] at hcl
      have HTI := Lib.hid hti
      clear hti
      by_cases hbx : x.box = y.box
      case neg =>
        have hRR : R = false := by
          rw [HR.out]
          exact decide_eq_false (take_ne HXY.out.1 HXY.out.2 fun e => hbx (by rw [e]))
        subst hRR
        cases xth
        all_goals
          go_wp2_with (first
            | (with_reducible refine wpList_load_guarded (by with_unfolding_all rfl) _ rfl rfl HX.out ?_)
            | (with_reducible refine wpList_load_guarded (by with_unfolding_all rfl) _ rfl rfl HY.out ?_))
          refine hcl.mono ?_
          rintro e w1 ⟨rfl, hb1⟩
          clear hcl
          have hcl := same_ (.slice A2 x.box.length c2) (.slice B2 y.box.length d2) x.box y.box _ _ w1 (HAB2.out.below hb1 (Nat.le_refl _)) (HBB2.out.below hb1 (Nat.le_refl _)) (by omega) (by omega)
          rw [decide_eq_false hbx] at hcl
          obtain ⟨x0, x7, x8, x9⟩ := CvRow.cells (Whole.below HX.out hb1 hGX)
          obtain ⟨y0, y7, y8, y9⟩ := CvRow.cells (Whole.below HY.out hb1 hGY)
          have HG1 := Lib.hid (HG.out.trans (hb1.mono HG.out.size))
          clear hb1 x0 y0 x7 y7
          go_wp2_with fail
          refine hcl.mono ?_
          rintro e w2 ⟨rfl, hb2⟩
          have HG2 := Lib.hid (HG1.out.trans (hb2.mono HG1.out.size))
          clear hb2 hcl
          go_wp2_with fail
          go_ret
          exact ⟨rfl, HG2.out⟩
      have hxy : x = y := by
        have h1 : x.third = y.third := by rw [← HTH.out.1, ← HTH.out.2]
        have h2 := HFI.out
        have h3 := HPA.out
        have h4 := HTI.out
        obtain ⟨_, _, _, _, _⟩ := x
        obtain ⟨_, _, _, _, _⟩ := y
        simp only [Cav.mk.injEq]
        exact ⟨h1, h2, h3, h4, hbx⟩
      have htk : la.take (j + 1) = lb.take (j + 1) := by
        rw [List.take_add_one, List.take_add_one, HXY.out.1, HXY.out.2, HTK.out, hxy]
      have HTK1 := Lib.hid htk
      have HBX := Lib.hid hbx
      clear hxy htk hbx
      cases xth
      all_goals
        go_wp2_with (first
          | (with_reducible refine wpList_load_guarded (by with_unfolding_all rfl) _ rfl rfl HX.out ?_)
          | (with_reducible refine wpList_load_guarded (by with_unfolding_all rfl) _ rfl rfl HY.out ?_))
        refine hcl.mono ?_
        rintro e w1 ⟨rfl, hb1⟩
        clear hcl
        have hcl := same_ (.slice A2 x.box.length c2) (.slice B2 y.box.length d2) x.box y.box _ _ w1 (HAB2.out.below hb1 (Nat.le_refl _)) (HBB2.out.below hb1 (Nat.le_refl _)) (by omega) (by omega)
        rw [decide_eq_true HBX.out] at hcl
        obtain ⟨x0, x7, x8, x9⟩ := CvRow.cells (Whole.below HX.out hb1 hGX)
        obtain ⟨y0, y7, y8, y9⟩ := CvRow.cells (Whole.below HY.out hb1 hGY)
        have HG1 := Lib.hid (HG.out.trans (hb1.mono HG.out.size))
        clear hb1 x0 y0 x7 y7
        go_wp2_with fail
        refine hcl.mono ?_
        rintro e w2 ⟨rfl, hb2⟩
        have HG2 := Lib.hid (HG1.out.trans (hb2.mono HG1.out.size))
        clear hb2 hcl
        go_wp2_with fail
        go_roundw
        case rel => exact ⟨j + 1, by go_num, by omega, HTK1.out, HG2.out⟩
        case measure => simp [intOf]; omega
end Go.Proofs.YtiikhjifjdpgdaaDoor
