/-
  KDpp
  KDcc
  DAgeLaw
-/
import Derived.Deep.RegionHeld3
import Derived.Deep.CutBlock
import Derived.Deep.DeepCutAuto
import Derived.Test.YteekdhcffiaaaaaPk12
import Derived.Test.YteekdhcffiaaaaaKSq
import Derived.Test.YteekdhcffiaaaaaPk10
import Derived.Test.YteekdhcffiaaaaaPk9
import Derived.Test.YteekdhcffiaaaaaPk11
import Derived.Test.YteekdhcffiaaaaaPk15
import Derived.Test.YteekdhcffiaaaaaPk17
namespace Go.Proofs.Yteekdhcffiaaaaa
open Go Go.RowKit Sh Leaf

theorem Whole.cell_at {w : World} {g : Nat} {e : TypeId} {cs : Array Value} {j : Nat} {v : Value} (h : Whole w g e cs) (hv : cs[j]? = some v) : w.cell? ⟨g, j, none⟩ = some v := by rw [Whole.cell h]; exact hv
theorem own_below2p {e : TypeId} {n base : Nat} {w w' : World} {v : Value} {l : List Psn} (h : OwnS pnl n e w base v l) (hb : Below w.heap.size w w') : OwnS pnl n e w' base v l := by
  refine ⟨h.1, ?_⟩
  rcases h.2 with h2 | ⟨b, cap, cur, hv, hbb, hh, r⟩
  · exact .inl h2
  · exact .inr ⟨b, cap, cur, hv, hbb, (hb.block b (Whole.lt hh)).trans hh, r⟩
abbrev nms : Array Value := #[.string { data := #[97, 110, 110] }, .string { data := #[98, 111, 98] }, .string { data := #[99, 105, 100] }, .string { data := #[122, 111, 101] }, .string { data := #[97] }]
theorem nms_at (j : Nat) (h : j < 5) : ∃ s : List B8, nms[j]? = some (.string (sof s)) ∧ nmok s := by
  rcases (by omega : j = 0 ∨ j = 1 ∨ j = 2 ∨ j = 3 ∨ j = 4) with rfl | rfl | rfl | rfl | rfl
  · exact ⟨[97, 110, 110], by unfold sof; rfl, by decide⟩
  · exact ⟨[98, 111, 98], by unfold sof; rfl, by decide⟩
  · exact ⟨[99, 105, 100], by unfold sof; rfl, by decide⟩
  · exact ⟨[122, 111, 101], by unfold sof; rfl, by decide⟩
  · exact ⟨[97], by unfold sof; rfl, by decide⟩
set_option linter.unusedSimpArgs false in
set_option linter.unusedVariables false in
set_option maxRecDepth 100000 in
set_option maxHeartbeats 2000000 in
theorem dpersl (g : Nat) (w : World) (h : Deck g w) :
    Calls Try.prog 15 #[.pointer (some ⟨g, 0, none⟩)] w fun e w' => (∃ (A : Option Addr) (c : Nat) (l : List Psn), e = .returned (.slice A l.length c) ∧ l.length ≤ 5 ∧ Psns w' (fun b => w.heap.size ≤ b) A c l) ∧ Turn g w w' := by
  have hgw := h.lt
  obtain ⟨p, hp⟩ : ∃ p, p = w.alloc (.cells nms 9) := ⟨_, rfl⟩
  have hnm : Whole p w.heap.size 9 nms := by rw [hp]; exact Whole.here _ _ _
  have hbp : Below w.heap.size w p := by rw [hp]; exact (Below.refl _ _).alloc (Nat.le_refl _) _
  have htp : Turn g w p := h.here hbp
  have hps := hnm.lt
  go_enter Try.func15, Try.ntmps15
  go_upto_region 3 with fail
  rw [← hp]
  clear hp
  go_wp2_with fail
  go_loopw [3, 5] (fun vl vi wr => ∃ (j : Nat) (l : List Psn), vi = .int .i64 j ∧ j ≤ 5 ∧ l.length = j ∧ (∀ x ∈ l, pnok x) ∧ OwnS pnl 2 23 wr (w.heap.size + 1) vl l ∧ Turn g w wr ∧ Whole wr w.heap.size 9 nms) (fun _ v _ => 5 - (intOf v).toNat)
  case atStart => exact ⟨0, [], rfl, by omega, rfl, (fun x hx => by cases hx), owns_nil _ _, htp, hnm⟩
  case round =>
    obtain ⟨j, l, rfl, hj, hl, hlp, hown, ht, hn⟩ := hrel
    have HLP := Lib.hid hlp
    clear hlp
    have hsz := ht.2.1.size
    clear hbp htp hnm hps
    by_cases hj5 : j < 5
    · have hj5' : (j : Int) < 5 := by omega
      have hjw : IntKind.i64.wrap ((j : Int) + 1) = ((j + 1 : Nat) : Int) := by rw [IntKind.wrap_i64]; omega
      have HO := Lib.hid hown
      have HN := Lib.hid hn
      have HT := Lib.hid ht
      clear hown hn
      go_wp2_with fail
      refine (dnext 5 (by omega) (by omega) g _ HT.out.1).mono ?_
      rintro e w2 ⟨i, hi, rfl, ht2⟩
      have ho2 := own_oth HO.out ht2.2.2 (by omega)
      have hn2 := ht2.2.2.oth _ _ _ (by omega) HN.out
      have h2 := HT.out.trans ht2
      have hs2 := ht2.2.1.size
      by_cases hji : j < 1 + i
      · have hji' : (j : Int) < 1 + (i : Int) := by omega
        have hwi : IntKind.i64.wrap (1 + (i : Int)) = 1 + (i : Int) := by rw [IntKind.wrap_i64]; omega
        go_upto_region 6 with fail
        obtain ⟨s, hjs, hsn⟩ := nms_at j hj5
        have hdd : Below w2.heap.size w2 w2.drew := (Below.refl _ _).drew
        have hl2 := Whole.lt hn2
        have hnd := Whole.below hn2 hdd hl2
        have hcd := Whole.cell_at hnd hjs
        have htd : Turn g w w2.drew := Turn.below h2 hdd (by omega) (by omega)
        have hod := own_below2p ho2 hdd
        have hsd := hdd.size
        clear hn2 ho2 ht2 h2 HO HN HT hdd
        refine wp_region_held_drew (S := fun W : World => W.cell? ⟨w.heap.size, j, none⟩ = some (.string (sof s))) (by kernel_rfl) (hcd) (fun hHeld => ?_)
        generalize w2.drew = W0 at *
        apply wpT (i := 0) rfl (by kernel_rfl)
        case hQ => exact fun _ _ _ h => h
        case hS => exact hHeld
        case hy => (refine Or.inl ⟨by rfl, ?_⟩; intro w hSw; (try go_split_ands); go_simp; (try with_reducible rfl))
        (try simp only [sq])
        apply wpT (i := 1) rfl (by kernel_rfl)
        case hQ => exact fun _ _ _ h => h
        case hS => exact hHeld
        case hy => (refine Or.inl ⟨by rfl, ?_⟩; intro w hSw; (try go_split_ands); go_simp; (try with_reducible rfl))
        (try simp only [sq])
        apply wpT (i := 2) rfl (by kernel_rfl)
        case hQ => exact fun _ _ _ h => h
        case hS => exact hHeld
        case hy => (refine Or.inl ⟨by rfl, ?_⟩; intro w hSw; (try go_split_ands); go_simp; (try with_reducible rfl))
        (try simp only [sq])
        apply wpT (i := 3) rfl (by kernel_rfl)
        case hQ => exact fun _ _ _ h => h
        case hS => exact hHeld
        case hy => (refine Or.inl ⟨by rfl, ?_⟩; intro w hSw; (try go_split_ands); go_simp; (try with_reducible rfl))
        (try simp only [sq])
        apply wpT (i := 4) rfl (by kernel_rfl)
        case hQ => exact fun _ _ _ h => h
        case hS => exact hHeld
        case hy => (refine Or.inl ⟨by rfl, ?_⟩; intro w hSw; (try go_split_ands); go_simp; (try with_reducible rfl))
        (try simp only [sq])
        apply wpT (i := 5) rfl (by kernel_rfl)
        case hQ => exact fun _ _ _ h => h
        case hS => exact hHeld
        case hy => (refine Or.inl ⟨by rfl, ?_⟩; intro w hSw; (try go_split_ands); go_simp; (try with_reducible rfl))
        (try simp only [sq])
        refine wpAnyH_ready (rs := [6]) (by kernel_rfl) (by simp) ?_
        refine AllReadyH.cons rfl (fun KK hKK => ?_) AllReadyH.nil
        (try simp only [sq])
        go_simp
        go_at_call 7
        refine (dnext 100 (by omega) (by omega) g _ htd.1).mono ?_
        rintro e w3 ⟨q, hq, rfl, ht3⟩
        have h3 := htd.trans ht3
        have ho3 := own_oth hod ht3.2.2 (by omega)
        have hn3 := ht3.2.2.oth _ _ _ (by omega) hnd
        have hl3 := Whole.lt hn3
        have hw7 : IntKind.i64.wrap (-(q : Int)) = -(q : Int) := by rw [IntKind.wrap_i64]; omega
        have hw8 : IntKind.i64.wrap (-(q : Int) * 365) = -(q : Int) * 365 := by rw [IntKind.wrap_i64]; omega
        have hw9 : IntKind.i64.wrap (-(q : Int) * 365 * 1440) = -(q : Int) * 365 * 1440 := by rw [IntKind.wrap_i64]; omega
        have hs3 := h3.2.1.size
        have hpk : pnok ⟨s, -(q : Int) * 365 * 1440⟩ := ⟨hsn, by show -67108864 ≤ -(q : Int) * 365 * 1440; omega, by show -(q : Int) * 365 * 1440 ≤ 0; omega⟩
        have hc3 := (Whole.cell_at hn3 hjs)
        refine hKK.out _ _ (hc3) (fun hHeld => ?_)
        clear hKK KK
        (try simp only [sq])
        apply wpT (i := 7) rfl (by kernel_rfl)
        case hQ => exact fun _ _ _ h => h
        case hS => exact hHeld
        case hy => (refine Or.inl ⟨by rfl, ?_⟩; intro w hSw; (try go_split_ands); go_simp; (try with_reducible rfl))
        (try simp only [sq])
        apply wpT (i := 8) rfl (by kernel_rfl)
        case hQ => exact fun _ _ _ h => h
        case hS => exact hHeld
        case hy => (refine Or.inl ⟨by rfl, ?_⟩; intro w hSw; (try go_split_ands); go_simp; (try with_reducible rfl))
        (try simp only [sq])
        apply wpT (i := 9) rfl (by kernel_rfl)
        case hQ => exact fun _ _ _ h => h
        case hS => exact hHeld
        case hy => (refine Or.inl ⟨by rfl, ?_⟩; intro w hSw; (try go_split_ands); go_simp; (try with_reducible rfl))
        (try simp only [sq])
        apply wpT (i := 10) rfl (by kernel_rfl)
        case hQ => exact fun _ _ _ h => h
        case hS => exact hHeld
        case hy => exact yieldsIf_build_psn (by rfl) _ _ rfl rfl rfl
        (try simp only [sq])
        refine wpAnyH_ready (rs := [11]) (by kernel_rfl) (by simp) ?_
        refine AllReadyH.cons rfl (fun KK hKK => ?_) AllReadyH.nil
        refine step_buildSlice_psn (by rfl) _ (by rfl) (X := ⟨s, -(q : Int) * 365 * 1440⟩) (by rfl) ?_
        obtain ⟨w4, hw4⟩ : ∃ x, x = w3.alloc (.cells (pnl ⟨s, -(q : Int) * 365 * 1440⟩).toArray 23) := ⟨_, rfl⟩
        have hb4 : Below w3.heap.size w3 w4 := by rw [hw4]; exact (Below.refl _ _).alloc (Nat.le_refl _) _
        have hone : Whole w4 w3.heap.size 23 (pnl ⟨s, -(q : Int) * 365 * 1440⟩).toArray := by rw [hw4]; exact Whole.here _ _ _
        have ho4 := own_below2p ho3 hb4
        have hn4 := Whole.below hn3 hb4 (Whole.lt hn3)
        rw [← hw4]
        clear hw4
        have hs4 := hb4.size
        refine hKK.out _ _ ((Whole.cell_at hn4 hjs)) (fun hHeld => ?_)
        clear hKK KK
        (try simp only [sq])
        refine wpAnyH_ready (rs := [12]) (by kernel_rfl) (by simp) ?_
        refine AllReadyH.cons rfl (fun KK hKK => ?_) AllReadyH.nil
        refine step_append_seq (ok := pnok) (by rfl) _ _ 29 23 zpsn 24 (by rfl) Try.underlying29 psnInfo zpsn_size (by omega) (by omega) pnl_len pnl_one (w.heap.size + 1) _ l (by rfl) ho4 _ (some ⟨w3.heap.size, 0, none⟩) 1 1 [⟨s, -(q : Int) * 365 * 1440⟩] rfl (by rfl) (seq_one hone rfl hpk) (by simp; omega) (by omega) ?_
        intro v5 w5 ho5 hb5 _
        have hn5 := Whole.below hn4 hb5 (by omega)
        have ht5 := Turn.below h3 (Below.trans (Below.mono hb4 (by omega)) hb5) (by omega) (by omega)
        refine hKK.out _ _ ((Whole.cell_at hn5 hjs)) (fun hHeld => ?_)
        clear hKK KK
        (try simp only [sq])
        refine wpAnyH_ready (rs := [13]) (by kernel_rfl) (by simp) ?_
        refine AllReadyH.cons rfl (fun KK hKK => ?_) AllReadyH.nil
        (try simp only [sq])
        go_simp
        refine hKK.out _ _ ((Whole.cell_at hn5 hjs)) (fun hHeld => ?_)
        clear hKK KK
        (try simp only [sq])
        refine wpAnyH_done (by kernel_rfl) ?_ _
        go_wp2_with fail
        go_roundw
        case rel => exact ⟨j + 1, l ++ [⟨s, -(q : Int) * 365 * 1440⟩], by go_num, by omega, by simp; omega, (fun x hx => by rcases List.mem_append.1 hx with h | h; exact HLP.out x h; rw [List.mem_singleton.1 h]; exact hpk), ho5, ht5, hn5⟩
        case measure => simp [intOf]; omega
      · have hji' : ¬ (j : Int) < 1 + (i : Int) := by omega
        have hwi : IntKind.i64.wrap (1 + (i : Int)) = 1 + (i : Int) := by rw [IntKind.wrap_i64]; omega
        obtain ⟨A, c, rfl, hsq⟩ := OwnS.seq (ok := pnok) ho2 HLP.out
        have hll : l.length ≤ 5 := by omega
        have HFS := Lib.hid hsq
        clear hsq
        have HT2 := Lib.hid h2
        clear ho2 hn2 ht2 h2 HO HN HT
        go_wp2_with fail
        go_ret
        exact ⟨⟨_, _, _, (by rw [hl]; rfl), hll, Seq.mono HFS.out fun b _ h => Nat.le_of_succ_le h⟩, HT2.out⟩
    · have hj5' : ¬ (j : Int) < 5 := by omega
      obtain ⟨A, c, rfl, hsq⟩ := OwnS.seq (ok := pnok) hown HLP.out
      have hll : l.length ≤ 5 := by omega
      have HFS := Lib.hid hsq
      clear hsq
      have HT := Lib.hid ht
      clear hown hn ht
      go_wp2_with fail
      go_ret
      exact ⟨⟨_, _, _, (by rw [hl]; rfl), hll, Seq.mono HFS.out fun b _ h => Nat.le_of_succ_le h⟩, HT.out⟩
end Go.Proofs.Yteekdhcffiaaaaa
namespace Go.Proofs.Yteekdhcffiaaaaa
open Go Go.RowKit Sh Leaf

set_option maxRecDepth 100000 in
theorem built_con {T : List B8} (z : Int) (A : Option Addr) (n c : Nat) (hT : T.length = 32) : Try.prog.built 31 [(0, .int .i64 z), (1, .agg (T.map byt).toArray), (2, .slice A n c)] = some (cnl z T (.slice A n c)).toArray := by
  unfold cnl
  rw [p32_eq hT]
  obtain ⟨a0, a1, a2, a3, a4, a5, a6, a7, a8, a9, a10, a11, a12, a13, a14, a15, a16, a17, a18, a19, a20, a21, a22, a23, a24, a25, a26, a27, a28, a29, a30, a31, rfl⟩ := ex32 T hT
  simp only [List.map_cons, List.map_nil, List.cons_append, List.nil_append]
  kernel_rfl
theorem yieldsIf_build_con {ops : Array Oper} {S : World → Prop} {op : Oper} {a : Act} (hw : Region.wanted op (yielded ops a.tmps) = true) (x y z : Operand) (ho : op.op = .build 31 #[(0, x), (1, y), (2, z)])
    {n : Int} {T : List B8} {A : Option Addr} {l c : Nat} (hT : T.length = 32) (hx : a.eval x = .int .i64 n) (hy : a.eval y = .agg (T.map byt).toArray) (hz : a.eval z = .slice A l c) : YieldsIf Try.prog ops S op (.agg (cnl n T (.slice A l c)).toArray) a := by
  refine yieldsIf_build_as hw 31 _ ho _ ?_
  have e1 : (#[(0, x), (1, y), (2, z)].map fun (i, x) => (i, a.eval x)).toList = [(0, .int .i64 n), (1, .agg (T.map byt).toArray), (2, .slice A l c)] := by simp [hx, hy, hz]
  rw [e1, built_con n A l c hT]
set_option linter.unusedSimpArgs false in
set_option linter.unusedVariables false in
set_option maxRecDepth 100000 in
set_option maxHeartbeats 4000000 in
theorem dconl {K : List B8} (hK : K.length = 32) (g : Nat) (w : World) (h : Deck g w) :
    Calls Try.prog 5 #[.pointer (some ⟨g, 0, none⟩), .agg (K.map byt).toArray] w fun e w' => (∃ (z : Int) (A : Option Addr) (c : Nat) (l : List Psn), 0 ≤ z ∧ z ≤ 7 ∧ e = .returned (.agg (cnl z K (.slice A l.length c)).toArray) ∧ l.length ≤ 5 ∧ Psns w' (fun b => w.heap.size ≤ b) A c l) ∧ Turn g w w' := by
  have hgw := h.lt
  obtain ⟨p, hp⟩ : ∃ p, p = (w.alloc (.cells (K.map byt).toArray 28)).alloc (.cells zbk 31) := ⟨_, rfl⟩
  have hk : TGRow p w.heap.size K := by rw [hp]; exact (Whole.here _ _ _).alloc _
  have hz : Whole p (w.heap.size + 1) 31 zbk := by rw [hp]; exact Whole.at_ _ _ _ _ (by simp)
  have hbp : Below w.heap.size w p := by rw [hp]; exact ((Below.refl _ _).alloc (Nat.le_refl _) _).alloc (by simp) _
  have htp : Turn g w p := h.here hbp
  have hps := hz.lt
  have hdd : Below p.heap.size p p.drew := (Below.refl _ _).drew
  have hkd : TGRow p.drew w.heap.size K := Whole.below hk hdd hk.lt
  have hzd := Whole.below hz hdd hps
  have htd : Turn g w p.drew := Turn.below htp hdd (by omega) (by omega)
  have hst : (Try.prog.info? 28).map (·.size) = some (K.map byt).length := by rw [List.length_map, hK]; exact tagSize
  go_enter Try.func5, Try.ntmps5
  go_upto_region 1 with fail
  rw [zbk_lit, ← hp]
  clear hp hk hz hbp htp hdd
  refine wp_region_held_drew (S := fun W : World => W.rangeAt w.heap.size 0 (K.map byt)) (by kernel_rfl) (TGRow.range hkd) (fun hHeld => ?_)
  generalize p.drew = W0 at *
  apply wpT (i := 0) rfl (by kernel_rfl)
  case hQ => exact fun _ _ _ h => h
  case hS => exact hHeld
  case hy => (refine Or.inl ⟨by rfl, ?_⟩; intro w hSw; (try go_split_ands); go_simp; (try with_reducible rfl))
  (try simp only [sq])
  apply wpT (i := 2) rfl (by kernel_rfl)
  case hQ => exact fun _ _ _ h => h
  case hS => exact hHeld
  case hy => exact yieldsIf_load_mid (by rfl) 28 _ rfl w.heap.size 0 rfl (K.map byt) _ (fun w hS => hS) Try.underlying28 rfl hst
  (try simp only [sq])
  apply wpT (i := 3) rfl (by kernel_rfl)
  case hQ => exact fun _ _ _ h => h
  case hS => exact hHeld
  case hy => (refine Or.inl ⟨by rfl, ?_⟩; intro w hSw; (try go_split_ands); go_simp; (try with_reducible rfl))
  (try simp only [sq])
  refine wpAnyH_ready (rs := [1]) (by kernel_rfl) (by simp) ?_
  refine AllReadyH.cons rfl (fun KK hKK => ?_) AllReadyH.nil
  (try simp only [sq])
  go_simp
  go_at_call 7
  refine (dnext 8 (by omega) (by omega) g _ htd.1).mono ?_
  rintro e w3 ⟨q, hq, rfl, ht3⟩
  have h3 := htd.trans ht3
  have hk3 : TGRow w3 w.heap.size K := ht3.2.2.oth _ _ _ (by omega) hkd
  have hz3 : Whole w3 (w.heap.size + 1) 31 zbk := ht3.2.2.oth _ _ _ (by omega) hzd
  refine hKK.out _ _ (TGRow.range hk3) (fun hHeld => ?_)
  clear hKK KK
  (try simp only [sq])
  refine wpAnyH_ready (rs := [4]) (by kernel_rfl) (by simp) ?_
  refine AllReadyH.cons rfl (fun KK hKK => ?_) AllReadyH.nil
  (try simp only [sq])
  go_simp
  go_at_call 15
  refine (dpersl g _ h3.1).mono ?_
  rintro e w4 ⟨⟨A, c, l, rfl, hll, hpl⟩, ht4⟩
  have h4 := h3.trans ht4
  have hk4 : TGRow w4 w.heap.size K := ht4.2.2.oth _ _ _ (by omega) hk3
  have hz4 : Whole w4 (w.heap.size + 1) 31 zbk := ht4.2.2.oth _ _ _ (by omega) hz3
  refine hKK.out _ _ (TGRow.range hk4) (fun hHeld => ?_)
  clear hKK KK
  (try simp only [sq])
  apply wpT (i := 5) rfl (by kernel_rfl)
  case hQ => exact fun _ _ _ h => h
  case hS => exact hHeld
  case hy => exact yieldsIf_build_con (by rfl) _ _ _ rfl hK rfl rfl rfl
  (try simp only [sq])
  refine wpAnyH_ready (rs := [6]) (by kernel_rfl) (by simp) ?_
  refine AllReadyH.cons rfl (fun KK hKK => ?_) AllReadyH.nil
  obtain ⟨w5, hw5⟩ : ∃ x, x = w4.setRow (w.heap.size + 1) (cnl q K (.slice A l.length c)).toArray := ⟨_, rfl⟩
  have hz5 : Whole w5 (w.heap.size + 1) 31 (cnl q K (.slice A l.length c)).toArray := by rw [hw5]; exact Whole.setRow hz4 _
  have hk5 : TGRow w5 w.heap.size K := by rw [hw5]; exact Whole.setRow_far hk4 (by omega) _
  have hs3 := hz3.lt
  have HPL : Hid (Psns w5 (fun b => w.heap.size ≤ b) A c l) := Lib.hid (by rw [hw5]; exact Seq.mono (Seq.keep hpl (by simp) (fun b _ hq => setRow_other _ _ _ _ (by have h : w3.heap.size ≤ b := hq; omega))) (fun b _ h => by have h : w3.heap.size ≤ b := h; omega))
  clear hpl
  have h5 : Turn g w w5 := by rw [hw5]; exact Turn.below h4 (below_setRow (Below.refl _ _) (Nat.le_refl _) _) (by omega) (by omega)
  rw [if_pos (by kernel_rfl)]
  refine wp_store_row 31 _ _ rfl (w.heap.size + 1) _ rfl rfl 31 _ hz4 (by rw [cnSize, cnl_size]) (by rw [zbk_size, cnl_size]) (cnl_one _ _ _ _ _) ?_
  rw [← hw5]
  clear hw5
  refine hKK.out _ _ (TGRow.range hk5) (fun hHeld => ?_)
  clear hKK KK
  (try simp only [sq])
  refine wpAnyH_done (by kernel_rfl) ?_ _
  go_wp2_with fail
  refine bodyPost_ret (results_cell_row Try.results5 _ _ (w.heap.size + 1) _ _ _ _ rfl hz5 Try.underlying31 rfl (by rw [cnSize, cnl_size])) rfl ?_
  exact ⟨⟨q, A, c, l, by omega, by omega, rfl, hll, HPL.out⟩, h5⟩
end Go.Proofs.Yteekdhcffiaaaaa
namespace Go.Proofs.Yteekdhcffiaaaaa
open Go Go.RowKit Sh Leaf

theorem seq_turn {w w' : World} {g : Nat} {A : Option Addr} {c : Nat} {l : List Psn} (h : Psns w (fun b => b ≠ g) A c l) (ht : Turn g w w') : Psns w' (fun b => b ≠ g) A c l := by
  obtain ⟨h1, h2, h3, h4, h5⟩ := h
  refine ⟨h1, h2, h3, h4, fun hl => ?_⟩
  obtain ⟨b, o, e, hq, hs, hc⟩ := h5 hl
  exact ⟨b, o, e, hq, by have := ht.2.1.size; omega, fun i v hv => ht.2.2.cell (a := ⟨b, o + i, none⟩) hq (hc i v hv)⟩
theorem page0 (z m : Int) (w : World) : Calls Try.prog 12 #[.agg #[.string { data := #[] }, .int .i64 z], .int .i64 m] w fun e w' => e = .returned (.int .i64 (age z m)) ∧ Below w.heap.size w w' := by
  have h := page [] z m w
  rw [sof_nil0] at h
  exact h
theorem rage0 (z m : Int) (w : World) : Calls Try.prog 13 #[.agg #[.string { data := #[] }, .int .i64 z], .int .i64 m] w fun e w' => e = .returned (.int .i64 (age z m)) ∧ Below w.heap.size w w' := by
  have h := rage [] z m w
  rw [sof_nil0] at h
  exact h
theorem age_1 : age 0 525600 = 1 := by decide
theorem age_0 : age 0 525599 = 0 := by decide
theorem sof_a : sof [97#8] = { data := #[97] } := by unfold sof; rfl
set_option linter.unusedSimpArgs false in
set_option linter.unusedVariables false in
set_option maxRecDepth 100000 in
theorem dawk (w : World) : Calls Try.prog 14 #[] w fun e w' => e = .returned (.bool true) ∧ Below w.heap.size w w' := by
  have h1 := page [97#8] 0 525600 w
  rw [sof_a, age_1] at h1
  have h2 := fun W => page [97#8] 0 525599 W
  rw [sof_a, age_0] at h2
  have H2 := Lib.hid h2
  clear h2
  go_enter Try.func14, Try.ntmps14
  go_wp2_with fail
  refine h1.mono ?_
  rintro e w1 ⟨rfl, hb1⟩
  have HB1 := Lib.hid hb1
  clear h1 hb1
  have h2 := H2.out w1
  go_wp2_with fail
  refine h2.mono ?_
  rintro e w2 ⟨rfl, hb2⟩
  have HB2 := Lib.hid (HB1.out.trans (hb2.mono HB1.out.size))
  clear h2 hb2 H2 HB1
  go_wp2_with fail
  go_ret
  exact ⟨rfl, HB2.out⟩
set_option linter.unusedSimpArgs false in
set_option linter.unusedVariables false in
set_option maxRecDepth 100000 in
set_option maxHeartbeats 8000000 in
theorem age_law (s0 : List B8) (z0 : Int) (m : Int) (A : Option Addr) (l : List Int) (c : Nat) (n0 : List B8) (hs0 : s0.length ≤ 9223372036854775807) (hz0 : -9223372036854775808 ≤ z0 ∧ z0 ≤ 9223372036854775807) (hm : -9223372036854775808 ≤ m ∧ m ≤ 9223372036854775807) (hn0 : n0.length ≤ 9223372036854775807) (w : World)
    (hI : Ints w (fun b => b < w.heap.size) A c l) :
    Calls Try.prog 3 #[.agg #[.string (sof s0), .int .i64 z0], .int .i64 m, .slice A l.length c, .string (sof n0)] w fun e w' => e = .returned (.bool true) ∧ Below w.heap.size w w' := by
  obtain ⟨N, hN⟩ : ∃ N : Nat, min (n0.length : Int) 50 = (N : Int) := ⟨min n0.length 50, by omega⟩
  have hN3 : N ≤ 50 := by omega
  have hNl : N ≤ n0.length := by omega
  have hsz0 := sof_size n0
  have ht := fun W => to_sof n0 (N : Int) N rfl hNl W
  generalize n0.take N = n1 at ht
  obtain ⟨p, hp⟩ : ∃ p, p = w.alloc (.cells #[.string (sof s0), .int .i64 z0] 23) := ⟨_, rfl⟩
  have hr : Whole p w.heap.size 23 #[.string (sof s0), .int .i64 z0] := by rw [hp]; exact Whole.here _ _ _
  have hb : Below w.heap.size w p := by rw [hp]; exact (Below.refl _ _).alloc (Nat.le_refl _) _
  have hcl := dnew A l.length c l p rfl ((hI.below hb).mono (by have := hb.size; omega))
  have hps : w.heap.size < p.heap.size := hr.lt
  have HB := Lib.hid hb
  have HR := Lib.hid hr
  obtain ⟨ln, hln⟩ : ∃ n, n = l.length := ⟨_, rfl⟩
  rw [← hln] at hcl ⊢
  clear hI hb hr hln
  go_enter Try.func3, Try.ntmps3
  go_upto_region 1 with fail
  rw [← hp]
  clear hp
  go_wp2_with fail
  refine hcl.mono ?_
  rintro e w1 ⟨rfl, hd1, hb1⟩
  clear hcl ht hN hN3 hNl hsz0
  have hs1 : p.heap.size < w1.heap.size := hd1.lt
  have J1 := Lib.hid (HB.out.trans (hb1.mono HB.out.size))
  have J2 : Hid (Whole w1 (w.heap.size) 23 #[.string (sof s0), .int .i64 z0]) := Lib.hid (Whole.below HR.out hb1 (Whole.lt HR.out))
  clear HB HR
  have DK := Lib.hid hd1
  clear hd1 hb1
  have hcl := dtag p.heap.size w1 DK.out
  go_wp2_with fail
  refine hcl.mono ?_
  rintro e w2 ⟨⟨K, hlK, rfl⟩, ht⟩
  clear hcl
  have hsw2 : w1.heap.size ≤ w2.heap.size := ht.2.1.size
  have J4 := Lib.hid (J1.out.trans (ht.2.1.mono (by omega)))
  have J5 : Hid (Whole w2 (w.heap.size) 23 #[.string (sof s0), .int .i64 z0]) := Lib.hid (ht.2.2.oth _ _ _ (by omega) J2.out)
  have J6 := Lib.hid ht.1
  clear J1 J2 DK
  clear ht
  have hcl := dconl hlK p.heap.size w2 J6.out
  go_wp2_with fail
  refine hcl.mono ?_
  rintro e w3 ⟨⟨z1, Ap, cp, lp, hz0, hz7, rfl, hl5, hps1⟩, ht⟩
  clear hcl
  have hsw3 : w2.heap.size ≤ w3.heap.size := ht.2.1.size
  have J7 := Lib.hid (J4.out.trans (ht.2.1.mono (by omega)))
  have J8 : Hid (Whole w3 (w.heap.size) 23 #[.string (sof s0), .int .i64 z0]) := Lib.hid (ht.2.2.oth _ _ _ (by omega) J5.out)
  have J9 := Lib.hid ht.1
  clear J4 J5 J6
  clear ht hz0 hz7
  have hp3 : Psns w3 (fun b => b ≠ p.heap.size) Ap cp lp := Seq.mono hps1 fun b _ h => by have h : w2.heap.size ≤ b := h; omega
  have HP3 := Lib.hid hp3
  clear hp3 hps1
  obtain ⟨nl, hnl⟩ : ∃ n, n = lp.length := ⟨_, rfl⟩
  rw [← hnl]
  have HNL := Lib.hid hnl
  clear hnl
  have ks : ∀ z0 : Array Value, Whole (w3.alloc (.cells z0 31)) w3.heap.size 31 z0 := fun _ => Whole.here _ _ _
  go_upto_region 4 with (with_reducible refine wpList_store_con rfl _ _ rfl (g := w3.heap.size) rfl rfl (ks _) rfl (cnl_size _ _ _) (cnl_one _ _ _ _ _) ?_)
  clear ks
  rw [zbk_lit]
  obtain ⟨w4, hq⟩ : ∃ q, q = (w3.alloc (.cells zbk 31)).setRow w3.heap.size (cnl z1 K (.slice Ap nl cp)).toArray := ⟨_, rfl⟩
  rw [← hq]
  have hb4 : Below w3.heap.size w3 w4 := by rw [hq]; exact below_setRow ((Below.refl _ _).alloc (Nat.le_refl _) _) (Nat.le_refl _) _
  have hr4 : Whole w4 w3.heap.size 31 (cnl z1 K (.slice Ap nl cp)).toArray := by rw [hq]; exact Whole.setRow (Whole.here _ _ _) _
  clear hq
  have hs4 : w3.heap.size < w4.heap.size := hr4.lt
  have J10 := Lib.hid (J7.out.trans (hb4.mono J7.out.size))
  have J11 : Hid (Whole w4 (w.heap.size) 23 #[.string (sof s0), .int .i64 z0]) := Lib.hid (Whole.below J8.out hb4 (Whole.lt J8.out))
  have J12 : Hid (Psns w4 (fun b => b ≠ p.heap.size) Ap cp lp) := Lib.hid (Seq.below HP3.out hb4 (Nat.le_refl _))
  have J13 := Lib.hid (Deck.below J9.out hb4 (Deck.lt J9.out))
  clear J7 J8 HP3 J9
  have HCN := Lib.hid hr4
  clear hb4 hr4
  have hcl := dnext 134217731 (by omega) (by omega) p.heap.size w4 J13.out
  go_wp2_with fail
  refine hcl.mono ?_
  rintro e w5 ⟨i, hi, rfl, ht⟩
  clear hcl
  have hsw5 : w4.heap.size ≤ w5.heap.size := ht.2.1.size
  have J14 := Lib.hid (J10.out.trans (ht.2.1.mono (by omega)))
  have J15 : Hid (Whole w5 (w.heap.size) 23 #[.string (sof s0), .int .i64 z0]) := Lib.hid (ht.2.2.oth _ _ _ (by omega) J11.out)
  have J16 : Hid (Whole w5 (w3.heap.size) 31 (cnl z1 K (.slice Ap nl cp)).toArray) := Lib.hid (ht.2.2.oth _ _ _ (by omega) HCN.out)
  have J17 : Hid (Psns w5 (fun b => b ≠ p.heap.size) Ap cp lp) := Lib.hid (seq_turn J12.out ht)
  have J18 := Lib.hid ht.1
  clear J10 J11 HCN J12 J13
  clear ht
  have hi0 : (0 : Int) ≤ (i : Int) := by omega
  have hcl := dminute p.heap.size w5 J18.out
  go_wp2_with fail
  refine hcl.mono ?_
  rintro e w6 ⟨n, hn, rfl, ht⟩
  clear hcl
  have hs6 : w5.heap.size ≤ w6.heap.size := ht.2.1.size
  have J19 := Lib.hid (J14.out.trans (ht.2.1.mono (by omega)))
  have J20 : Hid (Whole w6 (w.heap.size) 23 #[.string (sof s0), .int .i64 z0]) := Lib.hid (ht.2.2.oth _ _ _ (by omega) J15.out)
  have J21 : Hid (Whole w6 (w3.heap.size) 31 (cnl z1 K (.slice Ap nl cp)).toArray) := Lib.hid (ht.2.2.oth _ _ _ (by omega) J16.out)
  have J22 : Hid (Psns w6 (fun b => b ≠ p.heap.size) Ap cp lp) := Lib.hid (seq_turn J17.out ht)
  have J23 := Lib.hid ht.1
  clear J14 J15 J16 J17 J18
  clear ht hn
  go_upto_region 5 with fail
  obtain ⟨w7, hq⟩ : ∃ q, q = w6.alloc (.cells #[.string { data := #[] }, .int .i64 ((i : Int) - 67108864 - 1)] 23) := ⟨_, rfl⟩
  rw [← hq]
  have hbw7 : Below w6.heap.size w6 w7 := by rw [hq]; exact (Below.refl _ _).alloc (Nat.le_refl _) _
  have hrw7 : Whole w7 w6.heap.size 23 #[.string { data := #[] }, .int .i64 ((i : Int) - 67108864 - 1)] := by rw [hq]; exact Whole.here _ _ _
  clear hq
  have hsw7 : w6.heap.size < w7.heap.size := hrw7.lt
  have J24 := Lib.hid (J19.out.trans (hbw7.mono J19.out.size))
  have J25 : Hid (Whole w7 (w.heap.size) 23 #[.string (sof s0), .int .i64 z0]) := Lib.hid (Whole.below J20.out hbw7 (Whole.lt J20.out))
  have J26 : Hid (Whole w7 (w3.heap.size) 31 (cnl z1 K (.slice Ap nl cp)).toArray) := Lib.hid (Whole.below J21.out hbw7 (Whole.lt J21.out))
  have J27 : Hid (Psns w7 (fun b => b ≠ p.heap.size) Ap cp lp) := Lib.hid (Seq.below J22.out hbw7 (Nat.le_refl _))
  have J28 := Lib.hid (Deck.below J23.out hbw7 (Deck.lt J23.out))
  clear J19 J20 J21 J22 J23
  have HX := Lib.hid hrw7
  clear hbw7 hrw7
  obtain ⟨zx, hzx⟩ : ∃ z : Int, z = (i : Int) - 67108864 - 1 := ⟨_, rfl⟩
  rw [← hzx] at HX
  clear hzx hi hi0
  have hcl := dnam p.heap.size w7 J28.out
  go_wp2_with fail
  refine hcl.mono ?_
  rintro e w8 ⟨nk, hnk, rfl, ht⟩
  clear hcl
  have hsw8 : w7.heap.size ≤ w8.heap.size := ht.2.1.size
  have J29 := Lib.hid (J24.out.trans (ht.2.1.mono (by omega)))
  have J30 : Hid (Whole w8 (w.heap.size) 23 #[.string (sof s0), .int .i64 z0]) := Lib.hid (ht.2.2.oth _ _ _ (by omega) J25.out)
  have J31 : Hid (Whole w8 (w3.heap.size) 31 (cnl z1 K (.slice Ap nl cp)).toArray) := Lib.hid (ht.2.2.oth _ _ _ (by omega) J26.out)
  have J32 : Hid (Whole w8 (w6.heap.size) 23 #[.string { data := #[] }, .int .i64 zx]) := Lib.hid (ht.2.2.oth _ _ _ (by omega) HX.out)
  have J33 : Hid (Psns w8 (fun b => b ≠ p.heap.size) Ap cp lp) := Lib.hid (seq_turn J27.out ht)
  have J34 := Lib.hid ht.1
  clear J24 J25 J26 HX J27 J28
  clear ht hnk
  have hcl := pfnd (w := w8) (z := z1) (K := K) (ca := cp) n1 J33.out (by omega)
  rw [← HNL.out] at hcl
  obtain ⟨r1, hr1⟩ : ∃ r, r = pfind lp n1 := ⟨_, rfl⟩
  have Hr1 := Lib.hid hr1
  clear hr1
  rw [← Hr1.out] at hcl
  unfold fnr at hcl
  obtain ⟨f1HA1, hf1⟩ : ∃ x, x = fnm r1 := ⟨_, rfl⟩
  obtain ⟨f2HA1, hf2⟩ : ∃ x, x = fnb r1 := ⟨_, rfl⟩
  obtain ⟨f3HA1, hf3⟩ : ∃ x, x = r1.isSome := ⟨_, rfl⟩
  rw [← hf1, ← hf2, ← hf3] at hcl
  have HFHA1 := Lib.hid (And.intro hf1 (And.intro hf2 hf3))
  clear hf1 hf2 hf3
  go_wp2_with (with_reducible refine wpList_load_con rfl _ rfl rfl J31.out (cnl_size _ _ _) ?_)
  refine hcl.mono ?_
  rintro e w9a ⟨rfl, hbw9a⟩
  clear hcl
  have hsw9a : w8.heap.size ≤ w9a.heap.size := hbw9a.size
  have J35 := Lib.hid (J29.out.trans (hbw9a.mono J29.out.size))
  have J36 : Hid (Whole w9a (w.heap.size) 23 #[.string (sof s0), .int .i64 z0]) := Lib.hid (Whole.below J30.out hbw9a (Whole.lt J30.out))
  have J37 : Hid (Whole w9a (w3.heap.size) 31 (cnl z1 K (.slice Ap nl cp)).toArray) := Lib.hid (Whole.below J31.out hbw9a (Whole.lt J31.out))
  have J38 : Hid (Whole w9a (w6.heap.size) 23 #[.string { data := #[] }, .int .i64 zx]) := Lib.hid (Whole.below J32.out hbw9a (Whole.lt J32.out))
  have J39 : Hid (Psns w9a (fun b => b ≠ p.heap.size) Ap cp lp) := Lib.hid (Seq.below J33.out hbw9a (Nat.le_refl _))
  have J40 := Lib.hid (Deck.below J34.out hbw9a (Deck.lt J34.out))
  clear J29 J30 J31 J32 J33 J34
  clear hbw9a
  go_upto_region 7 with fail
  obtain ⟨w9, hq⟩ : ∃ q, q = w9a.alloc (.cells #[.string (sof f1HA1), .int .i64 f2HA1] 23) := ⟨_, rfl⟩
  rw [← hq]
  have hbw9 : Below w9a.heap.size w9a w9 := by rw [hq]; exact (Below.refl _ _).alloc (Nat.le_refl _) _
  have hrw9 : Whole w9 w9a.heap.size 23 #[.string (sof f1HA1), .int .i64 f2HA1] := by rw [hq]; exact Whole.here _ _ _
  clear hq
  have hsw9 : w9a.heap.size < w9.heap.size := hrw9.lt
  have J41 := Lib.hid (J35.out.trans (hbw9.mono J35.out.size))
  have J42 : Hid (Whole w9 (w.heap.size) 23 #[.string (sof s0), .int .i64 z0]) := Lib.hid (Whole.below J36.out hbw9 (Whole.lt J36.out))
  have J43 : Hid (Whole w9 (w3.heap.size) 31 (cnl z1 K (.slice Ap nl cp)).toArray) := Lib.hid (Whole.below J37.out hbw9 (Whole.lt J37.out))
  have J44 : Hid (Whole w9 (w6.heap.size) 23 #[.string { data := #[] }, .int .i64 zx]) := Lib.hid (Whole.below J38.out hbw9 (Whole.lt J38.out))
  have J45 : Hid (Psns w9 (fun b => b ≠ p.heap.size) Ap cp lp) := Lib.hid (Seq.below J39.out hbw9 (Nat.le_refl _))
  have J46 := Lib.hid (Deck.below J40.out hbw9 (Deck.lt J40.out))
  clear J35 J36 J37 J38 J39 J40
  have HA1 := Lib.hid hrw9
  clear hbw9 hrw9
  have hcl := rfnd (w := w9) (z := z1) (K := K) (ca := cp) n1 J45.out (by omega)
  rw [← HNL.out] at hcl
  rw [← Hr1.out] at hcl
  unfold fnr at hcl
  obtain ⟨f1HA2, hf1⟩ : ∃ x, x = fnm r1 := ⟨_, rfl⟩
  obtain ⟨f2HA2, hf2⟩ : ∃ x, x = fnb r1 := ⟨_, rfl⟩
  obtain ⟨f3HA2, hf3⟩ : ∃ x, x = r1.isSome := ⟨_, rfl⟩
  rw [← hf1, ← hf2, ← hf3] at hcl
  have HFHA2 := Lib.hid (And.intro hf1 (And.intro hf2 hf3))
  clear hf1 hf2 hf3
  go_wp2_with (with_reducible refine wpList_load_con rfl _ rfl rfl J43.out (cnl_size _ _ _) ?_)
  refine hcl.mono ?_
  rintro e w10a ⟨rfl, hbw10a⟩
  clear hcl
  have hsw10a : w9.heap.size ≤ w10a.heap.size := hbw10a.size
  have J47 := Lib.hid (J41.out.trans (hbw10a.mono J41.out.size))
  have J48 : Hid (Whole w10a (w.heap.size) 23 #[.string (sof s0), .int .i64 z0]) := Lib.hid (Whole.below J42.out hbw10a (Whole.lt J42.out))
  have J49 : Hid (Whole w10a (w3.heap.size) 31 (cnl z1 K (.slice Ap nl cp)).toArray) := Lib.hid (Whole.below J43.out hbw10a (Whole.lt J43.out))
  have J50 : Hid (Whole w10a (w6.heap.size) 23 #[.string { data := #[] }, .int .i64 zx]) := Lib.hid (Whole.below J44.out hbw10a (Whole.lt J44.out))
  have J51 : Hid (Whole w10a (w9a.heap.size) 23 #[.string (sof f1HA1), .int .i64 f2HA1]) := Lib.hid (Whole.below HA1.out hbw10a (Whole.lt HA1.out))
  have J52 : Hid (Psns w10a (fun b => b ≠ p.heap.size) Ap cp lp) := Lib.hid (Seq.below J45.out hbw10a (Nat.le_refl _))
  have J53 := Lib.hid (Deck.below J46.out hbw10a (Deck.lt J46.out))
  clear J41 J42 J43 J44 HA1 J45 J46
  clear hbw10a
  go_upto_region 8 with fail
  obtain ⟨w10, hq⟩ : ∃ q, q = w10a.alloc (.cells #[.string (sof f1HA2), .int .i64 f2HA2] 23) := ⟨_, rfl⟩
  rw [← hq]
  have hbw10 : Below w10a.heap.size w10a w10 := by rw [hq]; exact (Below.refl _ _).alloc (Nat.le_refl _) _
  have hrw10 : Whole w10 w10a.heap.size 23 #[.string (sof f1HA2), .int .i64 f2HA2] := by rw [hq]; exact Whole.here _ _ _
  clear hq
  have hsw10 : w10a.heap.size < w10.heap.size := hrw10.lt
  have J54 := Lib.hid (J47.out.trans (hbw10.mono J47.out.size))
  have J55 : Hid (Whole w10 (w.heap.size) 23 #[.string (sof s0), .int .i64 z0]) := Lib.hid (Whole.below J48.out hbw10 (Whole.lt J48.out))
  have J56 : Hid (Whole w10 (w3.heap.size) 31 (cnl z1 K (.slice Ap nl cp)).toArray) := Lib.hid (Whole.below J49.out hbw10 (Whole.lt J49.out))
  have J57 : Hid (Whole w10 (w6.heap.size) 23 #[.string { data := #[] }, .int .i64 zx]) := Lib.hid (Whole.below J50.out hbw10 (Whole.lt J50.out))
  have J58 : Hid (Whole w10 (w9a.heap.size) 23 #[.string (sof f1HA1), .int .i64 f2HA1]) := Lib.hid (Whole.below J51.out hbw10 (Whole.lt J51.out))
  have J59 : Hid (Psns w10 (fun b => b ≠ p.heap.size) Ap cp lp) := Lib.hid (Seq.below J52.out hbw10 (Nat.le_refl _))
  have J60 := Lib.hid (Deck.below J53.out hbw10 (Deck.lt J53.out))
  clear J47 J48 J49 J50 J51 J52 J53
  have HA2 := Lib.hid hrw10
  clear hbw10 hrw10
  have hcl := pfnd (w := w10) (z := z1) (K := K) (ca := cp) nk J59.out (by omega)
  rw [← HNL.out] at hcl
  obtain ⟨r2, hr2⟩ : ∃ r, r = pfind lp nk := ⟨_, rfl⟩
  have Hr2 := Lib.hid hr2
  clear hr2
  rw [← Hr2.out] at hcl
  unfold fnr at hcl
  obtain ⟨f1HA3, hf1⟩ : ∃ x, x = fnm r2 := ⟨_, rfl⟩
  obtain ⟨f2HA3, hf2⟩ : ∃ x, x = fnb r2 := ⟨_, rfl⟩
  obtain ⟨f3HA3, hf3⟩ : ∃ x, x = r2.isSome := ⟨_, rfl⟩
  rw [← hf1, ← hf2, ← hf3] at hcl
  have HFHA3 := Lib.hid (And.intro hf1 (And.intro hf2 hf3))
  clear hf1 hf2 hf3
  go_wp2_with (with_reducible refine wpList_load_con rfl _ rfl rfl J56.out (cnl_size _ _ _) ?_)
  refine hcl.mono ?_
  rintro e w11a ⟨rfl, hbw11a⟩
  clear hcl
  have hsw11a : w10.heap.size ≤ w11a.heap.size := hbw11a.size
  have J61 := Lib.hid (J54.out.trans (hbw11a.mono J54.out.size))
  have J62 : Hid (Whole w11a (w.heap.size) 23 #[.string (sof s0), .int .i64 z0]) := Lib.hid (Whole.below J55.out hbw11a (Whole.lt J55.out))
  have J63 : Hid (Whole w11a (w3.heap.size) 31 (cnl z1 K (.slice Ap nl cp)).toArray) := Lib.hid (Whole.below J56.out hbw11a (Whole.lt J56.out))
  have J64 : Hid (Whole w11a (w6.heap.size) 23 #[.string { data := #[] }, .int .i64 zx]) := Lib.hid (Whole.below J57.out hbw11a (Whole.lt J57.out))
  have J65 : Hid (Whole w11a (w9a.heap.size) 23 #[.string (sof f1HA1), .int .i64 f2HA1]) := Lib.hid (Whole.below J58.out hbw11a (Whole.lt J58.out))
  have J66 : Hid (Whole w11a (w10a.heap.size) 23 #[.string (sof f1HA2), .int .i64 f2HA2]) := Lib.hid (Whole.below HA2.out hbw11a (Whole.lt HA2.out))
  have J67 : Hid (Psns w11a (fun b => b ≠ p.heap.size) Ap cp lp) := Lib.hid (Seq.below J59.out hbw11a (Nat.le_refl _))
  have J68 := Lib.hid (Deck.below J60.out hbw11a (Deck.lt J60.out))
  clear J54 J55 J56 J57 J58 HA2 J59 J60
  clear hbw11a
  go_upto_region 9 with fail
  obtain ⟨w11, hq⟩ : ∃ q, q = w11a.alloc (.cells #[.string (sof f1HA3), .int .i64 f2HA3] 23) := ⟨_, rfl⟩
  rw [← hq]
  have hbw11 : Below w11a.heap.size w11a w11 := by rw [hq]; exact (Below.refl _ _).alloc (Nat.le_refl _) _
  have hrw11 : Whole w11 w11a.heap.size 23 #[.string (sof f1HA3), .int .i64 f2HA3] := by rw [hq]; exact Whole.here _ _ _
  clear hq
  have hsw11 : w11a.heap.size < w11.heap.size := hrw11.lt
  have J69 := Lib.hid (J61.out.trans (hbw11.mono J61.out.size))
  have J70 : Hid (Whole w11 (w.heap.size) 23 #[.string (sof s0), .int .i64 z0]) := Lib.hid (Whole.below J62.out hbw11 (Whole.lt J62.out))
  have J71 : Hid (Whole w11 (w3.heap.size) 31 (cnl z1 K (.slice Ap nl cp)).toArray) := Lib.hid (Whole.below J63.out hbw11 (Whole.lt J63.out))
  have J72 : Hid (Whole w11 (w6.heap.size) 23 #[.string { data := #[] }, .int .i64 zx]) := Lib.hid (Whole.below J64.out hbw11 (Whole.lt J64.out))
  have J73 : Hid (Whole w11 (w9a.heap.size) 23 #[.string (sof f1HA1), .int .i64 f2HA1]) := Lib.hid (Whole.below J65.out hbw11 (Whole.lt J65.out))
  have J74 : Hid (Whole w11 (w10a.heap.size) 23 #[.string (sof f1HA2), .int .i64 f2HA2]) := Lib.hid (Whole.below J66.out hbw11 (Whole.lt J66.out))
  have J75 : Hid (Psns w11 (fun b => b ≠ p.heap.size) Ap cp lp) := Lib.hid (Seq.below J67.out hbw11 (Nat.le_refl _))
  have J76 := Lib.hid (Deck.below J68.out hbw11 (Deck.lt J68.out))
  clear J61 J62 J63 J64 J65 J66 J67 J68
  have HA3 := Lib.hid hrw11
  clear hbw11 hrw11
  have hcl := rfnd (w := w11) (z := z1) (K := K) (ca := cp) nk J75.out (by omega)
  rw [← HNL.out] at hcl
  rw [← Hr2.out] at hcl
  unfold fnr at hcl
  obtain ⟨f1HA4, hf1⟩ : ∃ x, x = fnm r2 := ⟨_, rfl⟩
  obtain ⟨f2HA4, hf2⟩ : ∃ x, x = fnb r2 := ⟨_, rfl⟩
  obtain ⟨f3HA4, hf3⟩ : ∃ x, x = r2.isSome := ⟨_, rfl⟩
  rw [← hf1, ← hf2, ← hf3] at hcl
  have HFHA4 := Lib.hid (And.intro hf1 (And.intro hf2 hf3))
  clear hf1 hf2 hf3
  go_wp2_with (with_reducible refine wpList_load_con rfl _ rfl rfl J71.out (cnl_size _ _ _) ?_)
  refine hcl.mono ?_
  rintro e w12a ⟨rfl, hbw12a⟩
  clear hcl
  have hsw12a : w11.heap.size ≤ w12a.heap.size := hbw12a.size
  have J77 := Lib.hid (J69.out.trans (hbw12a.mono J69.out.size))
  have J78 : Hid (Whole w12a (w.heap.size) 23 #[.string (sof s0), .int .i64 z0]) := Lib.hid (Whole.below J70.out hbw12a (Whole.lt J70.out))
  have J79 : Hid (Whole w12a (w3.heap.size) 31 (cnl z1 K (.slice Ap nl cp)).toArray) := Lib.hid (Whole.below J71.out hbw12a (Whole.lt J71.out))
  have J80 : Hid (Whole w12a (w6.heap.size) 23 #[.string { data := #[] }, .int .i64 zx]) := Lib.hid (Whole.below J72.out hbw12a (Whole.lt J72.out))
  have J81 : Hid (Whole w12a (w9a.heap.size) 23 #[.string (sof f1HA1), .int .i64 f2HA1]) := Lib.hid (Whole.below J73.out hbw12a (Whole.lt J73.out))
  have J82 : Hid (Whole w12a (w10a.heap.size) 23 #[.string (sof f1HA2), .int .i64 f2HA2]) := Lib.hid (Whole.below J74.out hbw12a (Whole.lt J74.out))
  have J83 : Hid (Whole w12a (w11a.heap.size) 23 #[.string (sof f1HA3), .int .i64 f2HA3]) := Lib.hid (Whole.below HA3.out hbw12a (Whole.lt HA3.out))
  have J84 : Hid (Psns w12a (fun b => b ≠ p.heap.size) Ap cp lp) := Lib.hid (Seq.below J75.out hbw12a (Nat.le_refl _))
  have J85 := Lib.hid (Deck.below J76.out hbw12a (Deck.lt J76.out))
  clear J69 J70 J71 J72 J73 J74 HA3 J75 J76
  clear hbw12a
  go_upto_region 10 with fail
  obtain ⟨w12, hq⟩ : ∃ q, q = w12a.alloc (.cells #[.string (sof f1HA4), .int .i64 f2HA4] 23) := ⟨_, rfl⟩
  rw [← hq]
  have hbw12 : Below w12a.heap.size w12a w12 := by rw [hq]; exact (Below.refl _ _).alloc (Nat.le_refl _) _
  have hrw12 : Whole w12 w12a.heap.size 23 #[.string (sof f1HA4), .int .i64 f2HA4] := by rw [hq]; exact Whole.here _ _ _
  clear hq
  have hsw12 : w12a.heap.size < w12.heap.size := hrw12.lt
  have J86 := Lib.hid (J77.out.trans (hbw12.mono J77.out.size))
  have J87 : Hid (Whole w12 (w.heap.size) 23 #[.string (sof s0), .int .i64 z0]) := Lib.hid (Whole.below J78.out hbw12 (Whole.lt J78.out))
  have J88 : Hid (Whole w12 (w3.heap.size) 31 (cnl z1 K (.slice Ap nl cp)).toArray) := Lib.hid (Whole.below J79.out hbw12 (Whole.lt J79.out))
  have J89 : Hid (Whole w12 (w6.heap.size) 23 #[.string { data := #[] }, .int .i64 zx]) := Lib.hid (Whole.below J80.out hbw12 (Whole.lt J80.out))
  have J90 : Hid (Whole w12 (w9a.heap.size) 23 #[.string (sof f1HA1), .int .i64 f2HA1]) := Lib.hid (Whole.below J81.out hbw12 (Whole.lt J81.out))
  have J91 : Hid (Whole w12 (w10a.heap.size) 23 #[.string (sof f1HA2), .int .i64 f2HA2]) := Lib.hid (Whole.below J82.out hbw12 (Whole.lt J82.out))
  have J92 : Hid (Whole w12 (w11a.heap.size) 23 #[.string (sof f1HA3), .int .i64 f2HA3]) := Lib.hid (Whole.below J83.out hbw12 (Whole.lt J83.out))
  have J93 : Hid (Psns w12 (fun b => b ≠ p.heap.size) Ap cp lp) := Lib.hid (Seq.below J84.out hbw12 (Nat.le_refl _))
  have J94 := Lib.hid (Deck.below J85.out hbw12 (Deck.lt J85.out))
  clear J77 J78 J79 J80 J81 J82 J83 J84 J85
  have HA4 := Lib.hid hrw12
  clear hbw12 hrw12
  have e1 := HFHA1.out
  have e2 := HFHA2.out
  have e3 := HFHA3.out
  have e4 := HFHA4.out
  obtain ⟨rfl, rfl, rfl⟩ : f1HA1 = f1HA2 ∧ f2HA1 = f2HA2 ∧ f3HA1 = f3HA2 := ⟨e1.1.trans e2.1.symm, e1.2.1.trans e2.2.1.symm, e1.2.2.trans e2.2.2.symm⟩
  obtain ⟨rfl, rfl, rfl⟩ : f1HA3 = f1HA4 ∧ f2HA3 = f2HA4 ∧ f3HA3 = f3HA4 := ⟨e3.1.trans e4.1.symm, e3.2.1.trans e4.2.1.symm, e3.2.2.trans e4.2.2.symm⟩
  clear e1 e2 e3 e4 HFHA1 HFHA2 HFHA3 HFHA4 Hr1 Hr2 HNL J93 J94
  have HCC : Hid (∀ W, Below w12.heap.size w12 W → (fun W : World => Whole W (w.heap.size) 23 #[.string (sof s0), .int .i64 z0] ∧ Whole W (w6.heap.size) 23 #[.string { data := #[] }, .int .i64 zx] ∧ Whole W (w9a.heap.size) 23 #[.string (sof f1HA1), .int .i64 f2HA1] ∧ Whole W (w10a.heap.size) 23 #[.string (sof f1HA1), .int .i64 f2HA1] ∧ Whole W (w11a.heap.size) 23 #[.string (sof f1HA3), .int .i64 f2HA3] ∧ Whole W (w12a.heap.size) 23 #[.string (sof f1HA3), .int .i64 f2HA3]) W) := Lib.hid fun W hb => ⟨Whole.below J87.out hb (Whole.lt J87.out), Whole.below J89.out hb (Whole.lt J89.out), Whole.below J90.out hb (Whole.lt J90.out), Whole.below J91.out hb (Whole.lt J91.out), Whole.below J92.out hb (Whole.lt J92.out), Whole.below HA4.out hb (Whole.lt HA4.out)⟩
  have hb0 : Below w12.heap.size w12 w12.drew := Below.drew (Below.refl _ _)
  have kqHA1 : ∀ W, (binOp .eql 23 (.agg #[.string (sof f1HA1), .int .i64 f2HA1]) (.agg #[.string (sof f1HA1), .int .i64 f2HA1])).run Try.prog W = .ok (.bool true) W := fun W => by rw [run_eql_psn]; simp
  have kqHA3 : ∀ W, (binOp .eql 23 (.agg #[.string (sof f1HA3), .int .i64 f2HA3]) (.agg #[.string (sof f1HA3), .int .i64 f2HA3])).run Try.prog W = .ok (.bool true) W := fun W => by rw [run_eql_psn]; simp
  refine wp_region_held_drew (S := fun W : World => Whole W (w.heap.size) 23 #[.string (sof s0), .int .i64 z0] ∧ Whole W (w6.heap.size) 23 #[.string { data := #[] }, .int .i64 zx] ∧ Whole W (w9a.heap.size) 23 #[.string (sof f1HA1), .int .i64 f2HA1] ∧ Whole W (w10a.heap.size) 23 #[.string (sof f1HA1), .int .i64 f2HA1] ∧ Whole W (w11a.heap.size) 23 #[.string (sof f1HA3), .int .i64 f2HA3] ∧ Whole W (w12a.heap.size) 23 #[.string (sof f1HA3), .int .i64 f2HA3]) (by kernel_rfl) (HCC.out _ hb0) (fun hHeld => ?_)
  apply wpAnyH_take (i := 0) rfl (by kernel_rfl) (by kernel_rfl) (by kernel_rfl)
  case hQ => exact fun _ _ _ h => h
  case hS => exact hHeld
  case hy => exact yieldsIf_load_mid (by rfl) 23 _ rfl w.heap.size (0) rfl ([.string (sof s0), .int .i64 z0]) _ (fun w hS => Whole.range (hS.1)) Try.underlying23 rfl (psnSize)
  (try simp only [List.getElem_toArray, List.getElem_cons_zero, Act.put, List.setIfInBounds_toArray, List.set_cons_zero, List.set_cons_succ])
  apply wpAnyH_take (i := 1) rfl (by kernel_rfl) (by kernel_rfl) (by kernel_rfl)
  case hQ => exact fun _ _ _ h => h
  case hS => exact hHeld
  case hy => (refine Or.inl ⟨by rfl, ?_⟩; intro w hSw; (try go_split_ands); go_simp; (try with_reducible rfl))
  (try simp only [List.getElem_toArray, List.getElem_cons_succ, List.getElem_cons_zero, Act.put, List.setIfInBounds_toArray, List.set_cons_zero, List.set_cons_succ])
  apply wpAnyH_take (i := 3) rfl (by kernel_rfl) (by kernel_rfl) (by kernel_rfl)
  case hQ => exact fun _ _ _ h => h
  case hS => exact hHeld
  case hy => exact yieldsIf_load_mid (by rfl) 23 _ rfl w.heap.size (0) rfl ([.string (sof s0), .int .i64 z0]) _ (fun w hS => Whole.range (hS.1)) Try.underlying23 rfl (psnSize)
  (try simp only [List.getElem_toArray, List.getElem_cons_succ, List.getElem_cons_zero, Act.put, List.setIfInBounds_toArray, List.set_cons_zero, List.set_cons_succ])
  apply wpAnyH_take (i := 4) rfl (by kernel_rfl) (by kernel_rfl) (by kernel_rfl)
  case hQ => exact fun _ _ _ h => h
  case hS => exact hHeld
  case hy => (refine Or.inl ⟨by rfl, ?_⟩; intro w hSw; (try go_split_ands); go_simp; (try with_reducible rfl))
  (try simp only [List.getElem_toArray, List.getElem_cons_succ, List.getElem_cons_zero, Act.put, List.setIfInBounds_toArray, List.set_cons_zero, List.set_cons_succ])
  refine wpAnyH_ready (rs := [2]) (by kernel_rfl) (by simp) ?_
  refine AllReadyH.cons rfl (fun KK hKK => ?_) AllReadyH.nil
  (try simp only [List.getElem_toArray, List.getElem_cons_succ, List.getElem_cons_zero])
  go_simp
  go_at_call 12
  refine (page s0 z0 m w12.drew).mono ?_
  rintro e V1 ⟨rfl, hv1⟩
  have hb1 := Below.trans hb0 (Below.mono hv1 (Below.size hb0))
  refine hKK.out _ _ (HCC.out _ hb1) (fun hHeld => ?_)
  clear hKK KK
  (try simp only [List.getElem_toArray, List.getElem_cons_succ, List.getElem_cons_zero, Act.put, List.setIfInBounds_toArray, List.set_cons_zero, List.set_cons_succ])
  refine wpAnyH_ready (rs := [5]) (by kernel_rfl) (by simp) ?_
  refine AllReadyH.cons rfl (fun KK hKK => ?_) AllReadyH.nil
  (try simp only [List.getElem_toArray, List.getElem_cons_succ, List.getElem_cons_zero])
  go_simp
  go_at_call 13
  refine (rage s0 z0 m V1).mono ?_
  rintro e V2 ⟨rfl, hv2⟩
  have hb2 := Below.trans hb1 (Below.mono hv2 (Below.size hb1))
  refine hKK.out _ _ (HCC.out _ hb2) (fun hHeld => ?_)
  clear hKK KK
  (try simp only [List.getElem_toArray, List.getElem_cons_succ, List.getElem_cons_zero, Act.put, List.setIfInBounds_toArray, List.set_cons_zero, List.set_cons_succ])
  apply wpAnyH_take (i := 6) rfl (by kernel_rfl) (by kernel_rfl) (by kernel_rfl)
  case hQ => exact fun _ _ _ h => h
  case hS => exact hHeld
  case hy => (refine Or.inl ⟨by rfl, ?_⟩; intro w hSw; (try go_split_ands); go_simp; (try with_reducible rfl))
  (try simp only [List.getElem_toArray, List.getElem_cons_succ, List.getElem_cons_zero, Act.put, List.setIfInBounds_toArray, List.set_cons_zero, List.set_cons_succ])
  apply wpAnyH_take (i := 7) rfl (by kernel_rfl) (by kernel_rfl) (by kernel_rfl)
  case hQ => exact fun _ _ _ h => h
  case hS => exact hHeld
  case hy => (refine Or.inl ⟨by rfl, ?_⟩; intro w hSw; (try go_split_ands); go_simp; (try with_reducible rfl))
  (try simp only [List.getElem_toArray, List.getElem_cons_succ, List.getElem_cons_zero, Act.put, List.setIfInBounds_toArray, List.set_cons_zero, List.set_cons_succ])
  apply wpAnyH_take (i := 8) rfl (by kernel_rfl) (by kernel_rfl) (by kernel_rfl)
  case hQ => exact fun _ _ _ h => h
  case hS => exact hHeld
  case hy => exact yieldsIf_load_mid (by rfl) 23 _ rfl w6.heap.size (0) rfl ([.string { data := #[] }, .int .i64 zx]) _ (fun w hS => Whole.range (hS.2.1)) Try.underlying23 rfl (psnSize)
  (try simp only [List.getElem_toArray, List.getElem_cons_succ, List.getElem_cons_zero, Act.put, List.setIfInBounds_toArray, List.set_cons_zero, List.set_cons_succ])
  apply wpAnyH_take (i := 9) rfl (by kernel_rfl) (by kernel_rfl) (by kernel_rfl)
  case hQ => exact fun _ _ _ h => h
  case hS => exact hHeld
  case hy => (refine Or.inl ⟨by rfl, ?_⟩; intro w hSw; (try go_split_ands); go_simp; (try with_reducible rfl))
  (try simp only [List.getElem_toArray, List.getElem_cons_succ, List.getElem_cons_zero, Act.put, List.setIfInBounds_toArray, List.set_cons_zero, List.set_cons_succ])
  apply wpAnyH_take (i := 11) rfl (by kernel_rfl) (by kernel_rfl) (by kernel_rfl)
  case hQ => exact fun _ _ _ h => h
  case hS => exact hHeld
  case hy => exact yieldsIf_load_mid (by rfl) 23 _ rfl w6.heap.size (0) rfl ([.string { data := #[] }, .int .i64 zx]) _ (fun w hS => Whole.range (hS.2.1)) Try.underlying23 rfl (psnSize)
  (try simp only [List.getElem_toArray, List.getElem_cons_succ, List.getElem_cons_zero, Act.put, List.setIfInBounds_toArray, List.set_cons_zero, List.set_cons_succ])
  apply wpAnyH_take (i := 12) rfl (by kernel_rfl) (by kernel_rfl) (by kernel_rfl)
  case hQ => exact fun _ _ _ h => h
  case hS => exact hHeld
  case hy => (refine Or.inl ⟨by rfl, ?_⟩; intro w hSw; (try go_split_ands); go_simp; (try with_reducible rfl))
  (try simp only [List.getElem_toArray, List.getElem_cons_succ, List.getElem_cons_zero, Act.put, List.setIfInBounds_toArray, List.set_cons_zero, List.set_cons_succ])
  refine wpAnyH_ready (rs := [10]) (by kernel_rfl) (by simp) ?_
  refine AllReadyH.cons rfl (fun KK hKK => ?_) AllReadyH.nil
  (try simp only [List.getElem_toArray, List.getElem_cons_succ, List.getElem_cons_zero])
  go_simp
  go_at_call 12
  refine (page0 zx n V2).mono ?_
  rintro e V3 ⟨rfl, hv3⟩
  have hb3 := Below.trans hb2 (Below.mono hv3 (Below.size hb2))
  refine hKK.out _ _ (HCC.out _ hb3) (fun hHeld => ?_)
  clear hKK KK
  (try simp only [List.getElem_toArray, List.getElem_cons_succ, List.getElem_cons_zero, Act.put, List.setIfInBounds_toArray, List.set_cons_zero, List.set_cons_succ])
  refine wpAnyH_ready (rs := [13]) (by kernel_rfl) (by simp) ?_
  refine AllReadyH.cons rfl (fun KK hKK => ?_) AllReadyH.nil
  (try simp only [List.getElem_toArray, List.getElem_cons_succ, List.getElem_cons_zero])
  go_simp
  go_at_call 13
  refine (rage0 zx n V3).mono ?_
  rintro e V4 ⟨rfl, hv4⟩
  have hb4 := Below.trans hb3 (Below.mono hv4 (Below.size hb3))
  refine hKK.out _ _ (HCC.out _ hb4) (fun hHeld => ?_)
  clear hKK KK
  (try simp only [List.getElem_toArray, List.getElem_cons_succ, List.getElem_cons_zero, Act.put, List.setIfInBounds_toArray, List.set_cons_zero, List.set_cons_succ])
  apply wpAnyH_take (i := 14) rfl (by kernel_rfl) (by kernel_rfl) (by kernel_rfl)
  case hQ => exact fun _ _ _ h => h
  case hS => exact hHeld
  case hy => (refine Or.inl ⟨by rfl, ?_⟩; intro w hSw; (try go_split_ands); go_simp; (try with_reducible rfl))
  (try simp only [List.getElem_toArray, List.getElem_cons_succ, List.getElem_cons_zero, Act.put, List.setIfInBounds_toArray, List.set_cons_zero, List.set_cons_succ])
  apply wpAnyH_take (i := 15) rfl (by kernel_rfl) (by kernel_rfl) (by kernel_rfl)
  case hQ => exact fun _ _ _ h => h
  case hS => exact hHeld
  case hy => (refine Or.inl ⟨by rfl, ?_⟩; intro w hSw; (try go_split_ands); go_simp; (try with_reducible rfl))
  (try simp only [List.getElem_toArray, List.getElem_cons_succ, List.getElem_cons_zero, Act.put, List.setIfInBounds_toArray, List.set_cons_zero, List.set_cons_succ])
  apply wpAnyH_take (i := 16) rfl (by kernel_rfl) (by kernel_rfl) (by kernel_rfl)
  case hQ => exact fun _ _ _ h => h
  case hS => exact hHeld
  case hy => (refine Or.inl ⟨by rfl, ?_⟩; intro w hSw; (try go_split_ands); go_simp; (try with_reducible rfl))
  (try simp only [List.getElem_toArray, List.getElem_cons_succ, List.getElem_cons_zero, Act.put, List.setIfInBounds_toArray, List.set_cons_zero, List.set_cons_succ])
  apply wpAnyH_take (i := 17) rfl (by kernel_rfl) (by kernel_rfl) (by kernel_rfl)
  case hQ => exact fun _ _ _ h => h
  case hS => exact hHeld
  case hy => exact yieldsIf_load_mid (by rfl) 23 _ rfl w.heap.size (0) rfl ([.string (sof s0), .int .i64 z0]) _ (fun w hS => Whole.range (hS.1)) Try.underlying23 rfl (psnSize)
  (try simp only [List.getElem_toArray, List.getElem_cons_succ, List.getElem_cons_zero, Act.put, List.setIfInBounds_toArray, List.set_cons_zero, List.set_cons_succ])
  apply wpAnyH_take (i := 18) rfl (by kernel_rfl) (by kernel_rfl) (by kernel_rfl)
  case hQ => exact fun _ _ _ h => h
  case hS => exact hHeld
  case hy => (refine Or.inl ⟨by rfl, ?_⟩; intro w hSw; (try go_split_ands); go_simp; (try with_reducible rfl))
  (try simp only [List.getElem_toArray, List.getElem_cons_succ, List.getElem_cons_zero, Act.put, List.setIfInBounds_toArray, List.set_cons_zero, List.set_cons_succ])
  apply wpAnyH_take (i := 20) rfl (by kernel_rfl) (by kernel_rfl) (by kernel_rfl)
  case hQ => exact fun _ _ _ h => h
  case hS => exact hHeld
  case hy => exact yieldsIf_load_mid (by rfl) 23 _ rfl w.heap.size (0) rfl ([.string (sof s0), .int .i64 z0]) _ (fun w hS => Whole.range (hS.1)) Try.underlying23 rfl (psnSize)
  (try simp only [List.getElem_toArray, List.getElem_cons_succ, List.getElem_cons_zero, Act.put, List.setIfInBounds_toArray, List.set_cons_zero, List.set_cons_succ])
  apply wpAnyH_take (i := 21) rfl (by kernel_rfl) (by kernel_rfl) (by kernel_rfl)
  case hQ => exact fun _ _ _ h => h
  case hS => exact hHeld
  case hy => (refine Or.inl ⟨by rfl, ?_⟩; intro w hSw; (try go_split_ands); go_simp; (try with_reducible rfl))
  (try simp only [List.getElem_toArray, List.getElem_cons_succ, List.getElem_cons_zero, Act.put, List.setIfInBounds_toArray, List.set_cons_zero, List.set_cons_succ])
  refine wpAnyH_ready (rs := [19]) (by kernel_rfl) (by simp) ?_
  refine AllReadyH.cons rfl (fun KK hKK => ?_) AllReadyH.nil
  (try simp only [List.getElem_toArray, List.getElem_cons_succ, List.getElem_cons_zero])
  go_simp
  go_at_call 12
  refine (page s0 z0 n V4).mono ?_
  rintro e V5 ⟨rfl, hv5⟩
  have hb5 := Below.trans hb4 (Below.mono hv5 (Below.size hb4))
  refine hKK.out _ _ (HCC.out _ hb5) (fun hHeld => ?_)
  clear hKK KK
  (try simp only [List.getElem_toArray, List.getElem_cons_succ, List.getElem_cons_zero, Act.put, List.setIfInBounds_toArray, List.set_cons_zero, List.set_cons_succ])
  refine wpAnyH_ready (rs := [22]) (by kernel_rfl) (by simp) ?_
  refine AllReadyH.cons rfl (fun KK hKK => ?_) AllReadyH.nil
  (try simp only [List.getElem_toArray, List.getElem_cons_succ, List.getElem_cons_zero])
  go_simp
  go_at_call 13
  refine (rage s0 z0 n V5).mono ?_
  rintro e V6 ⟨rfl, hv6⟩
  have hb6 := Below.trans hb5 (Below.mono hv6 (Below.size hb5))
  refine hKK.out _ _ (HCC.out _ hb6) (fun hHeld => ?_)
  clear hKK KK
  (try simp only [List.getElem_toArray, List.getElem_cons_succ, List.getElem_cons_zero, Act.put, List.setIfInBounds_toArray, List.set_cons_zero, List.set_cons_succ])
  apply wpAnyH_take (i := 23) rfl (by kernel_rfl) (by kernel_rfl) (by kernel_rfl)
  case hQ => exact fun _ _ _ h => h
  case hS => exact hHeld
  case hy => (refine Or.inl ⟨by rfl, ?_⟩; intro w hSw; (try go_split_ands); go_simp; (try with_reducible rfl))
  (try simp only [List.getElem_toArray, List.getElem_cons_succ, List.getElem_cons_zero, Act.put, List.setIfInBounds_toArray, List.set_cons_zero, List.set_cons_succ])
  apply wpAnyH_take (i := 24) rfl (by kernel_rfl) (by kernel_rfl) (by kernel_rfl)
  case hQ => exact fun _ _ _ h => h
  case hS => exact hHeld
  case hy => (refine Or.inl ⟨by rfl, ?_⟩; intro w hSw; (try go_split_ands); go_simp; (try with_reducible rfl))
  (try simp only [List.getElem_toArray, List.getElem_cons_succ, List.getElem_cons_zero, Act.put, List.setIfInBounds_toArray, List.set_cons_zero, List.set_cons_succ])
  apply wpAnyH_take (i := 25) rfl (by kernel_rfl) (by kernel_rfl) (by kernel_rfl)
  case hQ => exact fun _ _ _ h => h
  case hS => exact hHeld
  case hy => (refine Or.inl ⟨by rfl, ?_⟩; intro w hSw; (try go_split_ands); go_simp; (try with_reducible rfl))
  (try simp only [List.getElem_toArray, List.getElem_cons_succ, List.getElem_cons_zero, Act.put, List.setIfInBounds_toArray, List.set_cons_zero, List.set_cons_succ])
  apply wpAnyH_take (i := 26) rfl (by kernel_rfl) (by kernel_rfl) (by kernel_rfl)
  case hQ => exact fun _ _ _ h => h
  case hS => exact hHeld
  case hy => exact yieldsIf_load_mid (by rfl) 23 _ rfl w9a.heap.size (0) rfl ([.string (sof f1HA1), .int .i64 f2HA1]) _ (fun w hS => Whole.range (hS.2.2.1)) Try.underlying23 rfl (psnSize)
  (try simp only [List.getElem_toArray, List.getElem_cons_succ, List.getElem_cons_zero, Act.put, List.setIfInBounds_toArray, List.set_cons_zero, List.set_cons_succ])
  apply wpAnyH_take (i := 27) rfl (by kernel_rfl) (by kernel_rfl) (by kernel_rfl)
  case hQ => exact fun _ _ _ h => h
  case hS => exact hHeld
  case hy => exact yieldsIf_load_mid (by rfl) 23 _ rfl w10a.heap.size (0) rfl ([.string (sof f1HA1), .int .i64 f2HA1]) _ (fun w hS => Whole.range (hS.2.2.2.1)) Try.underlying23 rfl (psnSize)
  (try simp only [List.getElem_toArray, List.getElem_cons_succ, List.getElem_cons_zero, Act.put, List.setIfInBounds_toArray, List.set_cons_zero, List.set_cons_succ])
  apply wpAnyH_take (i := 28) rfl (by kernel_rfl) (by kernel_rfl) (by kernel_rfl)
  case hQ => exact fun _ _ _ h => h
  case hS => exact hHeld
  case hy => (refine Or.inl ⟨by rfl, ?_⟩; intro w hSw; (try go_split_ands); go_simp; (try with_reducible rfl))
  (try simp only [List.getElem_toArray, List.getElem_cons_succ, List.getElem_cons_zero, Act.put, List.setIfInBounds_toArray, List.set_cons_zero, List.set_cons_succ])
  apply wpAnyH_take (i := 29) rfl (by kernel_rfl) (by kernel_rfl) (by kernel_rfl)
  case hQ => exact fun _ _ _ h => h
  case hS => exact hHeld
  case hy => (refine Or.inl ⟨by rfl, ?_⟩; intro w hSw; (try go_split_ands); go_simp; (try with_reducible rfl))
  (try simp only [List.getElem_toArray, List.getElem_cons_succ, List.getElem_cons_zero, Act.put, List.setIfInBounds_toArray, List.set_cons_zero, List.set_cons_succ])
  apply wpAnyH_take (i := 30) rfl (by kernel_rfl) (by kernel_rfl) (by kernel_rfl)
  case hQ => exact fun _ _ _ h => h
  case hS => exact hHeld
  case hy => (refine Or.inl ⟨by rfl, ?_⟩; intro w hSw; (try go_split_ands); go_simp; (try with_reducible rfl))
  (try simp only [List.getElem_toArray, List.getElem_cons_succ, List.getElem_cons_zero, Act.put, List.setIfInBounds_toArray, List.set_cons_zero, List.set_cons_succ])
  apply wpAnyH_take (i := 31) rfl (by kernel_rfl) (by kernel_rfl) (by kernel_rfl)
  case hQ => exact fun _ _ _ h => h
  case hS => exact hHeld
  case hy => (refine Or.inl ⟨by rfl, ?_⟩; intro w hSw; (try go_split_ands); go_simp; (try with_reducible rfl))
  (try simp only [List.getElem_toArray, List.getElem_cons_succ, List.getElem_cons_zero, Act.put, List.setIfInBounds_toArray, List.set_cons_zero, List.set_cons_succ])
  apply wpAnyH_take (i := 32) rfl (by kernel_rfl) (by kernel_rfl) (by kernel_rfl)
  case hQ => exact fun _ _ _ h => h
  case hS => exact hHeld
  case hy => (refine Or.inl ⟨by rfl, ?_⟩; intro w hSw; (try go_split_ands); go_simp; (try with_reducible rfl))
  (try simp only [List.getElem_toArray, List.getElem_cons_succ, List.getElem_cons_zero, Act.put, List.setIfInBounds_toArray, List.set_cons_zero, List.set_cons_succ])
  apply wpAnyH_take (i := 33) rfl (by kernel_rfl) (by kernel_rfl) (by kernel_rfl)
  case hQ => exact fun _ _ _ h => h
  case hS => exact hHeld
  case hy => (refine Or.inl ⟨by rfl, ?_⟩; intro w hSw; (try go_split_ands); go_simp; (try with_reducible rfl))
  (try simp only [List.getElem_toArray, List.getElem_cons_succ, List.getElem_cons_zero, Act.put, List.setIfInBounds_toArray, List.set_cons_zero, List.set_cons_succ])
  apply wpAnyH_take (i := 34) rfl (by kernel_rfl) (by kernel_rfl) (by kernel_rfl)
  case hQ => exact fun _ _ _ h => h
  case hS => exact hHeld
  case hy => (refine Or.inl ⟨by rfl, ?_⟩; intro w hSw; (try go_split_ands); go_simp; (try with_reducible rfl))
  (try simp only [List.getElem_toArray, List.getElem_cons_succ, List.getElem_cons_zero, Act.put, List.setIfInBounds_toArray, List.set_cons_zero, List.set_cons_succ])
  apply wpAnyH_take (i := 35) rfl (by kernel_rfl) (by kernel_rfl) (by kernel_rfl)
  case hQ => exact fun _ _ _ h => h
  case hS => exact hHeld
  case hy => (refine Or.inl ⟨by rfl, ?_⟩; intro w hSw; (try go_split_ands); go_simp; (try with_reducible rfl))
  (try simp only [List.getElem_toArray, List.getElem_cons_succ, List.getElem_cons_zero, Act.put, List.setIfInBounds_toArray, List.set_cons_zero, List.set_cons_succ])
  apply wpAnyH_take (i := 36) rfl (by kernel_rfl) (by kernel_rfl) (by kernel_rfl)
  case hQ => exact fun _ _ _ h => h
  case hS => exact hHeld
  case hy => exact yieldsIf_load_mid (by rfl) 23 _ rfl w11a.heap.size (0) rfl ([.string (sof f1HA3), .int .i64 f2HA3]) _ (fun w hS => Whole.range (hS.2.2.2.2.1)) Try.underlying23 rfl (psnSize)
  (try simp only [List.getElem_toArray, List.getElem_cons_succ, List.getElem_cons_zero, Act.put, List.setIfInBounds_toArray, List.set_cons_zero, List.set_cons_succ])
  apply wpAnyH_take (i := 37) rfl (by kernel_rfl) (by kernel_rfl) (by kernel_rfl)
  case hQ => exact fun _ _ _ h => h
  case hS => exact hHeld
  case hy => exact yieldsIf_load_mid (by rfl) 23 _ rfl w12a.heap.size (0) rfl ([.string (sof f1HA3), .int .i64 f2HA3]) _ (fun w hS => Whole.range (hS.2.2.2.2.2)) Try.underlying23 rfl (psnSize)
  (try simp only [List.getElem_toArray, List.getElem_cons_succ, List.getElem_cons_zero, Act.put, List.setIfInBounds_toArray, List.set_cons_zero, List.set_cons_succ])
  apply wpAnyH_take (i := 38) rfl (by kernel_rfl) (by kernel_rfl) (by kernel_rfl)
  case hQ => exact fun _ _ _ h => h
  case hS => exact hHeld
  case hy => (refine Or.inl ⟨by rfl, ?_⟩; intro w hSw; (try go_split_ands); go_simp; (try with_reducible rfl))
  (try simp only [List.getElem_toArray, List.getElem_cons_succ, List.getElem_cons_zero, Act.put, List.setIfInBounds_toArray, List.set_cons_zero, List.set_cons_succ])
  apply wpAnyH_take (i := 39) rfl (by kernel_rfl) (by kernel_rfl) (by kernel_rfl)
  case hQ => exact fun _ _ _ h => h
  case hS => exact hHeld
  case hy => (refine Or.inl ⟨by rfl, ?_⟩; intro w hSw; (try go_split_ands); go_simp; (try with_reducible rfl))
  (try simp only [List.getElem_toArray, List.getElem_cons_succ, List.getElem_cons_zero, Act.put, List.setIfInBounds_toArray, List.set_cons_zero, List.set_cons_succ])
  apply wpAnyH_take (i := 40) rfl (by kernel_rfl) (by kernel_rfl) (by kernel_rfl)
  case hQ => exact fun _ _ _ h => h
  case hS => exact hHeld
  case hy => (refine Or.inl ⟨by rfl, ?_⟩; intro w hSw; (try go_split_ands); go_simp; (try with_reducible rfl))
  (try simp only [List.getElem_toArray, List.getElem_cons_succ, List.getElem_cons_zero, Act.put, List.setIfInBounds_toArray, List.set_cons_zero, List.set_cons_succ])
  apply wpAnyH_take (i := 41) rfl (by kernel_rfl) (by kernel_rfl) (by kernel_rfl)
  case hQ => exact fun _ _ _ h => h
  case hS => exact hHeld
  case hy => (refine Or.inl ⟨by rfl, ?_⟩; intro w hSw; (try go_split_ands); go_simp; (try with_reducible rfl))
  (try simp only [List.getElem_toArray, List.getElem_cons_succ, List.getElem_cons_zero, Act.put, List.setIfInBounds_toArray, List.set_cons_zero, List.set_cons_succ])
  apply wpAnyH_take (i := 42) rfl (by kernel_rfl) (by kernel_rfl) (by kernel_rfl)
  case hQ => exact fun _ _ _ h => h
  case hS => exact hHeld
  case hy => (refine Or.inl ⟨by rfl, ?_⟩; intro w hSw; (try go_split_ands); go_simp; (try with_reducible rfl))
  (try simp only [List.getElem_toArray, List.getElem_cons_succ, List.getElem_cons_zero, Act.put, List.setIfInBounds_toArray, List.set_cons_zero, List.set_cons_succ])
  apply wpAnyH_take (i := 43) rfl (by kernel_rfl) (by kernel_rfl) (by kernel_rfl)
  case hQ => exact fun _ _ _ h => h
  case hS => exact hHeld
  case hy => (refine Or.inl ⟨by rfl, ?_⟩; intro w hSw; (try go_split_ands); go_simp; (try with_reducible rfl))
  (try simp only [List.getElem_toArray, List.getElem_cons_succ, List.getElem_cons_zero, Act.put, List.setIfInBounds_toArray, List.set_cons_zero, List.set_cons_succ])
  apply wpAnyH_take (i := 44) rfl (by kernel_rfl) (by kernel_rfl) (by kernel_rfl)
  case hQ => exact fun _ _ _ h => h
  case hS => exact hHeld
  case hy => (refine Or.inl ⟨by rfl, ?_⟩; intro w hSw; (try go_split_ands); go_simp; (try with_reducible rfl))
  (try simp only [List.getElem_toArray, List.getElem_cons_succ, List.getElem_cons_zero, Act.put, List.setIfInBounds_toArray, List.set_cons_zero, List.set_cons_succ])
  apply wpAnyH_take (i := 45) rfl (by kernel_rfl) (by kernel_rfl) (by kernel_rfl)
  case hQ => exact fun _ _ _ h => h
  case hS => exact hHeld
  case hy => (refine Or.inl ⟨by rfl, ?_⟩; intro w hSw; (try go_split_ands); go_simp; (try with_reducible rfl))
  (try simp only [List.getElem_toArray, List.getElem_cons_succ, List.getElem_cons_zero, Act.put, List.setIfInBounds_toArray, List.set_cons_zero, List.set_cons_succ])
  refine wpAnyH_ready (rs := [46]) (by kernel_rfl) (by simp) ?_
  refine AllReadyH.cons rfl (fun KK hKK => ?_) AllReadyH.nil
  (try simp only [List.getElem_toArray, List.getElem_cons_succ, List.getElem_cons_zero])
  go_simp
  go_at_call 14
  refine (dawk V6).mono ?_
  rintro e V7 ⟨rfl, hv7⟩
  have hb7 := Below.trans hb6 (Below.mono hv7 (Below.size hb6))
  refine hKK.out _ _ (HCC.out _ hb7) (fun hHeld => ?_)
  clear hKK KK
  (try simp only [List.getElem_toArray, List.getElem_cons_succ, List.getElem_cons_zero, Act.put, List.setIfInBounds_toArray, List.set_cons_zero, List.set_cons_succ])
  apply wpAnyH_take (i := 47) rfl (by kernel_rfl) (by kernel_rfl) (by kernel_rfl)
  case hQ => exact fun _ _ _ h => h
  case hS => exact hHeld
  case hy => (refine Or.inl ⟨by rfl, ?_⟩; intro w hSw; (try go_split_ands); go_simp; (try with_reducible rfl))
  (try simp only [List.getElem_toArray, List.getElem_cons_succ, List.getElem_cons_zero, Act.put, List.setIfInBounds_toArray, List.set_cons_zero, List.set_cons_succ])
  apply wpAnyH_take (i := 48) rfl (by kernel_rfl) (by kernel_rfl) (by kernel_rfl)
  case hQ => exact fun _ _ _ h => h
  case hS => exact hHeld
  case hy => (refine Or.inl ⟨by rfl, ?_⟩; intro w hSw; (try go_split_ands); go_simp; (try with_reducible rfl))
  (try simp only [List.getElem_toArray, List.getElem_cons_succ, List.getElem_cons_zero, Act.put, List.setIfInBounds_toArray, List.set_cons_zero, List.set_cons_succ])
  refine wpAnyH_done (by kernel_rfl) ?_ _
  have HG := Lib.hid (J86.out.trans (hb7.mono J86.out.size))
  clear hHeld
  go_wp2_with fail
  go_ret
  exact ⟨rfl, HG.out⟩
end Go.Proofs.Yteekdhcffiaaaaa
