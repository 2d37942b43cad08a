/-
  DFnd
-/
import Derived.Deep.CutBlock
import Derived.Deep.DeepCutAuto
import Derived.Test.YteekdhcffiaaaaaPk9
import Derived.Test.YteekdhcffiaaaaaPk10
namespace Go.Proofs.Yteekdhcffiaaaaa
open Go Go.RowKit Sh Leaf

def fnm (r : Option Psn) : List B8 := match r with | some x => x.name | none => []
def fnb (r : Option Psn) : Int := match r with | some x => x.born | none => 0
def fnr (r : Option Psn) : Value := .tuple #[.agg #[.string (sof (fnm r)), .int .i64 (fnb r)], .bool r.isSome]
theorem sof_nil0 : sof ([] : List B8) = { data := #[] } := by unfold sof; rfl
theorem cnl_slot {w : World} {g : Nat} {e : TypeId} {z : Int} {K : List B8} {vp : Value} (h : Whole w g e (cnl z K vp).toArray) : w.cell? ⟨g, 33, none⟩ = some vp := by
  rw [Whole.cell h, List.getElem?_toArray]
  unfold cnl
  rw [List.getElem?_cons_succ, List.getElem?_append_right (by rw [p32_cells]; omega), p32_cells]
  rfl
theorem psnSize : (Try.prog.info? 23).map (·.size) = some 2 := by kernel_rfl
theorem results_psn2 {w : World} {g : Nat} {fn : Func} {p q : Tmp} (h : fn.results = #[.cell p 23, .tmp q]) (tmps : Array Value) {cs : Array Value} (hp : tmps.getD p undef = .pointer (some ⟨g, 0, none⟩)) (x : Value) (hq : tmps.getD q undef = x)
    (h8 : cs.size = 2) (hg : Whole w g 23 cs) : (results fn tmps).run Try.prog w = .ok (.tuple #[.agg cs, x]) w := by
  have hp' : tmps[p]?.getD undef = .pointer (some ⟨g, 0, none⟩) := by simpa using hp
  have hq' : tmps[q]?.getD undef = x := by simpa using hq
  simp [results, h, hp', hq', asAddr, run_loadVar_row w g 23 23 _ (0, 0) _ hg Try.underlying23 rfl (by rw [psnSize, h8])]
theorem wpList_store_psn {w : World} {g : Nat} {ops : Array Oper} {rest : List Oper} {o : Oper} {a : Act} {Q : Exit → Act → World → Prop} (hgd : o.guard = none) (x y : Operand) (ho : o.op = .store 23 x y)
    (hx : a.eval x = .pointer (some ⟨g, 0, none⟩)) {s : ByteArray} {z : Int} {cs : Array Value} (hy : a.eval y = .agg #[.string s, .int .i64 z]) (hg : Whole w g 23 cs) (h8 : cs.size = 2)
    (h : wpList Try.prog ops Q rest (a.put o.dst undef) (w.setRow g #[.string s, .int .i64 z])) : wpList Try.prog ops Q (o :: rest) a w :=
  wpList_store_row hgd 23 x y ho g _ hx hy 23 _ hg (by rw [psnSize]; rfl) (by rw [h8]; rfl) (all_oneCell_toArray (cs := [.string s, .int .i64 z]) (by intro v hv; simp only [List.mem_cons, List.not_mem_nil, or_false] at hv; rcases hv with rfl | rfl <;> rfl)) h
theorem wpList_load_psn {w : World} {g : Nat} {ops : Array Oper} {rest : List Oper} {o : Oper} {a : Act} {Q : Exit → Act → World → Prop} (hgd : o.guard = none) (x : Operand) (ho : o.op = .load 23 x)
    (hx : a.eval x = .pointer (some ⟨g, 0, none⟩)) {cs : Array Value} (hg : Whole w g 23 cs) (h8 : cs.size = 2) (h : wpList Try.prog ops Q rest (a.put o.dst (.agg cs)) w) : wpList Try.prog ops Q (o :: rest) a w :=
  wpList_load_row hgd 23 x ho g hx 23 _ (0, 0) _ hg Try.underlying23 rfl (by rw [psnSize, h8]) h
theorem psns_range {w : World} {Q : Nat → Prop} {A : Option Addr} {c : Nat} {l : List Psn} (h : Psns w Q A c l) (j : Nat) (x : Psn) (hj : l[j]? = some x) : ∃ g o, A = some ⟨g, o, none⟩ ∧ g < w.heap.size ∧ w.rangeAt g (o + j * 2) [.string (sof x.name), .int .i64 x.born] := by
  obtain ⟨g, o, h1, -, h3, h4⟩ := Seq.get pnl_len h j x hj
  exact ⟨g, o, h1, h3, fun i v hv => h4 i v hv⟩
theorem wpList_load_pel {w : World} {g off : Nat} {ops : Array Oper} {rest : List Oper} {o : Oper} {a : Act} {Q : Exit → Act → World → Prop} (hgd : o.guard = none) (x : Operand) (ho : o.op = .load 23 x)
    (hx : a.eval x = .pointer (some ⟨g, off, none⟩)) {s : ByteArray} {z : Int} (hg : w.rangeAt g off [.string s, .int .i64 z]) (h : wpList Try.prog ops Q rest (a.put o.dst (.agg #[.string s, .int .i64 z])) w) : wpList Try.prog ops Q (o :: rest) a w :=
  wpList_load_mid hgd 23 x ho g off hx _ _ hg Try.underlying23 rfl psnSize h
set_option linter.unusedSimpArgs false in
set_option linter.unusedVariables false in
set_option maxRecDepth 100000 in
set_option maxHeartbeats 4000000 in
theorem pfnd {w : World} {Q : Nat → Prop} {z : Int} {K : List B8} {A : Option Addr} {ca : Nat} {l : List Psn} (n : List B8) (hA : Psns w Q A ca l) (hl : l.length ≤ 100000) :
    Calls Try.prog 10 #[.agg (cnl z K (.slice A l.length ca)).toArray, .string (sof n)] w fun e w' => e = .returned (fnr (pfind l n)) ∧ Below w.heap.size w w' := by
  obtain ⟨R, hR⟩ : ∃ R, R = pfind l n := ⟨_, rfl⟩
  rw [← hR]
  have HR := Lib.hid hR
  obtain ⟨N, hN⟩ : ∃ n, n = l.length := ⟨_, rfl⟩
  rw [← hN] at hl ⊢
  have HN := Lib.hid hN
  obtain ⟨p, hp⟩ : ∃ p, p = (w.alloc (.cells (cnl z K (.slice A N ca)).toArray 31)).alloc (.cells #[.string { data := #[] }, .int .i64 0] 23) := ⟨_, rfl⟩
  have hk : Whole p w.heap.size 31 (cnl z K (.slice A N ca)).toArray := by rw [hp]; exact (Whole.here _ _ _).alloc _
  have hz : Whole p (w.heap.size + 1) 23 #[.string { data := #[] }, .int .i64 0] := by rw [hp]; exact Whole.at_ _ _ _ _ (by simp)
  have hb : Below w.heap.size w p := by rw [hp]; exact ((Below.refl _ _).alloc (Nat.le_refl _) _).alloc (by simp) _
  have hps : w.heap.size + 1 < p.heap.size := hz.lt
  have hc := cnl_slot hk
  have HK := Lib.hid hk
  have HZ := Lib.hid hz
  have HB := Lib.hid hb
  have HA := Lib.hid (Seq.below hA hb (Nat.le_refl _))
  clear hR hN hA hb hk hz
  go_enter Try.func10, Try.ntmps10
  go_upto_region 1 with fail
  rw [← hp]
  clear hp
  go_wp2_with fail
  clear hc
  go_loopw [12] (fun v wr => ∃ j : Nat, v = .int .i64 j ∧ j ≤ N ∧ R = pfind (l.drop j) n ∧ Below p.heap.size p wr) (fun v _ => N - (intOf v).toNat)
  case atStart => exact ⟨0, rfl, by omega, HR.out, Below.refl _ _⟩
  case round =>
    obtain ⟨j, rfl, hj, hjr, hbw⟩ := hrel
    have hswr : p.heap.size ≤ wr.heap.size := hbw.size
    have HJ := Lib.hid hjr
    have HBW := Lib.hid hbw
    have HZ2 := Lib.hid (Whole.below HZ.out hbw (by omega))
    have HB2 := Lib.hid (HB.out.trans (hbw.mono (by omega)))
    have hc := cnl_slot (Whole.below HK.out hbw (by omega))
    clear hjr hbw
    by_cases hlt : j < N
    case neg =>
      obtain rfl : j = N := by omega
      obtain rfl : R = none := by rw [HJ.out, HN.out]; exact pfind_end l n
      clear HJ HN HA HR hlt hj HK HB HBW
      go_wp2_with (with_reducible refine wpList_store_psn rfl _ _ rfl (g := w.heap.size + 1) rfl rfl HZ2.out rfl ?_)
      refine bodyPost_ret (results_psn2 Try.results10 _ rfl _ rfl rfl (Whole.setRow HZ2.out _)) rfl ?_
      refine ⟨?_, below_setRow HB2.out (by omega) _⟩
      unfold fnr fnm fnb
      rw [sof_nil0]
      rfl
    obtain ⟨x, hx⟩ : ∃ x, l[j]? = some x := ⟨_, List.getElem?_eq_getElem (by have := HN.out; omega)⟩
    have hA2 := Seq.below HA.out HBW.out (Nat.le_refl _)
    obtain ⟨g, o, hAe, hgl, hra⟩ := psns_range hA2 j x hx
    have HRA := Lib.hid hra
    have j0 : (0 : Int) ≤ (j : Int) := by omega
    have jn : (j : Int) < (N : Int) := by omega
    have hpd := pfind_drop hx n
    rw [← HJ.out] at hpd
    have HPD := Lib.hid hpd
    obtain ⟨xs, xz⟩ := x
    dsimp only at HPD HRA
    subst hAe
    clear hx hA2 hra hpd HJ
    obtain ⟨q, hq⟩ : ∃ p, p = wr.alloc (.cells #[.string (sof xs), .int .i64 xz] 23) := ⟨_, rfl⟩
    have hrow : Whole q wr.heap.size 23 #[.string (sof xs), .int .i64 xz] := by rw [hq]; exact Whole.here _ _ _
    have hbq : Below wr.heap.size wr q := by rw [hq]; exact (Below.refl _ _).alloc (Nat.le_refl _) _
    have hsq : wr.heap.size < q.heap.size := hrow.lt
    go_upto_region 4 with (with_reducible refine wpList_load_pel rfl _ rfl rfl HRA.out ?_)
    rw [← hq]
    clear hq
    obtain ⟨q2, hq2⟩ : ∃ p, p = q.alloc (.cells #[.string (sof n), .int .i64 xz] 23) := ⟨_, rfl⟩
    have hrow2 : Whole q2 q.heap.size 23 #[.string (sof n), .int .i64 xz] := by rw [hq2]; exact Whole.here _ _ _
    have hbq2 : Below q.heap.size q q2 := by rw [hq2]; exact (Below.refl _ _).alloc (Nat.le_refl _) _
    have hrow1 : Whole q2 wr.heap.size 23 #[.string (sof xs), .int .i64 xz] := Whole.below hrow hbq2 hsq
    have hcx := hrow.cell 1
    have HROW := Lib.hid hrow1
    have HROW2 := Lib.hid hrow2
    have HZ3 := Lib.hid (Whole.below (Whole.below HZ2.out hbq (by omega)) hbq2 (by omega))
    have HQ2 := Lib.hid (hbq.trans (hbq2.mono (by omega)))
    clear hrow hrow1 hrow2 hbq hbq2
    go_upto_region 5 with fail
    rw [← hq2]
    clear hq2 hcx
    obtain ⟨E, hE⟩ : ∃ E, E = decide (xs = n) := ⟨_, rfl⟩
    have kq : ∀ W, (binOp .eql 23 (.agg #[.string (sof xs), .int .i64 xz]) (.agg #[.string (sof n), .int .i64 xz])).run Try.prog W = .ok (.bool E) W := fun W => by rw [run_eql_psn, hE]; simp
    have HE := Lib.hid hE
    clear hE
    cases E
    case true =>
      have hn := of_decide_eq_true HE.out.symm
      obtain rfl : R = some ⟨xs, xz⟩ := by rw [HPD.out, if_pos hn]
      clear hn HPD HE HA HR HN HK HB HBW
      go_wp2_with (first
        | (with_reducible refine wpList_load_psn rfl _ rfl rfl HROW.out rfl ?_)
        | (with_reducible refine wpList_load_psn rfl _ rfl rfl HROW2.out rfl ?_)
        | (with_reducible refine wpList_store_psn rfl _ _ rfl (g := w.heap.size + 1) rfl rfl HZ3.out rfl ?_))
      refine bodyPost_ret (results_psn2 Try.results10 _ rfl _ rfl rfl (Whole.setRow HZ3.out _)) rfl ?_
      exact ⟨rfl, below_setRow (HB2.out.trans (HQ2.out.mono (by omega))) (by omega) _⟩
    case false =>
      have hn := of_decide_eq_false HE.out.symm
      have HJ : Hid (R = pfind (l.drop (j + 1)) n) := Lib.hid (by rw [HPD.out, if_neg hn])
      clear hn HPD HE
      go_wp2_with (first
        | (with_reducible refine wpList_load_psn rfl _ rfl rfl HROW.out rfl ?_)
        | (with_reducible refine wpList_load_psn rfl _ rfl rfl HROW2.out rfl ?_))
      go_roundw
      case rel => exact ⟨j + 1, by go_num, by omega, HJ.out, HBW.out.trans (HQ2.out.mono (by omega))⟩
      case measure => simp [intOf]; omega
set_option linter.unusedSimpArgs false in
set_option linter.unusedVariables false in
set_option maxRecDepth 100000 in
set_option maxHeartbeats 4000000 in
theorem rfnd {w : World} {Q : Nat → Prop} {z : Int} {K : List B8} {A : Option Addr} {ca : Nat} {l : List Psn} (n : List B8) (hA : Psns w Q A ca l) (hl : l.length ≤ 100000) :
    Calls Try.prog 11 #[.agg (cnl z K (.slice A l.length ca)).toArray, .string (sof n)] w fun e w' => e = .returned (fnr (pfind l n)) ∧ Below w.heap.size w w' := by
  obtain ⟨R, hR⟩ : ∃ R, R = pfind l n := ⟨_, rfl⟩
  rw [← hR]
  have HR := Lib.hid hR
  obtain ⟨N, hN⟩ : ∃ n, n = l.length := ⟨_, rfl⟩
  rw [← hN] at hl ⊢
  have HN := Lib.hid hN
  obtain ⟨p, hp⟩ : ∃ p, p = (w.alloc (.cells (cnl z K (.slice A N ca)).toArray 31)).alloc (.cells #[.string { data := #[] }, .int .i64 0] 23) := ⟨_, rfl⟩
  have hk : Whole p w.heap.size 31 (cnl z K (.slice A N ca)).toArray := by rw [hp]; exact (Whole.here _ _ _).alloc _
  have hz : Whole p (w.heap.size + 1) 23 #[.string { data := #[] }, .int .i64 0] := by rw [hp]; exact Whole.at_ _ _ _ _ (by simp)
  have hb : Below w.heap.size w p := by rw [hp]; exact ((Below.refl _ _).alloc (Nat.le_refl _) _).alloc (by simp) _
  have hps : w.heap.size + 1 < p.heap.size := hz.lt
  have hc := cnl_slot hk
  have HK := Lib.hid hk
  have HZ := Lib.hid hz
  have HB := Lib.hid hb
  have HA := Lib.hid (Seq.below hA hb (Nat.le_refl _))
  clear hR hN hA hb hk hz
  go_enter Try.func11, Try.ntmps11
  go_upto_region 1 with fail
  rw [← hp]
  clear hp
  go_wp2_with fail
  clear hc
  go_loopw [6] (fun v wr => ∃ j : Nat, v = .int .i64 j ∧ j ≤ N ∧ R = pfind (l.drop j) n ∧ Below p.heap.size p wr) (fun v _ => N - (intOf v).toNat)
  case atStart => exact ⟨0, rfl, by omega, HR.out, Below.refl _ _⟩
  case round =>
    obtain ⟨j, rfl, hj, hjr, hbw⟩ := hrel
    have hswr : p.heap.size ≤ wr.heap.size := hbw.size
    have HJ := Lib.hid hjr
    have HBW := Lib.hid hbw
    have HZ2 := Lib.hid (Whole.below HZ.out hbw (by omega))
    have HB2 := Lib.hid (HB.out.trans (hbw.mono (by omega)))
    have hc := cnl_slot (Whole.below HK.out hbw (by omega))
    clear hjr hbw
    by_cases hlt : j < N
    case neg =>
      obtain rfl : j = N := by omega
      obtain rfl : R = none := by rw [HJ.out, HN.out]; exact pfind_end l n
      clear HJ HN HA HR hlt hj HK HB HBW
      go_wp2_with (with_reducible refine wpList_store_psn rfl _ _ rfl (g := w.heap.size + 1) rfl rfl HZ2.out rfl ?_)
      refine bodyPost_ret (results_psn2 Try.results11 _ rfl _ rfl rfl (Whole.setRow HZ2.out _)) rfl ?_
      refine ⟨?_, below_setRow HB2.out (by omega) _⟩
      unfold fnr fnm fnb
      rw [sof_nil0]
      rfl
    obtain ⟨x, hx⟩ : ∃ x, l[j]? = some x := ⟨_, List.getElem?_eq_getElem (by have := HN.out; omega)⟩
    have hA2 := Seq.below HA.out HBW.out (Nat.le_refl _)
    obtain ⟨g, o, hAe, hgl, hra⟩ := psns_range hA2 j x hx
    have HRA := Lib.hid hra
    have j0 : (0 : Int) ≤ (j : Int) := by omega
    have jn : (j : Int) < (N : Int) := by omega
    have hpd := pfind_drop hx n
    rw [← HJ.out] at hpd
    have HPD := Lib.hid hpd
    obtain ⟨xs, xz⟩ := x
    dsimp only at HPD HRA
    subst hAe
    clear hx hA2 hra hpd HJ
    have hcs : wr.cell? ⟨g, o + j * 2, none⟩ = some (.string (sof xs)) := HRA.out 0 _ rfl
    obtain ⟨E, hE⟩ : ∃ E, E = decide (xs = n) := ⟨_, rfl⟩
    have kq : ((sof xs).toList == (sof n).toList) = E := by rw [sof_beq, hE]
    have HE := Lib.hid hE
    clear hE
    cases E
    case true =>
      have hn := of_decide_eq_true HE.out.symm
      obtain rfl : R = some ⟨xs, xz⟩ := by rw [HPD.out, if_pos hn]
      clear hn HPD HE HA HR HN HK HB HBW
      go_wp2_with (first
        | (with_reducible refine wpList_load_pel rfl _ rfl rfl HRA.out ?_)
        | (with_reducible refine wpList_store_psn rfl _ _ rfl (g := w.heap.size + 1) rfl rfl HZ2.out rfl ?_))
      refine bodyPost_ret (results_psn2 Try.results11 _ rfl _ rfl rfl (Whole.setRow HZ2.out _)) rfl ?_
      exact ⟨rfl, below_setRow HB2.out (by omega) _⟩
    case false =>
      have hn := of_decide_eq_false HE.out.symm
      have HJ : Hid (R = pfind (l.drop (j + 1)) n) := Lib.hid (by rw [HPD.out, if_neg hn])
      clear hn HPD HE
      go_wp2_with fail
      go_roundw
      case rel => exact ⟨j + 1, by go_num, by omega, HJ.out, HBW.out⟩
      case measure => simp [intOf]; omega
end Go.Proofs.Yteekdhcffiaaaaa
