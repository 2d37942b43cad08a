/-
  AlgREnt
  AlgRSam
  AlgRSym
  AlgEq
  AlgRec
  AlgNTag
-/
import Derived.Deep.RegionHeld3
import Derived.Deep.CutBlock
import Derived.Deep.DeepCutAuto
import Derived.Test.YtiikhjifjdpgdaaDoorKSq
import Derived.Test.YtiikhjifjdpgdaaDoorPk15
import Derived.Test.YtiikhjifjdpgdaaDoorPk11
import Derived.Laws.CopyOwn
import Derived.Test.YtiikhjifjdpgdaaDoorPk24
import Derived.Test.YtiikhjifjdpgdaaDoorPk6
import Derived.Test.YtiikhjifjdpgdaaDoorPk14
import Derived.Test.YtiikhjifjdpgdaaDoorPk8
namespace Go.Proofs.YtiikhjifjdpgdaaDoor
open Go Go.RowKit Sh Leaf
namespace Sh

theorem fnd_cons (e : Me) (l : List Me) (k m : List B8) : fnd (e :: l) k m = if e.key = k ∧ e.msg = m then some e.tag else fnd l k m := by
  unfold fnd
  rw [List.find?_cons]
  by_cases h : e.key = k ∧ e.msg = m
  · rw [if_pos h, decide_eq_true h]; rfl
  · rw [if_neg h, decide_eq_false h]
theorem fnd_drop {l : List Me} {j : Nat} {e : Me} (h : l[j]? = some e) (k m : List B8) : fnd (l.drop j) k m = if e.key = k ∧ e.msg = m then some e.tag else fnd (l.drop (j + 1)) k m := by
  have hj := (List.getElem?_eq_some_iff.1 h).1
  have he := (List.getElem?_eq_some_iff.1 h).2
  rw [List.drop_eq_getElem_cons hj, he, fnd_cons]
theorem fnd_end (l : List Me) (k m : List B8) : fnd (l.drop l.length) k m = none := by rw [List.drop_length]; rfl
theorem fnd_len {l : List Me} {k m t : List B8} (h : fnd l k m = some t) (hl : ∀ e ∈ l, e.tag.length = 32) : t.length = 32 := by
  unfold fnd at h
  obtain ⟨e, he, rfl⟩ := Option.map_eq_some_iff.1 h
  exact hl e (List.mem_of_find?_eq_some he)
end Sh
abbrev fres (r : Option (List B8)) : Value := .tuple #[tagv (r.getD ztag), .bool r.isSome]
end Go.Proofs.YtiikhjifjdpgdaaDoor
namespace Go.Proofs.YtiikhjifjdpgdaaDoor
open Go Go.RowKit Sh Leaf
theorem wpList_load_wanted_at {ops : Array Oper} {rest : List Oper} {o : Oper} {a : Act} {w : World} {Q : Exit → Act → World → Prop} (hgd : Region.wanted o (yielded ops a.tmps) = true) (ty : TypeId) (x : Operand) (ho : o.op = .load ty x)
    (g k : Nat) (hx : a.eval x = .pointer (some ⟨g, k, none⟩)) (cs : List Value) (d : TypeDesc) (hc : w.rangeAt g k cs)
    (hu : Tryd.prog.underlying ty = some d) (hd : d.isRow = true) (hi : (Tryd.prog.info? ty).map (·.size) = some cs.length)
    (h : wpList Tryd.prog ops Q rest (a.put o.dst (.agg cs.toArray)) w) : wpList Tryd.prog ops Q (o :: rest) a w := by
  show if Region.wanted o (yielded ops a.tmps) then _ else _
  rw [if_pos hgd]
  left
  exact wp_load_mid ty x ho g k hx cs d hc hu hd hi h
@[irreducible] def zbr : Array Value := ((List.replicate 32 (0 : B8)).map byt ++ [Value.int .i64 0, Value.slice none 0 0, Value.slice none 0 0]).toArray
theorem BXRow.cells {w : World} {g : Nat} {x : BxM} (h : Whole w g 92 (bcl x).toArray) : w.cell? ⟨g, 32, none⟩ = some (.int .i64 x.e.nonce) ∧ w.cell? ⟨g, 33, none⟩ = some (.slice x.A x.e.plain.length x.c) ∧ w.cell? ⟨g, 34, none⟩ = some (.slice x.A2 x.e.box.length x.c2) := by
  have e : ∀ j, (bcl x).toArray[32 + j]? = ([.int .i64 x.e.nonce, .slice x.A x.e.plain.length x.c, .slice x.A2 x.e.box.length x.c2] : List Value)[j]? := fun j => by
    unfold bcl
    rw [List.getElem?_toArray, List.getElem?_append_right (by rw [p32_cells]; omega), p32_cells, show 32 + j - 32 = j by omega]
  exact ⟨(h.cell 32).trans (e 0), (h.cell 33).trans (e 1), (h.cell 34).trans (e 2)⟩
theorem BXRow.key {w : World} {g : Nat} {x : BxM} (h : Whole w g 92 (bcl x).toArray) (hk : x.e.key.length = 32) : w.rangeAt g 0 (x.e.key.map byt) := fun j v hj => by
  rw [Nat.zero_add, Whole.cell h]
  unfold bcl
  have hl := (List.getElem?_eq_some_iff.1 hj).1
  rw [List.length_map, hk] at hl
  rw [List.getElem?_toArray, List.getElem?_append_left (by rw [p32_cells]; exact hl), p32_eq hk]
  exact hj
end Go.Proofs.YtiikhjifjdpgdaaDoor
namespace Go.Proofs.YtiikhjifjdpgdaaDoor
open Go Go.RowKit Sh Leaf

theorem conv_mark {W : World} {g n c : Nat} {C : Array Value} (h : Whole W g 5 C) : (convert 23 23 (.slice (some ⟨g, 0, none⟩) n c)).run Tryd.prog W = .ok (.slice (some ⟨g, 0, none⟩) n c) (W.freeze ⟨g, C.size, none⟩ 1) := by
  have hsh : W.shape? g = some (5, C.size) := by unfold World.shape?; rw [h.eq]
  simp [convert, run_underlying Tryd.underlying23, run_underlying Tryd.underlying5, markStringish, hsh]
theorem own_mark {W : World} {g : Nat} {xs : List B8} {n : Nat} {C : Array Value} (h : Whole W g 5 C) (hC : C = (xs.map byt).toArray) (hn : xs.length = n) (hl : n ≤ 1000) {base : Nat} (hb : base ≤ g) : OwnM (W.freeze ⟨g, C.size, none⟩ 1) base (.slice (some ⟨g, 0, none⟩) n n) xs := by
  subst hn hC
  have hg : (W.freeze ⟨g, (xs.map byt).toArray.size, none⟩ 1).heap[g]? = some (.cells (xs.map byt).toArray 5 ((xs.map byt).toArray.size, (xs.map byt).toArray.size + 1)) := by
    unfold World.freeze
    rw [if_neg (by decide)]
    show (W.heap.modify g _)[g]? = _
    rw [Array.getElem?_modify, if_pos rfl, h.eq]
    rfl
  have hlt : g < (W.freeze ⟨g, (xs.map byt).toArray.size, none⟩ 1).heap.size := by
    rcases Nat.lt_or_ge g (W.freeze ⟨g, (xs.map byt).toArray.size, none⟩ 1).heap.size with q | q
    · exact q
    · rw [Array.getElem?_eq_none q] at hg; cases hg
  refine ⟨g, xs.length, rfl, hb, hlt, Nat.le_refl _, by unfold maxLen; omega, fun j x hj => ?_, fun j h1 h2 => by omega⟩
  unfold World.cell?
  simp only
  rw [hg]
  simp [hj]
theorem freeze_other (W : World) (g k n : Nat) (b : Nat) (h : b ≠ g) : (W.freeze ⟨g, k, none⟩ n).heap[b]? = W.heap[b]? := by
  unfold World.freeze
  split
  · rfl
  · show (W.heap.modify g _)[b]? = _
    rw [Array.getElem?_modify, if_neg (fun e => h e.symm)]
theorem freeze_below {B : Nat} {p W : World} {g k n : Nat} (h : Below B p W) (hg : B ≤ g) : Below B p (W.freeze ⟨g, k, none⟩ n) := by
  refine ⟨?_, ?_, ?_, ?_, fun b hb => (freeze_other W g k n b (by omega)).trans (h.block b hb)⟩
  · rw [show (W.freeze ⟨g, k, none⟩ n).os = W.os by unfold World.freeze; split <;> rfl]; exact h.os
  · rw [show (W.freeze ⟨g, k, none⟩ n).tape = W.tape by unfold World.freeze; split <;> rfl]; exact h.tape
  · rw [show (W.freeze ⟨g, k, none⟩ n).output = W.output by unfold World.freeze; split <;> rfl]; exact h.output
  · have : (W.freeze ⟨g, k, none⟩ n).heap.size = W.heap.size := by unfold World.freeze; split <;> simp
    rw [this]; exact h.size
theorem u64_wrap (z : Int) : IntKind.u64.wrap z = ((u64n z : Nat) : Int) := by rw [IntKind.wrap_u64]; unfold u64n; omega
theorem step_copy_bytes {w : World} {ops : Array Oper} {o : Oper} {a : Act} {K : Act → World → Prop} {R : Exit → Act → World → Prop} {E : Prop} (hgd : o.guard = none) (d s : Operand)
    (ho : o.op = .call { callee := .builtin .copy, args := #[d, s], argTypes := #[23, 23] })
    (g dLen dCap : Nat) (hd : a.eval d = .slice (some ⟨g, 0, none⟩) dLen dCap) (v2 : Value) (hs : a.eval s = v2) (Q : Nat → Prop) (ys : List B8) (hr : Bytes w Q v2 ys)
    (t : TypeId) (cur : List Value) (hg : Whole w g t cur.toArray) (hfit : ys.length ≤ dLen) (hsz : dLen ≤ cur.length)
    (h : ∀ w', Hid (Whole w' g t (ys.map byt ++ cur.drop ys.length).toArray) → Below g w w' → K (a.put o.dst (goInt ys.length)) w') :
    if Region.wanted o (yielded ops a.tmps) = true then Oper.wp Tryd.prog o a w K R else E := by
  obtain ⟨A, c, rfl, hc1, hc2, hc3, hc4⟩ := hr
  have hcsl : (ys.map byt).length = ys.length := by simp
  refine step_copy_splice hgd d s 23 23 ho 5 Tryd.underlying23 (by kernel_rfl) (some ⟨g, 0, none⟩) A dLen dCap ys.length c hd hs g 0 cur t hg (ys.map byt) (by rw [hcsl]; exact (Nat.min_eq_left hfit).symm)
    ?_ (by rw [hcsl]; omega) (byt_one ys) g w (Below.refl _ _) (Nat.le_refl _) ?_
  · intro hp
    rw [hcsl] at hp
    obtain ⟨g', o', rfl, _, hcell⟩ := hc4 hp
    refine ⟨rfl, _, rfl, fun j v hj => ?_⟩
    rw [Addr.add_mid]
    rw [List.getElem?_map] at hj
    cases hx : ys[j]? with
    | none => rw [hx] at hj; cases hj
    | some x => rw [hx] at hj; injection hj with hj; subst hj; exact hcell j x hx
  · intro w' hg' hb'
    rw [hcsl]
    refine h w' (Lib.hid ?_) hb'
    have := hg'.out
    have e : splice cur 0 (ys.map byt) = ys.map byt ++ cur.drop ys.length := by simp [splice]
    rw [e] at this
    exact this
theorem one_at (w : World) (x : B8) (g : Nat) (hg : g = w.heap.size) : Bytes (w.alloc (.cells #[.int .u8 (bv x)] 5)) (fun b => b = g) (.slice (some ⟨g, 0, none⟩) 1 1) [x] := by
  subst hg
  refine ⟨_, 1, rfl, by simp, by unfold maxLen; omega, fun h => (by cases h), fun _ => ⟨_, 0, rfl, rfl, fun j y hj => ?_⟩⟩
  rw [World.cell?_alloc_mark]
  match j, hj with
  | 0, hj => simp at hj; subst hj; rfl
  | j + 1, hj => simp at hj
set_option linter.unusedSimpArgs false in
set_option maxRecDepth 100000 in
set_option maxHeartbeats 4000000 in
theorem rsymbol (k : B8) (z : Int) (w : World) : Calls Tryd.prog 45 #[.int .u8 (bv k), .int .i64 z] w fun e w' => e = .returned (tagv (sym k z)) ∧ Below w.heap.size w w' := by
  have hwz := u64_wrap z
  go_enter Tryd.func45, Tryd.ntmps45
  go_upto_region 2 with fail
  rw [ztr_lit]
  obtain ⟨p, hp⟩ : ∃ p, p = (w.alloc (.cells ztr 28)).alloc (.cells ztr 28) := ⟨_, rfl⟩
  have k0 : TGRow p w.heap.size ztag := by rw [hp]; exact ztr_row ((Whole.here _ _ _).alloc _)
  have k1 : TGRow p (w.heap.size + 1) ztag := by rw [hp]; exact ztr_row (Whole.at_ _ _ _ _ (by simp))
  have hb0 : Below w.heap.size w p := by rw [hp]; exact ((Below.refl _ _).alloc (Nat.le_refl _) _).alloc (by simp) _
  have hps : w.heap.size + 1 < p.heap.size := k1.lt
  rw [← hp]
  clear hp
  have hst := fun g W => run_sliceAt_whole (P := Tryd.prog) (t := 28) (e := 5) (n := 32) Tryd.underlying28 (by kernel_rfl) g W
  have hbp : Below p.heap.size p p.drew := (Below.refl _ _).drew
  have HB0 := Lib.hid hb0
  have HK1 := Lib.hid k1
  have HK0 := Lib.hid k0
  clear hb0 k0 k1
  refine wp_region_held_drew (S := fun _ : World => True) (by kernel_rfl) (trivial) (fun hHeld => ?_)
  generalize p.drew = W0 at hbp ⊢
  apply wpT (i := 0) rfl (by kernel_rfl)
  case hQ => exact fun _ _ _ h => h
  case hS => exact hHeld
  case hy => (refine Or.inl ⟨by rfl, ?_⟩; intro w hSw; (try go_split_ands); go_simp; (try with_reducible rfl))
  (try simp only [sq])
  apply wpT (i := 3) rfl (by kernel_rfl)
  case hQ => exact fun _ _ _ h => h
  case hS => exact hHeld
  case hy => (refine Or.inl ⟨by rfl, ?_⟩; intro w hSw; (try go_split_ands); go_simp; (try with_reducible rfl))
  (try simp only [sq])
  apply wpT (i := 6) rfl (by kernel_rfl)
  case hQ => exact fun _ _ _ h => h
  case hS => exact hHeld
  case hy => (refine Or.inl ⟨by rfl, ?_⟩; intro w hSw; (try go_split_ands); go_simp; (try with_reducible rfl))
  (try simp only [sq])
  apply wpT (i := 7) rfl (by kernel_rfl)
  case hQ => exact fun _ _ _ h => h
  case hS => exact hHeld
  case hy => (refine Or.inl ⟨by rfl, ?_⟩; intro w hSw; (try go_split_ands); go_simp; (try with_reducible rfl))
  (try simp only [sq])
  refine wpAnyH_ready (rs := [1, 4]) (by kernel_rfl) (by simp) ?_
  refine AllReadyH.cons rfl (fun K hK => ?_) (AllReadyH.cons rfl (fun K hK => ?_) AllReadyH.nil)
  · (try simp only [sq])
    obtain ⟨g6, hg6⟩ : ∃ g, g = W0.heap.size := ⟨_, rfl⟩
    obtain ⟨W1, hW1⟩ : ∃ x, x = W0.alloc (.cells #[.int .u8 115, .int .u8 121, .int .u8 109, .int .u8 98, .int .u8 111, .int .u8 108] 5) := ⟨_, rfl⟩
    have b1 : Below p.heap.size p W1 := by rw [hW1]; exact hbp.alloc hbp.size _
    have six1 : Whole W1 g6 5 #[.int .u8 115, .int .u8 121, .int .u8 109, .int .u8 98, .int .u8 111, .int .u8 108] := by rw [hW1, hg6]; exact Whole.here _ _ _
    have p6 : p.heap.size ≤ g6 := by rw [hg6]; exact hbp.size
    go_simp
    rw [← hg6]
    rw [← hW1]
    clear hW1 hg6
    refine hK.out _ _ (trivial) (fun hHeld => ?_)
    clear hK K
    (try simp only [sq])
    refine wpAnyH_ready (rs := [2, 4]) (by kernel_rfl) (by simp) ?_
    refine AllReadyH.cons rfl (fun K hK => ?_) (AllReadyH.cons rfl (fun K hK => ?_) AllReadyH.nil)
    · (try simp only [sq])
      have hcv := conv_mark (n := 6) (c := 6) six1
      obtain ⟨W2, hW2⟩ : ∃ x, x = W1.freeze ⟨g6, (#[.int .u8 115, .int .u8 121, .int .u8 109, .int .u8 98, .int .u8 111, .int .u8 108] : Array Value).size, none⟩ 1 := ⟨_, rfl⟩
      rw [← hW2] at hcv
      have b2 : Below p.heap.size p W2 := by rw [hW2]; exact freeze_below b1 p6
      have own2 : OwnM W2 p.heap.size (.slice (some ⟨g6, 0, none⟩) 6 6) smb := by rw [hW2]; exact own_mark (n := 6) six1 smb_cells rfl (by omega) p6
      clear hW2
      go_simp
      clear hcv
      refine hK.out _ _ (trivial) (fun hHeld => ?_)
      clear hK K
      (try simp only [sq])
      refine wpAnyH_ready (rs := [4]) (by kernel_rfl) (by simp) ?_
      refine AllReadyH.cons rfl (fun K hK => ?_) AllReadyH.nil
      (try simp only [sq])
      obtain ⟨g1, hg1⟩ : ∃ g, g = W2.heap.size := ⟨_, rfl⟩
      obtain ⟨W3, hW3⟩ : ∃ x, x = W2.alloc (.cells #[.int .u8 (bv k)] 5) := ⟨_, rfl⟩
      have b3 : Below p.heap.size p W3 := by rw [hW3]; exact b2.alloc b2.size _
      have one3 : Bytes W3 (fun b => b = g1) (.slice (some ⟨g1, 0, none⟩) 1 1) [k] := by rw [hW3]; exact one_at _ _ _ hg1
      have one3_lt : g1 < W3.heap.size := by rw [hW3, hg1]; simp
      have own3 : OwnM W3 p.heap.size (.slice (some ⟨g6, 0, none⟩) 6 6) smb := by rw [hW3]; exact own2.alloc _
      go_simp
      rw [← hg1]
      rw [← hW3]
      clear hW3 hg1
      refine hK.out _ _ (trivial) (fun hHeld => ?_)
      clear hK K
      (try simp only [sq])
      refine wpAnyH_ready (rs := [5]) (by kernel_rfl) (by simp) ?_
      refine AllReadyH.cons rfl (fun K hK => ?_) AllReadyH.nil
      refine step_append_mark (by rfl) _ _ (by rfl) p.heap.size _ smb (by rfl) own3 _ _ [k] (by rfl) one3 (by simp) (by simp) b3.size ?_
      intro v4 w4 own4 hb4
      have b4 := b3.trans hb4
      refine hK.out _ _ (trivial) (fun hHeld => ?_)
      clear hK K
      (try simp only [sq])
      refine wpAnyH_ready (rs := [8]) (by kernel_rfl) (by simp) ?_
      refine AllReadyH.cons rfl (fun K hK => ?_) AllReadyH.nil
      (try simp only [sq])
      go_simp
      go_at_call 64
      refine (eight (u64n z) w4).mono ?_
      rintro e w5 ⟨v5, rfl, hv5, hb5⟩
      have b5 := b4.trans (hb5.mono b4.size)
      have own5 := own4.below hb5 (Nat.le_refl _)
      have by5 := Bytes.of_own hv5
      refine hK.out _ _ (trivial) (fun hHeld => ?_)
      clear hK K
      (try simp only [sq])
      refine wpAnyH_ready (rs := [9]) (by kernel_rfl) (by simp) ?_
      refine AllReadyH.cons rfl (fun K hK => ?_) AllReadyH.nil
      refine step_append_mark (by rfl) _ _ (by rfl) p.heap.size _ (smb ++ [k]) (by rfl) own5 _ _ (be8 (u64n z)) (by rfl) by5 (by rw [be8_length]; omega) (by rw [be8_length]; simp) b5.size ?_
      intro v6 w6 own6 hb6
      have b6 := b5.trans hb6
      have by6 := own6.bytes
      obtain ⟨Y, hY⟩ : ∃ Y, Y = smb ++ [k] ++ be8 (u64n z) := ⟨_, rfl⟩
      rw [← hY] at by6
      have hYl : Y.length = 15 := by rw [hY]; simp [be8_length]
      have hsym : Y ++ List.replicate 17 0#8 = sym k z := by rw [hY]; rfl
      have HSY := Lib.hid hsym
      have q0 : Whole w6 (w.heap.size + 1) 28 (ztag.map byt).toArray := Whole.below HK1.out b6 (by omega)
      clear own5 own6 hb6 hY hsym
      refine hK.out _ _ (trivial) (fun hHeld => ?_)
      clear hK K
      (try simp only [sq])
      refine wpAnyH_ready (rs := [10]) (by kernel_rfl) (by simp) ?_
      refine AllReadyH.cons rfl (fun K hK => ?_) AllReadyH.nil
      refine step_copy_bytes rfl _ _ rfl (w.heap.size + 1) 32 32 rfl _ rfl _ Y by6 _ (ztag.map byt) q0 (by omega) (by simp) ?_
      intro w' hw' hbw
      refine hK.out _ _ (trivial) (fun hHeld => ?_)
      clear hK K
      (try simp only [sq])
      refine wpAnyH_done (by kernel_rfl) ?_ _
      have hrow : TGRow w' (w.heap.size + 1) (sym k z) := by
        have e : List.map byt Y ++ List.map byt (List.replicate 17 0#8) = (sym k z).map byt := by rw [← List.map_append, HSY.out]
        have h := hw'.out
        rw [hYl] at h
        show Whole w' (w.heap.size + 1) _ _
        rw [← e]
        exact h
      have hk0 : TGRow w' w.heap.size ztag := Whole.below (Whole.below HK0.out b6 (by omega)) hbw (by omega)
      have hbf : Below w.heap.size w w' := HB0.out.trans ((b6.mono (by omega)).trans (hbw.mono (by omega)))
      have HR := Lib.hid hrow
      have HK := Lib.hid hk0
      have HF := Lib.hid hbf
      have hsl := sym_length k z
      have hz1 : ((sym k z).map byt).toArray.size = 32 := by simp [hsl]
      clear hw' hbw hrow hk0 hbf hst HK0 HK1 HB0 HSY hYl hsl by6 q0 b6 b5 b4
      go_wp2_with (first
        | (with_reducible refine wpList_load_row rfl 28 _ rfl (w.heap.size + 1) rfl _ _ _ _ HR.out.eq Tryd.underlying28 rfl (by rw [tagSize, hz1]) ?_)
        | (with_reducible refine wpList_store_row rfl 28 _ _ rfl w.heap.size _ rfl rfl _ _ HK.out.eq (by rw [tagSize, hz1]) (by rw [hz1]; simp) (all_oneCell_toArray (byt_one _)) ?_))
      have h3 := Whole.setRow HK.out ((sym k z).map byt).toArray
      refine bodyPost_ret (results_cell_row Tryd.results45 _ _ w.heap.size _ _ _ _ rfl h3 Tryd.underlying28 rfl (by rw [tagSize, hz1])) rfl ⟨rfl, below_setRow HF.out (Nat.le_refl _) _⟩
    · (try simp only [sq])
      obtain ⟨g1, hg1⟩ : ∃ g, g = W1.heap.size := ⟨_, rfl⟩
      obtain ⟨W2, hW2⟩ : ∃ x, x = W1.alloc (.cells #[.int .u8 (bv k)] 5) := ⟨_, rfl⟩
      have b2 : Below p.heap.size p W2 := by rw [hW2]; exact b1.alloc b1.size _
      have one2 : Bytes W2 (fun b => b = g1) (.slice (some ⟨g1, 0, none⟩) 1 1) [k] := by rw [hW2]; exact one_at _ _ _ hg1
      have one2_lt : g1 < W2.heap.size := by rw [hW2, hg1]; simp
      have six2 : Whole W2 g6 5 #[.int .u8 115, .int .u8 121, .int .u8 109, .int .u8 98, .int .u8 111, .int .u8 108] := by rw [hW2]; exact Whole.alloc six1 _
      have hne : g1 ≠ g6 := by have := Whole.lt six1; omega
      go_simp
      rw [← hg1]
      rw [← hW2]
      clear hW2 hg1
      refine hK.out _ _ (trivial) (fun hHeld => ?_)
      clear hK K
      (try simp only [sq])
      refine wpAnyH_ready (rs := [2]) (by kernel_rfl) (by simp) ?_
      refine AllReadyH.cons rfl (fun K hK => ?_) AllReadyH.nil
      (try simp only [sq])
      have hcv := conv_mark (n := 6) (c := 6) six2
      obtain ⟨W3, hW3⟩ : ∃ x, x = W2.freeze ⟨g6, (#[.int .u8 115, .int .u8 121, .int .u8 109, .int .u8 98, .int .u8 111, .int .u8 108] : Array Value).size, none⟩ 1 := ⟨_, rfl⟩
      rw [← hW3] at hcv
      have b3 : Below p.heap.size p W3 := by rw [hW3]; exact freeze_below b2 p6
      have own3 : OwnM W3 p.heap.size (.slice (some ⟨g6, 0, none⟩) 6 6) smb := by rw [hW3]; exact own_mark (n := 6) six2 smb_cells rfl (by omega) p6
      have one3 : Bytes W3 (fun b => b = g1) (.slice (some ⟨g1, 0, none⟩) 1 1) [k] := by rw [hW3]; exact one2.keep fun b _ hb => freeze_other _ _ _ _ _ (by rw [hb]; exact hne)
      clear hW3
      go_simp
      clear hcv
      refine hK.out _ _ (trivial) (fun hHeld => ?_)
      clear hK K
      (try simp only [sq])
      refine wpAnyH_ready (rs := [5]) (by kernel_rfl) (by simp) ?_
      refine AllReadyH.cons rfl (fun K hK => ?_) AllReadyH.nil
      refine step_append_mark (by rfl) _ _ (by rfl) p.heap.size _ smb (by rfl) own3 _ _ [k] (by rfl) one3 (by simp) (by simp) b3.size ?_
      intro v4 w4 own4 hb4
      have b4 := b3.trans hb4
      refine hK.out _ _ (trivial) (fun hHeld => ?_)
      clear hK K
      (try simp only [sq])
      refine wpAnyH_ready (rs := [8]) (by kernel_rfl) (by simp) ?_
      refine AllReadyH.cons rfl (fun K hK => ?_) AllReadyH.nil
      (try simp only [sq])
      go_simp
      go_at_call 64
      refine (eight (u64n z) w4).mono ?_
      rintro e w5 ⟨v5, rfl, hv5, hb5⟩
      have b5 := b4.trans (hb5.mono b4.size)
      have own5 := own4.below hb5 (Nat.le_refl _)
      have by5 := Bytes.of_own hv5
      refine hK.out _ _ (trivial) (fun hHeld => ?_)
      clear hK K
      (try simp only [sq])
      refine wpAnyH_ready (rs := [9]) (by kernel_rfl) (by simp) ?_
      refine AllReadyH.cons rfl (fun K hK => ?_) AllReadyH.nil
      refine step_append_mark (by rfl) _ _ (by rfl) p.heap.size _ (smb ++ [k]) (by rfl) own5 _ _ (be8 (u64n z)) (by rfl) by5 (by rw [be8_length]; omega) (by rw [be8_length]; simp) b5.size ?_
      intro v6 w6 own6 hb6
      have b6 := b5.trans hb6
      have by6 := own6.bytes
      obtain ⟨Y, hY⟩ : ∃ Y, Y = smb ++ [k] ++ be8 (u64n z) := ⟨_, rfl⟩
      rw [← hY] at by6
      have hYl : Y.length = 15 := by rw [hY]; simp [be8_length]
      have hsym : Y ++ List.replicate 17 0#8 = sym k z := by rw [hY]; rfl
      have HSY := Lib.hid hsym
      have q0 : Whole w6 (w.heap.size + 1) 28 (ztag.map byt).toArray := Whole.below HK1.out b6 (by omega)
      clear own5 own6 hb6 hY hsym
      refine hK.out _ _ (trivial) (fun hHeld => ?_)
      clear hK K
      (try simp only [sq])
      refine wpAnyH_ready (rs := [10]) (by kernel_rfl) (by simp) ?_
      refine AllReadyH.cons rfl (fun K hK => ?_) AllReadyH.nil
      refine step_copy_bytes rfl _ _ rfl (w.heap.size + 1) 32 32 rfl _ rfl _ Y by6 _ (ztag.map byt) q0 (by omega) (by simp) ?_
      intro w' hw' hbw
      refine hK.out _ _ (trivial) (fun hHeld => ?_)
      clear hK K
      (try simp only [sq])
      refine wpAnyH_done (by kernel_rfl) ?_ _
      have hrow : TGRow w' (w.heap.size + 1) (sym k z) := by
        have e : List.map byt Y ++ List.map byt (List.replicate 17 0#8) = (sym k z).map byt := by rw [← List.map_append, HSY.out]
        have h := hw'.out
        rw [hYl] at h
        show Whole w' (w.heap.size + 1) _ _
        rw [← e]
        exact h
      have hk0 : TGRow w' w.heap.size ztag := Whole.below (Whole.below HK0.out b6 (by omega)) hbw (by omega)
      have hbf : Below w.heap.size w w' := HB0.out.trans ((b6.mono (by omega)).trans (hbw.mono (by omega)))
      have HR := Lib.hid hrow
      have HK := Lib.hid hk0
      have HF := Lib.hid hbf
      have hsl := sym_length k z
      have hz1 : ((sym k z).map byt).toArray.size = 32 := by simp [hsl]
      clear hw' hbw hrow hk0 hbf hst HK0 HK1 HB0 HSY hYl hsl by6 q0 b6 b5 b4
      go_wp2_with (first
        | (with_reducible refine wpList_load_row rfl 28 _ rfl (w.heap.size + 1) rfl _ _ _ _ HR.out.eq Tryd.underlying28 rfl (by rw [tagSize, hz1]) ?_)
        | (with_reducible refine wpList_store_row rfl 28 _ _ rfl w.heap.size _ rfl rfl _ _ HK.out.eq (by rw [tagSize, hz1]) (by rw [hz1]; simp) (all_oneCell_toArray (byt_one _)) ?_))
      have h3 := Whole.setRow HK.out ((sym k z).map byt).toArray
      refine bodyPost_ret (results_cell_row Tryd.results45 _ _ w.heap.size _ _ _ _ rfl h3 Tryd.underlying28 rfl (by rw [tagSize, hz1])) rfl ⟨rfl, below_setRow HF.out (Nat.le_refl _) _⟩
  · (try simp only [sq])
    obtain ⟨g1, hg1⟩ : ∃ g, g = W0.heap.size := ⟨_, rfl⟩
    obtain ⟨W1, hW1⟩ : ∃ x, x = W0.alloc (.cells #[.int .u8 (bv k)] 5) := ⟨_, rfl⟩
    have b1 : Below p.heap.size p W1 := by rw [hW1]; exact hbp.alloc hbp.size _
    have one1 : Bytes W1 (fun b => b = g1) (.slice (some ⟨g1, 0, none⟩) 1 1) [k] := by rw [hW1]; exact one_at _ _ _ hg1
    have one1_lt : g1 < W1.heap.size := by rw [hW1, hg1]; simp
    go_simp
    rw [← hg1]
    rw [← hW1]
    clear hW1 hg1
    refine hK.out _ _ (trivial) (fun hHeld => ?_)
    clear hK K
    (try simp only [sq])
    refine wpAnyH_ready (rs := [1]) (by kernel_rfl) (by simp) ?_
    refine AllReadyH.cons rfl (fun K hK => ?_) AllReadyH.nil
    (try simp only [sq])
    obtain ⟨g6, hg6⟩ : ∃ g, g = W1.heap.size := ⟨_, rfl⟩
    obtain ⟨W2, hW2⟩ : ∃ x, x = W1.alloc (.cells #[.int .u8 115, .int .u8 121, .int .u8 109, .int .u8 98, .int .u8 111, .int .u8 108] 5) := ⟨_, rfl⟩
    have b2 : Below p.heap.size p W2 := by rw [hW2]; exact b1.alloc b1.size _
    have six2 : Whole W2 g6 5 #[.int .u8 115, .int .u8 121, .int .u8 109, .int .u8 98, .int .u8 111, .int .u8 108] := by rw [hW2, hg6]; exact Whole.here _ _ _
    have p6 : p.heap.size ≤ g6 := by rw [hg6]; exact b1.size
    have one2 : Bytes W2 (fun b => b = g1) (.slice (some ⟨g1, 0, none⟩) 1 1) [k] := by rw [hW2]; exact one1.alloc _
    have hne : g1 ≠ g6 := by have := one1_lt; omega
    go_simp
    rw [← hg6]
    rw [← hW2]
    clear hW2 hg6
    refine hK.out _ _ (trivial) (fun hHeld => ?_)
    clear hK K
    (try simp only [sq])
    refine wpAnyH_ready (rs := [2]) (by kernel_rfl) (by simp) ?_
    refine AllReadyH.cons rfl (fun K hK => ?_) AllReadyH.nil
    (try simp only [sq])
    have hcv := conv_mark (n := 6) (c := 6) six2
    obtain ⟨W3, hW3⟩ : ∃ x, x = W2.freeze ⟨g6, (#[.int .u8 115, .int .u8 121, .int .u8 109, .int .u8 98, .int .u8 111, .int .u8 108] : Array Value).size, none⟩ 1 := ⟨_, rfl⟩
    rw [← hW3] at hcv
    have b3 : Below p.heap.size p W3 := by rw [hW3]; exact freeze_below b2 p6
    have own3 : OwnM W3 p.heap.size (.slice (some ⟨g6, 0, none⟩) 6 6) smb := by rw [hW3]; exact own_mark (n := 6) six2 smb_cells rfl (by omega) p6
    have one3 : Bytes W3 (fun b => b = g1) (.slice (some ⟨g1, 0, none⟩) 1 1) [k] := by rw [hW3]; exact one2.keep fun b _ hb => freeze_other _ _ _ _ _ (by rw [hb]; exact hne)
    clear hW3
    go_simp
    clear hcv
    refine hK.out _ _ (trivial) (fun hHeld => ?_)
    clear hK K
    (try simp only [sq])
    refine wpAnyH_ready (rs := [5]) (by kernel_rfl) (by simp) ?_
    refine AllReadyH.cons rfl (fun K hK => ?_) AllReadyH.nil
    refine step_append_mark (by rfl) _ _ (by rfl) p.heap.size _ smb (by rfl) own3 _ _ [k] (by rfl) one3 (by simp) (by simp) b3.size ?_
    intro v4 w4 own4 hb4
    have b4 := b3.trans hb4
    refine hK.out _ _ (trivial) (fun hHeld => ?_)
    clear hK K
    (try simp only [sq])
    refine wpAnyH_ready (rs := [8]) (by kernel_rfl) (by simp) ?_
    refine AllReadyH.cons rfl (fun K hK => ?_) AllReadyH.nil
    (try simp only [sq])
    go_simp
    go_at_call 64
    refine (eight (u64n z) w4).mono ?_
    rintro e w5 ⟨v5, rfl, hv5, hb5⟩
    have b5 := b4.trans (hb5.mono b4.size)
    have own5 := own4.below hb5 (Nat.le_refl _)
    have by5 := Bytes.of_own hv5
    refine hK.out _ _ (trivial) (fun hHeld => ?_)
    clear hK K
    (try simp only [sq])
    refine wpAnyH_ready (rs := [9]) (by kernel_rfl) (by simp) ?_
    refine AllReadyH.cons rfl (fun K hK => ?_) AllReadyH.nil
    refine step_append_mark (by rfl) _ _ (by rfl) p.heap.size _ (smb ++ [k]) (by rfl) own5 _ _ (be8 (u64n z)) (by rfl) by5 (by rw [be8_length]; omega) (by rw [be8_length]; simp) b5.size ?_
    intro v6 w6 own6 hb6
    have b6 := b5.trans hb6
    have by6 := own6.bytes
    obtain ⟨Y, hY⟩ : ∃ Y, Y = smb ++ [k] ++ be8 (u64n z) := ⟨_, rfl⟩
    rw [← hY] at by6
    have hYl : Y.length = 15 := by rw [hY]; simp [be8_length]
    have hsym : Y ++ List.replicate 17 0#8 = sym k z := by rw [hY]; rfl
    have HSY := Lib.hid hsym
    have q0 : Whole w6 (w.heap.size + 1) 28 (ztag.map byt).toArray := Whole.below HK1.out b6 (by omega)
    clear own5 own6 hb6 hY hsym
    refine hK.out _ _ (trivial) (fun hHeld => ?_)
    clear hK K
    (try simp only [sq])
    refine wpAnyH_ready (rs := [10]) (by kernel_rfl) (by simp) ?_
    refine AllReadyH.cons rfl (fun K hK => ?_) AllReadyH.nil
    refine step_copy_bytes rfl _ _ rfl (w.heap.size + 1) 32 32 rfl _ rfl _ Y by6 _ (ztag.map byt) q0 (by omega) (by simp) ?_
    intro w' hw' hbw
    refine hK.out _ _ (trivial) (fun hHeld => ?_)
    clear hK K
    (try simp only [sq])
    refine wpAnyH_done (by kernel_rfl) ?_ _
    have hrow : TGRow w' (w.heap.size + 1) (sym k z) := by
      have e : List.map byt Y ++ List.map byt (List.replicate 17 0#8) = (sym k z).map byt := by rw [← List.map_append, HSY.out]
      have h := hw'.out
      rw [hYl] at h
      show Whole w' (w.heap.size + 1) _ _
      rw [← e]
      exact h
    have hk0 : TGRow w' w.heap.size ztag := Whole.below (Whole.below HK0.out b6 (by omega)) hbw (by omega)
    have hbf : Below w.heap.size w w' := HB0.out.trans ((b6.mono (by omega)).trans (hbw.mono (by omega)))
    have HR := Lib.hid hrow
    have HK := Lib.hid hk0
    have HF := Lib.hid hbf
    have hsl := sym_length k z
    have hz1 : ((sym k z).map byt).toArray.size = 32 := by simp [hsl]
    clear hw' hbw hrow hk0 hbf hst HK0 HK1 HB0 HSY hYl hsl by6 q0 b6 b5 b4
    go_wp2_with (first
      | (with_reducible refine wpList_load_row rfl 28 _ rfl (w.heap.size + 1) rfl _ _ _ _ HR.out.eq Tryd.underlying28 rfl (by rw [tagSize, hz1]) ?_)
      | (with_reducible refine wpList_store_row rfl 28 _ _ rfl w.heap.size _ rfl rfl _ _ HK.out.eq (by rw [tagSize, hz1]) (by rw [hz1]; simp) (all_oneCell_toArray (byt_one _)) ?_))
    have h3 := Whole.setRow HK.out ((sym k z).map byt).toArray
    refine bodyPost_ret (results_cell_row Tryd.results45 _ _ w.heap.size _ _ _ _ rfl h3 Tryd.underlying28 rfl (by rw [tagSize, hz1])) rfl ⟨rfl, below_setRow HF.out (Nat.le_refl _) _⟩
end Go.Proofs.YtiikhjifjdpgdaaDoor
namespace Go.Proofs.YtiikhjifjdpgdaaDoor
open Go Go.RowKit Sh Leaf

theorem mcl_parts {w : World} {g o : Nat} {e : Me} {D : Option Addr} {d : Nat} (hk : e.key.length = 32) (ht : e.tag.length = 32) (hc : w.rangeAt g o (mcl ⟨e, D, d⟩)) :
    w.rangeAt g o (e.key.map byt) ∧ w.cell? ⟨g, o + 32, none⟩ = some (.slice D e.msg.length d) ∧ w.rangeAt g (o + 33) (e.tag.map byt) := by
  have ek : (p32 e.key).map byt = e.key.map byt := by rw [p32_eq hk]
  have et : (p32 e.tag).map byt = e.tag.map byt := by rw [p32_eq ht]
  refine ⟨fun i v hv => hc i v ?_, hc 32 _ ?_, fun i v hv => ?_⟩
  · unfold mcl
    rw [List.getElem?_append_left (by rw [p32_cells]; have := (List.getElem?_eq_some_iff.1 hv).1; rw [List.length_map, hk] at this; exact this), ek]
    exact hv
  · unfold mcl
    rw [List.getElem?_append_right (by rw [p32_cells]; omega), p32_cells]
    rfl
  · have := hc (33 + i) v (by
      unfold mcl
      rw [List.getElem?_append_right (by rw [p32_cells]; omega), p32_cells, show 33 + i - 32 = i + 1 by omega, List.getElem?_cons_succ, et]
      exact hv)
    rw [show o + 33 + i = o + (33 + i) by omega]
    exact this
end Go.Proofs.YtiikhjifjdpgdaaDoor
namespace Go.Proofs.YtiikhjifjdpgdaaDoor
open Go Go.RowKit Sh Leaf

set_option linter.unusedSimpArgs false in
set_option maxRecDepth 100000 in
set_option maxHeartbeats 1000000 in
theorem arec1 {e : Me} {D B : Option Addr} {c d gk gm : Nat} {K m : List B8} {Q Q2 : Nat → Prop} (w : World) (hk : e.key.length = 32) (ht : e.tag.length = 32) (hK : K.length = 32) (hby : Bytes w Q (.slice D e.msg.length c) e.msg) (hm : Bytes w Q2 (.slice B m.length d) m)
    (hgk : TGRow w gk K) (hgm : w.cell? ⟨gm, 0, none⟩ = some (.slice B m.length d)) (hgl : gm < w.heap.size) :
    Calls Tryd.prog 73 #[.agg (mcl ⟨e, D, c⟩).toArray, .pointer (some ⟨gk, 0, none⟩), .pointer (some ⟨gm, 0, none⟩)] w fun x w' => x = .returned (.bool (decide (e.key = K ∧ e.msg = m))) ∧ Below w.heap.size w w' := by
  obtain ⟨p, hp⟩ : ∃ p, p = w.alloc (.cells (mcl ⟨e, D, c⟩).toArray 90) := ⟨_, rfl⟩
  have hb : Below w.heap.size w p := by rw [hp]; exact (Below.refl _ _).alloc (Nat.le_refl _) _
  have hrow : Whole p w.heap.size 90 (mcl ⟨e, D, c⟩).toArray := by rw [hp]; exact Whole.here _ _ _
  obtain ⟨r1, r2, r3⟩ := mcl_parts (o := 0) hk ht (Whole.range hrow)
  have hkr := TGRow.range (Whole.below hgk hb (Whole.lt hgk))
  have hm2 : p.cell? ⟨gm, 0, none⟩ = some (.slice B m.length d) := (hb.cell (p := ⟨gm, 0, none⟩) hgl).trans hgm
  have hl1 : (e.key.map byt).length = 32 := by rw [List.length_map, hk]
  have hl2 : (K.map byt).length = 32 := by rw [List.length_map, hK]
  have hqq := fun W => run_eql_tag hk hK W
  have hbe := bequal _ _ c d e.msg m _ _ p (hby.below hb (Nat.le_refl _)) (hm.below hb (Nat.le_refl _))
  obtain ⟨R, hR⟩ : ∃ R, R = decide (e.key = K ∧ e.msg = m) := ⟨_, rfl⟩
  rw [← hR]
  have HB := Lib.hid hb
  clear hb hrow hgk hgm hby hm r3 hgl
  go_enter Tryd.func73, Tryd.ntmps73
  go_upto_region 1 with fail
  rw [← hp]
  clear hp
  by_cases hke : e.key = K
  · rw [decide_eq_true hke] at hqq
    have hRR : R = decide (e.msg = m) := by rw [hR]; exact decide_eq_decide.2 ⟨fun h => h.2, fun h => ⟨hke, h⟩⟩
    clear hR hke
    go_wp2_with (first
      | (with_reducible refine wpList_load_mid rfl 28 _ rfl w.heap.size 0 rfl _ _ r1 Tryd.underlying28 rfl (by rw [tagSize, hl1]) ?_)
      | (with_reducible refine wpList_load_mid rfl 28 _ rfl gk 0 rfl _ _ hkr Tryd.underlying28 rfl (by rw [tagSize, hl2]) ?_))
    refine hbe.mono ?_
    rintro x w1 ⟨rfl, rfl⟩
    rw [← hRR]
    clear hRR
    go_wp2
    go_ret
    exact ⟨rfl, HB.out⟩
  · rw [decide_eq_false hke] at hqq
    obtain rfl : R = false := by rw [hR]; exact decide_eq_false fun h => hke h.1
    clear hR hke hbe
    go_wp2_with (first
      | (with_reducible refine wpList_load_mid rfl 28 _ rfl w.heap.size 0 rfl _ _ r1 Tryd.underlying28 rfl (by rw [tagSize, hl1]) ?_)
      | (with_reducible refine wpList_load_mid rfl 28 _ rfl gk 0 rfl _ _ hkr Tryd.underlying28 rfl (by rw [tagSize, hl2]) ?_))
    go_ret
    exact ⟨rfl, HB.out⟩
def IxM (l : List Me) (K m : List B8) (e : Ending) : Prop := ∃ r : Int, e = .returned (.int .i64 r) ∧ ((r = -1 ∧ fnd l K m = none) ∨ ∃ (i : Nat) (x : Me), r = i ∧ l[i]? = some x ∧ fnd l K m = some x.tag)
theorem macSize65 : (Tryd.prog.info? 90).map (·.size) = some 65 := macSize
set_option linter.unusedSimpArgs false in
set_option maxRecDepth 100000 in
set_option maxHeartbeats 2000000 in
theorem aindexm {w : World} {Q Q2 : Nat → Prop} {A B : Option Addr} {c d gk gm : Nat} {l : List Me} {K m : List B8} (h : Macs w Q A c l) (hl : l.length ≤ 1000) (hK : K.length = 32) (hm : Bytes w Q2 (.slice B m.length d) m) (hgk : TGRow w gk K) (hgm : w.cell? ⟨gm, 0, none⟩ = some (.slice B m.length d)) (hgl : gm < w.heap.size) :
    Calls Tryd.prog 72 #[.slice A l.length c, .func (.func 73) #[] #[.pointer (some ⟨gk, 0, none⟩), .pointer (some ⟨gm, 0, none⟩)]] w fun e w' => IxM l K m e ∧ Below w.heap.size w w' := by
  have HM := Lib.hid h
  obtain ⟨n, hn⟩ : ∃ n, n = l.length := ⟨_, rfl⟩
  rw [← hn] at hl ⊢
  have HN := Lib.hid hn
  obtain ⟨R, hR⟩ : ∃ R, R = fnd l K m := ⟨_, rfl⟩
  have HR := Lib.hid hR
  have HBM := Lib.hid hm
  have HGK := Lib.hid hgk
  have HGM := Lib.hid hgm
  clear h hn hR hm hgk hgm
  go_enter Tryd.func72, Tryd.ntmps72
  go_wp2_with fail
  go_loopw [8] (fun iv wr => ∃ i : Nat, iv = .int .i64 i ∧ i ≤ n ∧ fnd (l.drop i) K m = R ∧ Below w.heap.size w wr) (fun iv _ => n - (intOf iv).toNat)
  case atStart => exact ⟨0, rfl, by omega, by rw [List.drop_zero]; exact HR.out.symm, Below.refl _ _⟩
  case round =>
    obtain ⟨i, rfl, hi, hf, hlow⟩ := hrel
    have HF := Lib.hid hf
    have HB := Lib.hid hlow
    clear hf
    by_cases hin : i < n
    case neg =>
      obtain rfl : i = n := by omega
      have HX : Hid (IxM l K m (.returned (.int .i64 (-1)))) := Lib.hid ⟨-1, rfl, .inl ⟨rfl, by rw [← HR.out, ← HF.out, HN.out, fnd_end]⟩⟩
      clear hlow
      go_wp2_with fail
      go_ret
      exact ⟨HX.out, HB.out⟩
    obtain ⟨e, he⟩ : ∃ e, l[i]? = some e := ⟨_, List.getElem?_eq_getElem (by have := HN.out; omega)⟩
    obtain ⟨g, o, D, dc, rfl, hq, hg, -, -, -, hby, hk32, ht32, -, hall⟩ := Macs.get (HM.out.below hlow (Nat.le_refl _)) i e he
    have HE := Lib.hid he
    have HS := Lib.hid (fnd_drop he K m)
    have hcl := arec1 wr hk32 ht32 hK hby (HBM.out.below hlow (Nat.le_refl _)) (Whole.below HGK.out hlow (Whole.lt HGK.out)) ((hlow.cell (p := ⟨gm, 0, none⟩) hgl).trans HGM.out) (Nat.lt_of_lt_of_le hgl hlow.size)
    obtain ⟨V, hV⟩ : ∃ V, V = decide (e.key = K ∧ e.msg = m) := ⟨_, rfl⟩
    rw [← hV] at hcl
    have HV := Lib.hid hV
    have hi0 : (0 : Int) ≤ (i : Int) := by omega
    have hi1 : (i : Int) < (n : Int) := by omega
    have hml := mcl_len ⟨e, D, dc⟩
    clear he hlow hq hby hk32 ht32 hV
    go_wp2_with (with_reducible refine wpList_load_mid rfl 90 _ rfl g (o + i * 65) rfl _ _ hall Tryd.underlying90 rfl (by rw [macSize65, hml]) ?_)
    refine hcl.mono ?_
    rintro x w2 ⟨rfl, hb2⟩
    have HB2 := Lib.hid (HB.out.trans (hb2.mono HB.out.size))
    clear hcl hb2 hall hml
    cases V
    · have HX : Hid (fnd (l.drop (i + 1)) K m = R) := Lib.hid (by have := HS.out; rw [HF.out, if_neg (of_decide_eq_false HV.out.symm)] at this; exact this.symm)
      go_wp2_with fail
      go_roundw
      case rel => exact ⟨i + 1, by go_num, by omega, HX.out, HB2.out⟩
      case measure => simp [intOf]; omega
    · have HX : Hid (IxM l K m (.returned (.int .i64 (i : Nat)))) := Lib.hid ⟨(i : Nat), rfl, .inr ⟨i, e, rfl, HE.out, by
        have := HS.out
        rw [HF.out, if_pos (of_decide_eq_true HV.out.symm)] at this
        rw [← HR.out]; exact this⟩⟩
      go_wp2_with fail
      go_ret
      exact ⟨HX.out, HB2.out⟩
set_option linter.unusedSimpArgs false in
set_option maxRecDepth 100000 in
set_option maxHeartbeats 2000000 in
theorem arecorded {w : World} {Q Q2 : Nat → Prop} {A B : Option Addr} {c d : Nat} {l : List Me} {K m : List B8} (h : Macs w Q A c l) (hl : l.length ≤ 1000) (hK : K.length = 32) (hm : Bytes w Q2 (.slice B m.length d) m) :
    Calls Tryd.prog 38 #[.slice A l.length c, .agg (K.map byt).toArray, .slice B m.length d] w fun e w' => e = .returned (fres (fnd l K m)) ∧ Below w.heap.size w w' := by
  obtain ⟨p, hp⟩ : ∃ p, p = ((w.alloc (.cells (K.map byt).toArray 28)).alloc (.cells #[.slice B m.length d] 23)).alloc (.cells ztr 28) := ⟨_, rfl⟩
  have hk : TGRow p w.heap.size K := by rw [hp]; exact ((Whole.here _ _ _).alloc _).alloc _
  have hmc : Whole p (w.heap.size + 1) 23 #[.slice B m.length d] := by rw [hp]; exact (Whole.at_ _ _ _ _ (by simp)).alloc _
  have hz : TGRow p (w.heap.size + 1 + 1) ztag := by rw [hp]; exact ztr_row (Whole.at_ _ _ _ _ (by simp))
  have hb : Below w.heap.size w p := by rw [hp]; exact (((Below.refl _ _).alloc (Nat.le_refl _) _).alloc (by simp) _).alloc (by simp; omega) _
  have hps : w.heap.size + 1 + 1 < p.heap.size := hz.lt
  have hix := aindexm (h.below hb (Nat.le_refl _)) hl hK (hm.below hb (Nat.le_refl _)) hk (hmc.cell 0) (by omega)
  have HM := Lib.hid (h.below hb (Nat.le_refl _))
  have HZ := Lib.hid hz
  have HB := Lib.hid hb
  clear h hm hk hmc hz hb
  go_enter Tryd.func38, Tryd.ntmps38
  go_upto_region 1 with fail
  rw [ztr_lit, ← hp]
  clear hp
  go_wp2_with fail
  refine hix.mono ?_
  rintro x w1 ⟨⟨r, rfl, hr⟩, hb1⟩
  have HB1 := Lib.hid hb1
  have HZ1 := Lib.hid (Whole.below HZ.out hb1 hps)
  have HBF : Hid (Below w.heap.size w w1) := Lib.hid (HB.out.trans (hb1.mono HB.out.size))
  clear hix hb1
  rcases hr with ⟨rfl, hf⟩ | ⟨i, e, rfl, he, hf⟩
  · have HX := Lib.hid hf
    clear hf
    go_wp2_with (with_reducible refine wpList_store_tag rfl _ _ rfl (g := w.heap.size + 1 + 1) rfl rfl HZ1.out (tag_size (by simp)) rfl (by with_unfolding_all rfl) ?_)
    rw [ztr_lit]
    have h3 := ztr_row (Whole.setRow HZ1.out ztr)
    rw [HX.out]
    refine bodyPost_ret (results_tag2 (g := w.heap.size + 1 + 1) Tryd.results38 _ rfl _ rfl (tag_size (by simp)) h3) rfl ⟨rfl, below_setRow HBF.out (by omega) _⟩
  · obtain ⟨g, o, D, dc, rfl, hq, hg, -, -, htag, -, -, ht32, -, -⟩ := Macs.get (HM.out.below HB1.out (Nat.le_refl _)) i e he
    have hin := (List.getElem?_eq_some_iff.1 he).1
    obtain ⟨n, hn⟩ : ∃ n, n = l.length := ⟨_, rfl⟩
    rw [← hn] at hin
    have hi0 : (0 : Int) ≤ (i : Int) := by omega
    have hi1 : (i : Int) < (n : Int) := by omega
    have hi2 : ¬ (i : Int) < 0 := by omega
    have HX := Lib.hid hf
    have HT := Lib.hid ht32
    have htl : (e.tag.map byt).length = 32 := by rw [List.length_map, ht32]
    rw [hn] at hi1
    clear hf he hq ht32 hin hn
    go_wp2_with (first
      | (with_reducible refine wpList_load_mid rfl 28 _ rfl g (o + i * 65 + 33) rfl _ _ htag Tryd.underlying28 rfl (by rw [tagSize, htl]) ?_)
      | (with_reducible refine wpList_store_tag rfl _ _ rfl (g := w.heap.size + 1 + 1) rfl rfl HZ1.out (tag_size (by simp)) (tag_size HT.out) (tag_one _) ?_))
    have h3 := Whole.setRow HZ1.out (e.tag.map byt).toArray
    rw [HX.out]
    refine bodyPost_ret (results_tag2 (g := w.heap.size + 1 + 1) Tryd.results38 _ rfl _ rfl (tag_size HT.out) h3) rfl ⟨rfl, below_setRow HBF.out (by omega) _⟩
end Go.Proofs.YtiikhjifjdpgdaaDoor
namespace Go.Proofs.YtiikhjifjdpgdaaDoor
open Go Go.RowKit Sh Leaf

theorem bv109' : bv 109#8 = 109 := bv_lit 109 (by omega)
set_option linter.unusedSimpArgs false in
set_option maxRecDepth 100000 in
set_option maxHeartbeats 4000000 in
theorem antag {w : World} {Q Q2 : Nat → Prop} {x : Value} {B : Option Addr} {d : Nat} {a : Alg} {K m : List B8} (hx : AlV w Q x a) (hK : K.length = 32) (hm : Bytes w Q2 (.slice B m.length d) m) (hml : m.length ≤ 100000) (hT : Tables w) :
    Calls Tryd.prog 39 #[x, .agg (K.map byt).toArray, .slice B m.length d] w fun e w' => e = .returned (tagv (ntag a K m)) ∧ Below w.heap.size w w' := by
  obtain ⟨Am, cm, Ab, cb, rfl, -, -, hA⟩ := hx
  obtain ⟨p, hp⟩ : ∃ p, p = ((w.alloc (.cells (alc a.free a.seed a.fresh (.slice Am a.macs.length cm) (.slice Ab a.boxes.length cb)) 32)).alloc (.cells (K.map byt).toArray 28)).alloc (.cells ztr 28) := ⟨_, rfl⟩
  have hr : ALRow p w.heap.size a.free a.seed a.fresh (.slice Am a.macs.length cm) (.slice Ab a.boxes.length cb) := by rw [hp]; exact ((Whole.here _ _ _).alloc _).alloc _
  have hk : TGRow p (w.heap.size + 1) K := by rw [hp]; exact (Whole.at_ _ _ _ _ (by simp)).alloc _
  have hz : TGRow p (w.heap.size + 1 + 1) ztag := by rw [hp]; exact ztr_row (Whole.at_ _ _ _ _ (by simp))
  have hb : Below w.heap.size w p := by rw [hp]; exact (((Below.refl _ _).alloc (Nat.le_refl _) _).alloc (by simp) _).alloc (by simp; omega) _
  have hps : w.heap.size + 1 + 1 < p.heap.size := hz.lt
  obtain ⟨E, hE⟩ : ∃ E, E = ntag a K m := ⟨_, rfl⟩
  have hEl : E.length = 32 := by rw [hE]; exact ntag_length _ _ _
  have hEE := hE
  unfold ntag at hEE
  rw [← hE]
  have hmp := hm.below hb (Nat.le_refl _)
  obtain ⟨c0, c33, c34, c35⟩ := ALRow.cells hr
  have HZ := Lib.hid hz
  have HB := Lib.hid hb
  have HT := Lib.hid (hT.below (Nat.le_refl _) hb)
  have hal := hA.macs
  clear hE
  obtain ⟨F, hF⟩ : ∃ f, f = a.free := ⟨_, rfl⟩
  rw [← hF] at c0 hEE
  have HFF := Lib.hid hF
  have HMP := Lib.hid hmp
  have HK := Lib.hid hk
  clear hF hA hr hk hz hb hm hmp
  cases F
  · rw [if_neg (by simp)] at hEE
    have hby := Whole.bytes HK.out (by omega)
    rw [hK] at hby
    have hcl := hof _ _ K m _ _ p hby HMP.out HT.out (by omega) (by omega)
    rw [← hEE] at hcl
    have hst := fun g W => run_sliceAt_whole (P := Tryd.prog) (t := 28) (e := 5) (n := 32) Tryd.underlying28 (by kernel_rfl) g W
    clear hEE hby
    go_enter Tryd.func39, Tryd.ntmps39
    go_upto_region 1 with fail
    rw [ztr_lit, ← hp]
    clear hp
    go_wp2_with fail
    refine hcl.mono ?_
    rintro e w1 ⟨rfl, hb1'⟩
    have HZ1 := Lib.hid (Whole.below HZ.out hb1' hps)
    have HBF : Hid (Below w.heap.size w w1) := Lib.hid (HB.out.trans (hb1'.mono HB.out.size))
    clear hcl hb1' hst
    go_wp2_with (with_reducible refine wpList_store_tag rfl _ _ rfl (g := w.heap.size + 1 + 1) rfl rfl HZ1.out (tag_size (by simp)) (tag_size hEl) (tag_one _) ?_)
    have h3 := Whole.setRow HZ1.out (E.map byt).toArray
    refine bodyPost_ret (results_cell_row Tryd.results39 _ _ (w.heap.size + 1 + 1) _ _ _ _ rfl h3 Tryd.underlying28 rfl (by rw [tagSize, tag_size hEl])) rfl ⟨rfl, below_setRow HBF.out (by omega) _⟩
  · rw [if_pos rfl] at hEE
    have hcl := symbol 109#8 ((a.macs.length + 1 : Nat) : Int) p
    rw [bv109', ← hEE] at hcl
    have hw1 : IntKind.i64.wrap ((a.macs.length : Int) + 1) = ((a.macs.length + 1 : Nat) : Int) := by rw [IntKind.wrap_i64]; omega
    have HCL := Lib.hid hcl
    clear hEE hcl
    go_enter Tryd.func39, Tryd.ntmps39
    go_upto_region 1 with fail
    rw [ztr_lit, ← hp]
    clear hp
    go_wp2_with fail
    refine HCL.out.mono ?_
    rintro e w1 ⟨rfl, hb1'⟩
    have HZ1 := Lib.hid (Whole.below HZ.out hb1' hps)
    have HBF : Hid (Below w.heap.size w w1) := Lib.hid (HB.out.trans (hb1'.mono HB.out.size))
    clear HCL hb1'
    go_wp2_with (with_reducible refine wpList_store_tag rfl _ _ rfl (g := w.heap.size + 1 + 1) rfl rfl HZ1.out (tag_size (by simp)) (tag_size hEl) (tag_one _) ?_)
    have h3 := Whole.setRow HZ1.out (E.map byt).toArray
    refine bodyPost_ret (results_cell_row Tryd.results39 _ _ (w.heap.size + 1 + 1) _ _ _ _ rfl h3 Tryd.underlying28 rfl (by rw [tagSize, tag_size hEl])) rfl ⟨rfl, below_setRow HBF.out (by omega) _⟩
end Go.Proofs.YtiikhjifjdpgdaaDoor
